import PyProof.Rows.All
import KE.KUnpack
import PyProof.DictTruth
import PyProof.DictWalks
import PyProof.Rows.SortKeyStr
import KE.KItem
import KE.KTupSum
import KE.KEqDict
import KE.KFromBytes
import KE.KIntText
import KE.KRevIter
import KE.KDictOf
import KE.LcSums
import KE.KDictSum
import KE.KTryMore
import OpenK.KLine
import OpenK.KOwn
import Wide.Line
import Wide.FinOn
import Lean
import PySem.Challenge.RW_evenhall_k07_a_chart_by_plain_rows
set_option Elab.async false
set_option linter.all false
set_option maxRecDepth 100000
namespace L2
open PySem
noncomputable def c8 (s : Stmt) (j : Nat) : Stmt := match s with
 | .ClassDef _ _ _ body _ _ _ _ _ _ _ => body.getD j (.Pass ⟨0, 0, 0, 0⟩)
 | _ => .Pass ⟨0, 0, 0, 0⟩
noncomputable def aL (s : Stmt) : Arguments := match s with
 | .FunctionDef _ a _ _ _ _ _ _ _ _ => a
 | _ => { posonlyargs := [], args := [], vararg := none, kwonlyargs := [], kw_defaults := [], kwarg := none, defaults := [] }
noncomputable def aC (s : Stmt) : List Stmt := match s with
 | .FunctionDef _ _ b _ _ _ _ _ _ _ => b
 | _ => []
noncomputable def ai (s : Stmt) : Scope := match s with
 | .FunctionDef _ _ _ _ _ _ sc _ _ _ => sc
 | _ => { kind := .function, names := [], isGenerator := false, isCoroutine := false }
end L2
namespace K7
open PySem L2
noncomputable def top (i : Nat) : Stmt := PySem.Challenge.pw_evenhall_k07_a_chart_by_plain_rows.main.body.getD i (.Pass ⟨0, 0, 0, 0⟩)
noncomputable abbrev eJ : Stmt := top 13
noncomputable abbrev eX : Stmt := top 14
noncomputable abbrev dH : Stmt := top 15
noncomputable abbrev fH : Stmt := top 16
noncomputable abbrev h_ : Stmt := top 18
noncomputable abbrev cQ : Stmt := top 20
noncomputable abbrev dF : Stmt := top 22
noncomputable abbrev fG : Stmt := top 23
noncomputable abbrev eL : Stmt := top 24
noncomputable abbrev jP : Stmt := top 25
noncomputable abbrev cD : Stmt := top 31
noncomputable abbrev cB : Stmt := top 32
noncomputable abbrev bN : Stmt := top 33
noncomputable abbrev dI : Stmt := top 34
noncomputable abbrev cY : Stmt := top 35
noncomputable abbrev cT : Stmt := top 36
noncomputable abbrev cE : Stmt := top 37
noncomputable abbrev bP : Stmt := top 38
noncomputable abbrev cC : Stmt := top 39
noncomputable abbrev cv : Stmt := top 40
noncomputable abbrev eW : Stmt := top 41
noncomputable abbrev dG : Stmt := top 42
noncomputable abbrev dM : Stmt := top 43
noncomputable abbrev eT : Stmt := top 44
noncomputable abbrev cK : Stmt := top 45
noncomputable abbrev bH : Stmt := top 46
noncomputable abbrev cq : Stmt := top 47
noncomputable abbrev dg : Stmt := top 48
noncomputable abbrev bC : Stmt := top 49
noncomputable abbrev cS : Stmt := top 50
noncomputable abbrev bB : Stmt := top 51
noncomputable abbrev bz : Stmt := top 52
noncomputable abbrev bL : Stmt := top 53
noncomputable abbrev e9 : Stmt := top 54
noncomputable abbrev bO : Stmt := c8 (top 28) 0
noncomputable abbrev bE : Stmt := c8 (top 28) 1
noncomputable abbrev bq : Stmt := c8 (top 28) 2
noncomputable abbrev bW : Stmt := c8 (top 29) 0
noncomputable abbrev cw : Stmt := c8 (top 29) 1
noncomputable abbrev cH : Stmt := c8 (top 29) 2
noncomputable abbrev df : Stmt := c8 (top 29) 3
noncomputable abbrev dL : Stmt := c8 (top 29) 4
noncomputable abbrev cr : Stmt := c8 (top 29) 5
noncomputable abbrev cp : Stmt := c8 (top 29) 6
noncomputable abbrev bF : Stmt := c8 (top 29) 7
noncomputable abbrev cg : Stmt := c8 (top 29) 8
noncomputable abbrev cf : Stmt := c8 (top 29) 9
noncomputable abbrev cj : Stmt := c8 (top 29) 10
noncomputable abbrev bY : Stmt := c8 (top 29) 11
end K7
namespace TR
open PySem PySem.W
def go (p : Program) (w : World) (lo : Nat) (an : Option Value) : Nat -> SharedT -> Thread -> Option SharedT
 | 0, _, _ => none
 | k + 1, x, th => match through th with
  | true => some x
  | false => match stepOk lo an th with
   | false => none
   | true => match stepT (denote treeTable) p w x th with
    | none => none
    | some y => go p w lo an k y.1 y.2
theorem rm {p : Program} {w : World} {lo : Nat} {an : Option Value} (k : Nat) : ∀ {x y : SharedT} {th : Thread}, go p w lo an k x th = some y -> topRun treeTable p w lo an k x.abs th = some y.abs := by
 induction k with
 | zero => intro x y th e; cases e
 | succ k ih =>
  intro x y th e
  unfold go at e
  unfold topRun
  revert e
  cases through th with
  | true => intro e; cases e; rfl
  | false =>
   cases stepOk lo an th with
   | false => intro e; cases e
   | true =>
    dsimp only
    cases z : stepT (denote treeTable) p w x th with
    | none => intro e; cases e
    | some v =>
     intro e
     obtain ⟨v1, v2⟩ := v
     rw [stepT_spec z]
     exact ih e
noncomputable def lookB (p : Program) (b : Heap) (s : Shared) : Bool := staticsOk (importedModules p.main.body) b s.heap && namesBound p s.heap && gensDone s && laidKept b s.heap
noncomputable def look (p : Program) (P : Params) (s : Shared) : Bool := lookB p (boot_heap P) s
theorem left {p q : Program} {ls : List Str} {Xt : Shared -> Bool} {β : Type} {Yf : Shared -> β} {Ya : World -> β} {N lo : Nat} {an : Option Value} {tr : Params -> BT}
 (ho : ∀ w : World, (fencedOpening treeTable p w N).map (fun s => (s.heap, s.gens, s.drawn, s.toks)) = some (boot_heap w.params, Array.mk [], boot_drawn, boot_toks))
 (hz : ∀ P : Params, ((boot_heap P).isNs mainGlobals, (boot_heap P).objs.size, (boot_heap P).nsMap mainGlobals "__annotations__") = (true, lo, an))
 (ht : ∀ P : Params, absHeap (tr P) lo (boot_heap P).life = boot_heap P)
 (hr : ∀ w : World, (fun os => (go p w lo an N ⟨tr w.params, lo, (boot_heap w.params).life, Array.mk [], boot_drawn, boot_toks, os⟩ (topStub p)).map fun x => (look p w.params x.abs, openSeen q ls (importedModules p.main.body) Xt true x.abs, Yf x.abs)) = fun _ => some (true, openGood q ls, Ya w)) :
 LeftO p q ls Xt Yf Ya N := by
 intro w
 obtain ⟨⟨h, g, d, k, os⟩, e1, e2⟩ := Option.map_eq_some_iff.mp (ho w)
 simp only [Prod.mk.injEq] at e2
 obtain ⟨rfl, rfl, rfl, rfl⟩ := e2
 have z := hz w.params
 simp only [Prod.mk.injEq] at z
 obtain ⟨z1, z2, z3⟩ := z
 obtain ⟨x, r1, r2⟩ := Option.map_eq_some_iff.mp (congrFun (hr w) os)
 simp only [Prod.mk.injEq] at r2
 obtain ⟨l1, l2, l3⟩ := r2
 have t := rm _ r1
 have ab : SharedT.abs ⟨tr w.params, lo, (boot_heap w.params).life, Array.mk [], boot_drawn, boot_toks, os⟩ = ⟨boot_heap w.params, Array.mk [], boot_drawn, boot_toks, os⟩ := by
  show Shared.mk (absHeap (tr w.params) lo (boot_heap w.params).life) _ _ _ _ = _
  rw [ht]
 rw [ab] at t
 have f : topFrom treeTable p w N ⟨boot_heap w.params, Array.mk [], boot_drawn, boot_toks, os⟩ = some x.abs := by
  unfold topFrom
  dsimp only
  rw [z1, z2, z3, t]
  show (match look p w.params x.abs with | true => some x.abs | false => none) = _
  rw [l1]
 unfold openEnds
 rw [e1]
 show (topFrom treeTable p w N _).map _ = _
 rw [f]
 show some (_, _) = _
 rw [l2, l3]
theorem three {α β γ δ : Type} {o : Option α} {f : α -> β} {g : α -> γ} {h : α -> δ} {a : β} {b : γ} {c : δ} (e1 : o.map f = some a) (e2 : o.map g = some b) (e3 : o.map h = some c) : o.map (fun x => (f x, g x, h x)) = some (a, b, c) := by
 cases o with
 | none => cases e1
 | some x => cases e1; cases e2; cases e3; rfl
end TR
namespace K7
open PySem L2
abbrev kS (s : String) : Str := Str.ofString s
abbrev kR (a : Addr) : Value := .ref a
abbrev kY (s : String) : Value := .type s
abbrev kB (s : String) : Value := .builtin s
abbrev kZ (s : Str) (t : Tok) : Value := .str s t
abbrev kN : Value := .none
abbrev kD (h : Int) (k v : Value) : DictEntry := ⟨h, k, v⟩
abbrev kO (c : Value) (d : Option Addr) (t : Data) (s : Array (Option Value)) : Obj := ⟨c, d, t, s⟩
abbrev keyHash := PyData.keyHash
abbrev kE (P : Params) (s : String) (t : Tok) (v : Value) : DictEntry := ⟨keyHash P (kS s), kZ (kS s) t, v⟩
abbrev kI (i : Int) (t : Tok) : Value := .int i t
abbrev kz (s : String) (t : Tok) : Value := kZ (kS s) t
abbrev kC (t : Tok) : Value := kz "/claim/cut.py" t
abbrev kT (x : Array Value) : Obj := kO (kY "tuple") none (.seq x 0) #[]
abbrev kU : Value := .bool true
noncomputable abbrev q0 (a : String) (b : Nat) (c : String) (d : Nat) (e : Nat) (f : Int) (g : Int) (h : Nat) (i : Nat) (j : Nat) (k : Nat) (l : Nat) (m : Int) (n : Nat) : Obj := (kO (kY "code") none (Data.fields #[(kz a b), (kz c d), (kC e), (kI f 0), (kI g 0), (kI 0 0), (kI 0 0), (kI 3 0), (kR h), kU, (kI 181 0), (kR i), kN, (kR j), (kR k), (kR l), (kI m 0), (kI f 0), (kC n)]) #[])
noncomputable abbrev q1 (a : String) (b : Nat) (c : Nat) (d : Int) (e : Nat) : Obj := (kO (kY "function") none (Data.func (FuncData.mk (kS "small_words") (kS a) (Arguments.mk [] [(Arg.mk (kS "self") none (Pos.mk b 20 b 24))] none [] [] none []) (FuncBody.stmts [(Stmt.Expr (Expr.Call (Expr.Name (kS "_wall") (Pos.mk c 8 c 13)) [(Expr.Constant (Const.int d) 0 (Pos.mk c 14 c 15))] [] (Pos.mk c 8 c 16)) (Pos.mk c 8 c 16))]) (Scope.mk ScopeKind.function [((kS "self"), NameKind.local), ((kS "_wall"), NameKind.globalImplicit)] false false []) 3 [] kN kN kN (kz "evenhall.errors" 194) none (kR e) kN 0)) #[])
noncomputable abbrev q2 (a : String) (b : Nat) (c : String) (d : Nat) (e : Nat) (f : Int) (g : Int) (h : Nat) (i : Nat) (j : Nat) (k : Int) (l : Nat) : Obj := (kO (kY "code") none (Data.fields #[(kz a b), (kz c d), (kC e), (kI f 0), (kI g 0), (kI 0 0), (kI 0 0), (kI 3 0), (kR h), kU, (kI 181 0), (kR i), kN, kN, kN, (kR j), (kI k 0), (kI f 0), (kC l)]) #[])
noncomputable abbrev q3 (a : String) (b : Nat) (c : Nat) (d : Nat) (e : Nat) (f : Nat) : Obj := (kO (kY "type") none (Data.cls (ClassData.mk (kS a) [(kR 31)] [(kR b), (kR 31), (kY "ValueError"), (kY "Exception"), (kY "BaseException"), (kY "object")] c (kS a) true [] [] false none false)) #[(some (kR d)), none, (some (kz a e)), (some (kz a f)), (some (kB "ValueError.__new__")), (some kU)])
noncomputable abbrev q4 (P : Params) (a : Nat) (b : Nat) (c : Int) (d : Nat) (e : String) (f : Nat) (g : Nat) (h : String) (i : Nat) (j : Nat) (k : Nat) (l : Nat) : Obj := (kO (kY "dict") none (Data.dict #[(kE P "__module__" a (kz "evenhall.errors" 194)), (kE P "__firstlineno__" b (kI c d)), (kE P e f (kR g)), (kE P h i (kR j)), (kE P "__doc__" k kN)] l) #[])
noncomputable abbrev q5 (a : String) (b : Nat) (c : Nat) (d : Nat) (e : Nat) : Obj := (kO (kY "type") none (Data.cls (ClassData.mk (kS a) [(kY "object")] [(kR b), (kY "object")] c (kS a) true [] [] false none false)) #[none, none, (some (kz a d)), (some (kz a e)), (some (kB "object.__new__")), (some kU)])
noncomputable abbrev q6 (a : Nat) (b : Nat) : Obj := (kO (kY "getset_descriptor") none (Data.fields #[(kz "__weakref__" a), (kR b), (kB "ExceptionGroup.__weakref__"), kN]) #[])
noncomputable abbrev q7 (a : Nat) (b : Nat) : Obj := (kO (kY "getset_descriptor") none (Data.fields #[(kz "__dict__" a), (kR b), (kB "function.__dict__"), (kB "function.__dict__#set")]) #[])
set_option maxRecDepth 100000 in
noncomputable def frag (P : Params) : W.Frag :=
(nat_lit 2, (kO kN none (Data.dict #[] 0) #[]))::
(nat_lit 3, (kO (kY "dict") none (Data.dict #[(kE P "__name__" 165 (kz "law_evenhall_k07_a_chart_by_plain_rows" 676)), (kE P "__doc__" 166 kN), (kE P "__package__" 167 kN), (kE P "__loader__" 168 (kB "__main__.__loader__#opaque")), (kE P "__spec__" 169 kN), (kE P "__annotations__" 170 (kR 6)), (kE P "__builtins__" 171 (kR 4)), (kE P "__file__" 173 (kC 172)), (kE P "__cached__" 174 kN), (kE P "_wall" 193 (kR 21)), (kE P "HouseError" 213 (kR 31)), (kE P "BadName" 236 (kR 51)), (kE P "BadDay" 259 (kR 70)), (kE P "BadCurrency" 282 (kR 89)), (kE P "BadPath" 305 (kR 108)), (kE P "BadKind" 328 (kR 127)), (kE P "NoAccount" 351 (kR 146)), (kE P "Twice" 374 (kR 165)), (kE P "NotOpen" 397 (kR 184)), (kE P "HasBelow" 420 (kR 203)), (kE P "is_whole" 429 (kR 212)), (kE P "is_among" 438 (kR 219)), (kE P "signs_lie" 444 (kR 224)), (kE P "is_name" 451 (kR 231)), (kE P "is_day" 460 (kR 238)), (kE P "is_currency" 469 (kR 245)), (kE P "are_names" 477 (kR 250)), (kE P "is_path" 484 (kR 257)), (kE P "names_of" 491 (kR 264)), (kE P "above" 497 (kR 269)), (kE P "KINDS" 505 (kR 270)), (kE P "Account" 556 (kR 301)), (kE P "Chart" 675 (kR 397)), (kE P "_law_cell_at" 685 (kR 408)), (kE P "_law_name_by" 691 (kR 413)), (kE P "_law_currency_by" 697 (kR 418)), (kE P "_law_read" 703 (kR 423)), (kE P "_law_word" 711 (kR 430)), (kE P "_law_is_day" 718 (kR 437)), (kE P "_law_top_due" 728 (kR 444)), (kE P "_law_is_currency" 734 (kR 449)), (kE P "_law_add_due" 746 (kR 456)), (kE P "_law_shut_due" 752 (kR 461)), (kE P "_law_due" 760 (kR 468)), (kE P "_law_done" 769 (kR 475)), (kE P "_law_told" 779 (kR 482)), (kE P "_law_odd" 795 (kR 489)), (kE P "_law_deed" 811 (kR 496)), (kE P "_law_way_good" 817 (kR 501)), (kE P "_law_one_good" 831 (kR 508)), (kE P "_law_asked" 842 (kR 515)), (kE P "_law_none_good" 848 (kR 520)), (kE P "_law_listed" 858 (kR 527)), (kE P "_law_went_good" 872 (kR 534)), (kE P "_law_again_good" 889 (kR 541)), (kE P "_law_end_good" 895 (kR 546)), (kE P "law" 901 (kR 551))] 57) #[]))::
(nat_lit 15, (kT #[]))::
(nat_lit 17, (kT #[(kz "k" 190)]))::
(nat_lit 18, (kT #[]))::
(nat_lit 20, (q0 "_wall" 187 "_wall" 188 189 1 1 15 16 17 18 19 191 192))::
(nat_lit 21, (kO (kY "function") none (Data.func (FuncData.mk (kS "_wall") (kS "_wall") (Arguments.mk [] [(Arg.mk (kS "k") none (Pos.mk 1 10 1 11))] none [] [] none []) (FuncBody.stmts [(Stmt.While (Expr.Constant (Const.bool true) 0 (Pos.mk 2 10 2 14)) [(Stmt.Pass (Pos.mk 3 8 3 12))] [] (Pos.mk 2 4 3 12))]) (Scope.mk ScopeKind.function [((kS "k"), NameKind.local)] false false []) 3 [] kN kN kN (kz "__main__" 164) none (kR 20) kN 0)) #[]))::
(nat_lit 22, (kT #[(kY "ValueError")]))::
(nat_lit 29, (kT #[]))::
(nat_lit 30, (q4 P 203 207 5 206 "__static_attributes__" 208 29 "__weakref__" 210 32 211 3))::
(nat_lit 31, (kO (kY "type") none (Data.cls (ClassData.mk (kS "HouseError") [(kY "ValueError")] [(kR 31), (kY "ValueError"), (kY "Exception"), (kY "BaseException"), (kY "object")] 30 (kS "HouseError") true [] [(kR 51), (kR 70), (kR 89), (kR 108), (kR 127), (kR 146), (kR 165), (kR 184), (kR 203)] false none false)) #[(some (kR 22)), none, (some (kz "HouseError" 196)), (some (kz "HouseError" 204)), (some (kB "ValueError.__new__")), (some kU)]))::
(nat_lit 32, (q6 209 31))::
(nat_lit 35, (kT #[(kR 31)]))::
(nat_lit 42, (kT #[]))::
(nat_lit 44, (kT #[(kz "self" 229)]))::
(nat_lit 45, (kT #[]))::
(nat_lit 47, (q0 "small_words" 226 "BadName.small_words" 227 228 9 1 42 43 44 45 46 230 231))::
(nat_lit 48, (q1 "BadName.small_words" 9 10 0 47))::
(nat_lit 49, (kT #[]))::
(nat_lit 50, (q4 P 221 225 7 224 "small_words" 232 48 "__static_attributes__" 233 49 234 2))::
(nat_lit 51, (q3 "BadName" 51 50 35 214 222))::
(nat_lit 54, (kT #[(kR 31)]))::
(nat_lit 61, (kT #[]))::
(nat_lit 63, (kT #[(kz "self" 252)]))::
(nat_lit 64, (kT #[]))::
(nat_lit 66, (q0 "small_words" 249 "BadDay.small_words" 250 251 13 1 61 62 63 64 65 253 254))::
(nat_lit 67, (q1 "BadDay.small_words" 13 14 1 66))::
(nat_lit 68, (kT #[]))::
(nat_lit 69, (q4 P 244 248 11 247 "small_words" 255 67 "__static_attributes__" 256 68 257 2))::
(nat_lit 70, (q3 "BadDay" 70 69 54 237 245))::
(nat_lit 73, (kT #[(kR 31)]))::
(nat_lit 80, (kT #[]))::
(nat_lit 82, (kT #[(kz "self" 275)]))::
(nat_lit 83, (kT #[]))::
(nat_lit 85, (q0 "small_words" 272 "BadCurrency.small_words" 273 274 17 1 80 81 82 83 84 276 277))::
(nat_lit 86, (q1 "BadCurrency.small_words" 17 18 2 85))::
(nat_lit 87, (kT #[]))::
(nat_lit 88, (q4 P 267 271 15 270 "small_words" 278 86 "__static_attributes__" 279 87 280 2))::
(nat_lit 89, (q3 "BadCurrency" 89 88 73 260 268))::
(nat_lit 92, (kT #[(kR 31)]))::
(nat_lit 99, (kT #[]))::
(nat_lit 101, (kT #[(kz "self" 298)]))::
(nat_lit 102, (kT #[]))::
(nat_lit 104, (q0 "small_words" 295 "BadPath.small_words" 296 297 21 1 99 100 101 102 103 299 300))::
(nat_lit 105, (q1 "BadPath.small_words" 21 22 3 104))::
(nat_lit 106, (kT #[]))::
(nat_lit 107, (q4 P 290 294 19 293 "small_words" 301 105 "__static_attributes__" 302 106 303 2))::
(nat_lit 108, (q3 "BadPath" 108 107 92 283 291))::
(nat_lit 111, (kT #[(kR 31)]))::
(nat_lit 118, (kT #[]))::
(nat_lit 120, (kT #[(kz "self" 321)]))::
(nat_lit 121, (kT #[]))::
(nat_lit 123, (q0 "small_words" 318 "BadKind.small_words" 319 320 25 1 118 119 120 121 122 322 323))::
(nat_lit 124, (q1 "BadKind.small_words" 25 26 4 123))::
(nat_lit 125, (kT #[]))::
(nat_lit 126, (q4 P 313 317 23 316 "small_words" 324 124 "__static_attributes__" 325 125 326 2))::
(nat_lit 127, (q3 "BadKind" 127 126 111 306 314))::
(nat_lit 130, (kT #[(kR 31)]))::
(nat_lit 137, (kT #[]))::
(nat_lit 139, (kT #[(kz "self" 344)]))::
(nat_lit 140, (kT #[]))::
(nat_lit 142, (q0 "small_words" 341 "NoAccount.small_words" 342 343 29 1 137 138 139 140 141 345 346))::
(nat_lit 143, (q1 "NoAccount.small_words" 29 30 5 142))::
(nat_lit 144, (kT #[]))::
(nat_lit 145, (q4 P 336 340 27 339 "small_words" 347 143 "__static_attributes__" 348 144 349 2))::
(nat_lit 146, (q3 "NoAccount" 146 145 130 329 337))::
(nat_lit 149, (kT #[(kR 31)]))::
(nat_lit 156, (kT #[]))::
(nat_lit 158, (kT #[(kz "self" 367)]))::
(nat_lit 159, (kT #[]))::
(nat_lit 161, (q0 "small_words" 364 "Twice.small_words" 365 366 33 1 156 157 158 159 160 368 369))::
(nat_lit 162, (q1 "Twice.small_words" 33 34 6 161))::
(nat_lit 163, (kT #[]))::
(nat_lit 164, (q4 P 359 363 31 362 "small_words" 370 162 "__static_attributes__" 371 163 372 2))::
(nat_lit 165, (q3 "Twice" 165 164 149 352 360))::
(nat_lit 168, (kT #[(kR 31)]))::
(nat_lit 175, (kT #[]))::
(nat_lit 177, (kT #[(kz "self" 390)]))::
(nat_lit 178, (kT #[]))::
(nat_lit 180, (q0 "small_words" 387 "NotOpen.small_words" 388 389 37 1 175 176 177 178 179 391 392))::
(nat_lit 181, (q1 "NotOpen.small_words" 37 38 7 180))::
(nat_lit 182, (kT #[]))::
(nat_lit 183, (q4 P 382 386 35 385 "small_words" 393 181 "__static_attributes__" 394 182 395 2))::
(nat_lit 184, (q3 "NotOpen" 184 183 168 375 383))::
(nat_lit 187, (kT #[(kR 31)]))::
(nat_lit 194, (kT #[]))::
(nat_lit 196, (kT #[(kz "self" 413)]))::
(nat_lit 197, (kT #[]))::
(nat_lit 199, (q0 "small_words" 410 "HasBelow.small_words" 411 412 41 1 194 195 196 197 198 414 415))::
(nat_lit 200, (q1 "HasBelow.small_words" 41 42 8 199))::
(nat_lit 201, (kT #[]))::
(nat_lit 202, (q4 P 405 409 39 408 "small_words" 416 200 "__static_attributes__" 417 201 418 2))::
(nat_lit 203, (q3 "HasBelow" 203 202 187 398 406))::
(nat_lit 206, (kT #[]))::
(nat_lit 208, (kT #[(kz "thing" 426)]))::
(nat_lit 209, (kT #[]))::
(nat_lit 211, (q0 "is_whole" 423 "is_whole" 424 425 44 1 206 207 208 209 210 427 428))::
(nat_lit 212, (kO (kY "function") none (Data.func (PySem.W.fnOf (kS "is_whole") (kS "is_whole") (aL eJ) (aC eJ) (ai eJ) kN kN kN (kz "evenhall.words" 421) none (kR 211) kN)) #[]))::
(nat_lit 213, (kT #[]))::
(nat_lit 215, (kT #[(kz "thing" 433), (kz "least" 434), (kz "most" 435)]))::
(nat_lit 216, (kT #[]))::
(nat_lit 218, (q0 "is_among" 430 "is_among" 431 432 46 3 213 214 215 216 217 436 437))::
(nat_lit 219, (kO (kY "function") none (Data.func (PySem.W.fnOf (kS "is_among") (kS "is_among") (aL eX) (aC eX) (ai eX) kN kN kN (kz "evenhall.words" 421) none (kR 218) kN)) #[]))::
(nat_lit 220, (kT #[]))::
(nat_lit 223, (q2 "signs_lie" 439 "signs_lie" 440 441 48 3 220 221 222 442 443))::
(nat_lit 224, (kO (kY "function") none (Data.func (PySem.W.fnOf (kS "signs_lie") (kS "signs_lie") (aL dH) (aC dH) (ai dH) kN kN kN (kz "evenhall.words" 421) none (kR 223) kN)) #[]))::
(nat_lit 225, (kT #[]))::
(nat_lit 227, (kT #[(kz "thing" 448)]))::
(nat_lit 228, (kT #[]))::
(nat_lit 230, (q0 "is_name" 445 "is_name" 446 447 50 1 225 226 227 228 229 449 450))::
(nat_lit 231, (kO (kY "function") none (Data.func (PySem.W.fnOf (kS "is_name") (kS "is_name") (aL fH) (aC fH) (ai fH) kN kN kN (kz "evenhall.words" 421) none (kR 230) kN)) #[]))::
(nat_lit 232, (kT #[]))::
(nat_lit 234, (kT #[(kz "thing" 457)]))::
(nat_lit 235, (kT #[]))::
(nat_lit 237, (q0 "is_day" 454 "is_day" 455 456 53 1 232 233 234 235 236 458 459))::
(nat_lit 238, (kO (kY "function") none (Data.func (PySem.W.fnOf (kS "is_day") (kS "is_day") (aL h_) (aC h_) (ai h_) kN kN kN (kz "evenhall.days" 452) none (kR 237) kN)) #[]))::
(nat_lit 239, (kT #[]))::
(nat_lit 241, (kT #[(kz "thing" 466)]))::
(nat_lit 242, (kT #[]))::
(nat_lit 244, (q0 "is_currency" 463 "is_currency" 464 465 56 1 239 240 241 242 243 467 468))::
(nat_lit 245, (kO (kY "function") none (Data.func (PySem.W.fnOf (kS "is_currency") (kS "is_currency") (aL cQ) (aC cQ) (ai cQ) kN kN kN (kz "evenhall.money" 461) none (kR 244) kN)) #[]))::
(nat_lit 246, (kT #[]))::
(nat_lit 249, (q2 "are_names" 472 "are_names" 473 474 59 1 246 247 248 475 476))::
(nat_lit 250, (kO (kY "function") none (Data.func (PySem.W.fnOf (kS "are_names") (kS "are_names") (aL dF) (aC dF) (ai dF) kN kN kN (kz "evenhall.paths" 470) none (kR 249) kN)) #[]))::
(nat_lit 251, (kT #[]))::
(nat_lit 253, (kT #[(kz "thing" 481)]))::
(nat_lit 254, (kT #[]))::
(nat_lit 256, (q0 "is_path" 478 "is_path" 479 480 61 1 251 252 253 254 255 482 483))::
(nat_lit 257, (kO (kY "function") none (Data.func (PySem.W.fnOf (kS "is_path") (kS "is_path") (aL fG) (aC fG) (ai fG) kN kN kN (kz "evenhall.paths" 470) none (kR 256) kN)) #[]))::
(nat_lit 258, (kT #[]))::
(nat_lit 260, (kT #[(kz "path" 488)]))::
(nat_lit 261, (kT #[]))::
(nat_lit 263, (q0 "names_of" 485 "names_of" 486 487 63 1 258 259 260 261 262 489 490))::
(nat_lit 264, (kO (kY "function") none (Data.func (PySem.W.fnOf (kS "names_of") (kS "names_of") (aL eL) (aC eL) (ai eL) kN kN kN (kz "evenhall.paths" 470) none (kR 263) kN)) #[]))::
(nat_lit 265, (kT #[]))::
(nat_lit 268, (q2 "above" 492 "above" 493 494 67 1 265 266 267 495 496))::
(nat_lit 269, (kO (kY "function") none (Data.func (PySem.W.fnOf (kS "above") (kS "above") (aL jP) (aC jP) (ai jP) kN kN kN (kz "evenhall.paths" 470) none (kR 268) kN)) #[]))::
(nat_lit 270, (kT #[(kz "have" 500), (kz "owe" 501), (kz "own" 502), (kz "gain" 503), (kz "cost" 504)]))::
(nat_lit 278, (kT #[]))::
(nat_lit 280, (kT #[(kz "self" 521), (kz "kind" 522), (kz "currency" 523), (kz "first" 524)]))::
(nat_lit 281, (kT #[]))::
(nat_lit 283, (q0 "__init__" 518 "Account.__init__" 519 520 74 4 278 279 280 281 282 525 526))::
(nat_lit 284, (kO (kY "function") none (Data.func (PySem.W.fnOf (kS "__init__") (kS "Account.__init__") (aL bO) (aC bO) (ai bO) kN kN kN (kz "evenhall.chart" 498) none (kR 283) kN)) #[]))::
(nat_lit 285, (kT #[]))::
(nat_lit 287, (kT #[(kz "self" 531), (kz "day" 532)]))::
(nat_lit 288, (kT #[]))::
(nat_lit 290, (q0 "stands_on" 528 "Account.stands_on" 529 530 81 2 285 286 287 288 289 533 534))::
(nat_lit 291, (kO (kY "function") none (Data.func (PySem.W.fnOf (kS "stands_on") (kS "Account.stands_on") (aL bE) (aC bE) (ai bE) kN kN kN (kz "evenhall.chart" 498) none (kR 290) kN)) #[]))::
(nat_lit 292, (kT #[]))::
(nat_lit 294, (kT #[(kz "self" 539), (kz "day" 540)]))::
(nat_lit 295, (kT #[]))::
(nat_lit 297, (q0 "stands_later" 536 "Account.stands_later" 537 538 84 2 292 293 294 295 296 541 542))::
(nat_lit 298, (kO (kY "function") none (Data.func (PySem.W.fnOf (kS "stands_later") (kS "Account.stands_later") (aL bq) (aC bq) (ai bq) kN kN kN (kz "evenhall.chart" 498) none (kR 297) kN)) #[]))::
(nat_lit 299, (kT #[(kz "below" 544), (kz "currency" 545), (kz "first" 546), (kz "kind" 547), (kz "until" 548)]))::
(nat_lit 300, (kO (kY "dict") none (Data.dict #[(kE P "__module__" 513 (kz "evenhall.chart" 498)), (kE P "__firstlineno__" 517 (kI 72 516)), (kE P "__init__" 527 (kR 284)), (kE P "stands_on" 535 (kR 291)), (kE P "stands_later" 543 (kR 298)), (kE P "__static_attributes__" 549 (kR 299)), (kE P "__dict__" 551 (kR 302)), (kE P "__weakref__" 553 (kR 303)), (kE P "__doc__" 554 kN)] 4) #[]))::
(nat_lit 301, (q5 "Account" 301 300 506 514))::
(nat_lit 302, (q7 550 301))::
(nat_lit 303, (q6 552 301))::
(nat_lit 313, (kT #[]))::
(nat_lit 315, (kT #[(kz "self" 572)]))::
(nat_lit 316, (kT #[]))::
(nat_lit 318, (q0 "__init__" 569 "Chart.__init__" 570 571 88 1 313 314 315 316 317 573 574))::
(nat_lit 319, (kO (kY "function") none (Data.func (PySem.W.fnOf (kS "__init__") (kS "Chart.__init__") (aL bW) (aC bW) (ai bW) kN kN kN (kz "evenhall.chart" 498) none (kR 318) kN)) #[]))::
(nat_lit 320, (kT #[]))::
(nat_lit 322, (kT #[(kz "self" 579), (kz "name" 580), (kz "kind" 581)]))::
(nat_lit 323, (kT #[]))::
(nat_lit 325, (q0 "add_top" 576 "Chart.add_top" 577 578 91 3 320 321 322 323 324 582 583))::
(nat_lit 326, (kO (kY "function") none (Data.func (PySem.W.fnOf (kS "add_top") (kS "Chart.add_top") (aL cw) (aC cw) (ai cw) kN kN kN (kz "evenhall.chart" 498) none (kR 325) kN)) #[]))::
(nat_lit 327, (kT #[]))::
(nat_lit 329, (kT #[(kz "self" 588), (kz "path" 589), (kz "currency" 590), (kz "day" 591), (kz "upper" 592)]))::
(nat_lit 330, (kT #[]))::
(nat_lit 332, (q0 "add" 585 "Chart.add" 586 587 100 4 327 328 329 330 331 593 594))::
(nat_lit 333, (kO (kY "function") none (Data.func (PySem.W.fnOf (kS "add") (kS "Chart.add") (aL cH) (aC cH) (ai cH) kN kN kN (kz "evenhall.chart" 498) none (kR 332) kN)) #[]))::
(nat_lit 334, (kT #[]))::
(nat_lit 337, (q2 "shut" 596 "Chart.shut" 597 598 115 3 334 335 336 599 600))::
(nat_lit 338, (kO (kY "function") none (Data.func (PySem.W.fnOf (kS "shut") (kS "Chart.shut") (aL df) (aC df) (ai df) kN kN kN (kz "evenhall.chart" 498) none (kR 337) kN)) #[]))::
(nat_lit 339, (kT #[]))::
(nat_lit 341, (kT #[(kz "self" 605), (kz "path" 606)]))::
(nat_lit 342, (kT #[]))::
(nat_lit 344, (q0 "has" 602 "Chart.has" 603 604 127 2 339 340 341 342 343 607 608))::
(nat_lit 345, (kO (kY "function") none (Data.func (PySem.W.fnOf (kS "has") (kS "Chart.has") (aL dL) (aC dL) (ai dL) kN kN kN (kz "evenhall.chart" 498) none (kR 344) kN)) #[]))::
(nat_lit 346, (kT #[]))::
(nat_lit 348, (kT #[(kz "self" 613), (kz "path" 614)]))::
(nat_lit 349, (kT #[]))::
(nat_lit 351, (q0 "account" 610 "Chart.account" 611 612 130 2 346 347 348 349 350 615 616))::
(nat_lit 352, (kO (kY "function") none (Data.func (PySem.W.fnOf (kS "account") (kS "Chart.account") (aL cr) (aC cr) (ai cr) kN kN kN (kz "evenhall.chart" 498) none (kR 351) kN)) #[]))::
(nat_lit 353, (kT #[]))::
(nat_lit 355, (kT #[(kz "self" 621), (kz "path" 622)]))::
(nat_lit 356, (kT #[]))::
(nat_lit 358, (q0 "kind_of" 618 "Chart.kind_of" 619 620 135 2 353 354 355 356 357 623 624))::
(nat_lit 359, (kO (kY "function") none (Data.func (PySem.W.fnOf (kS "kind_of") (kS "Chart.kind_of") (aL cp) (aC cp) (ai cp) kN kN kN (kz "evenhall.chart" 498) none (kR 358) kN)) #[]))::
(nat_lit 360, (kT #[]))::
(nat_lit 362, (kT #[(kz "self" 629), (kz "path" 630)]))::
(nat_lit 363, (kT #[]))::
(nat_lit 365, (q0 "currency_of" 626 "Chart.currency_of" 627 628 138 2 360 361 362 363 364 631 632))::
(nat_lit 366, (kO (kY "function") none (Data.func (PySem.W.fnOf (kS "currency_of") (kS "Chart.currency_of") (aL bF) (aC bF) (ai bF) kN kN kN (kz "evenhall.chart" 498) none (kR 365) kN)) #[]))::
(nat_lit 367, (kT #[]))::
(nat_lit 369, (kT #[(kz "self" 637), (kz "path" 638), (kz "account" 639)]))::
(nat_lit 370, (kT #[]))::
(nat_lit 372, (q0 "span_of" 634 "Chart.span_of" 635 636 141 2 367 368 369 370 371 640 641))::
(nat_lit 373, (kO (kY "function") none (Data.func (PySem.W.fnOf (kS "span_of") (kS "Chart.span_of") (aL cg) (aC cg) (ai cg) kN kN kN (kz "evenhall.chart" 498) none (kR 372) kN)) #[]))::
(nat_lit 374, (kT #[]))::
(nat_lit 376, (kT #[(kz "self" 646), (kz "path" 647), (kz "day" 648)]))::
(nat_lit 377, (kT #[]))::
(nat_lit 379, (q0 "is_open" 643 "Chart.is_open" 644 645 145 3 374 375 376 377 378 649 650))::
(nat_lit 380, (kO (kY "function") none (Data.func (PySem.W.fnOf (kS "is_open") (kS "Chart.is_open") (aL cf) (aC cf) (ai cf) kN kN kN (kz "evenhall.chart" 498) none (kR 379) kN)) #[]))::
(nat_lit 381, (kT #[]))::
(nat_lit 383, (kT #[(kz "self" 655), (kz "path" 656)]))::
(nat_lit 384, (kT #[]))::
(nat_lit 386, (q0 "beneath" 652 "Chart.beneath" 653 654 148 2 381 382 383 384 385 657 658))::
(nat_lit 387, (kO (kY "function") none (Data.func (PySem.W.fnOf (kS "beneath") (kS "Chart.beneath") (aL cj) (aC cj) (ai cj) kN kN kN (kz "evenhall.chart" 498) none (kR 386) kN)) #[]))::
(nat_lit 388, (kT #[]))::
(nat_lit 390, (kT #[(kz "self" 663)]))::
(nat_lit 391, (kT #[]))::
(nat_lit 393, (q0 "accounts" 660 "Chart.accounts" 661 662 151 1 388 389 390 391 392 664 665))::
(nat_lit 394, (kO (kY "function") none (Data.func (PySem.W.fnOf (kS "accounts") (kS "Chart.accounts") (aL bY) (aC bY) (ai bY) kN kN kN (kz "evenhall.chart" 498) none (kR 393) kN)) #[]))::
(nat_lit 395, (kT #[(kz "by_path" 667)]))::
(nat_lit 396, (kO (kY "dict") none (Data.dict #[(kE P "__module__" 564 (kz "evenhall.chart" 498)), (kE P "__firstlineno__" 568 (kI 86 567)), (kE P "__init__" 575 (kR 319)), (kE P "add_top" 584 (kR 326)), (kE P "add" 595 (kR 333)), (kE P "shut" 601 (kR 338)), (kE P "has" 609 (kR 345)), (kE P "account" 617 (kR 352)), (kE P "kind_of" 625 (kR 359)), (kE P "currency_of" 633 (kR 366)), (kE P "span_of" 642 (kR 373)), (kE P "is_open" 651 (kR 380)), (kE P "beneath" 659 (kR 387)), (kE P "accounts" 666 (kR 394)), (kE P "__static_attributes__" 668 (kR 395)), (kE P "__dict__" 670 (kR 398)), (kE P "__weakref__" 672 (kR 399)), (kE P "__doc__" 673 kN)] 4) #[]))::
(nat_lit 397, (q5 "Chart" 397 396 557 565))::
(nat_lit 398, (q7 669 397))::
(nat_lit 399, (q6 671 397))::
(nat_lit 402, (kT #[]))::
(nat_lit 404, (kT #[(kz "_law_script" 681), (kz "_law_k" 682)]))::
(nat_lit 405, (kT #[]))::
(nat_lit 407, (q0 "_law_cell_at" 678 "_law_cell_at" 679 680 154 2 402 403 404 405 406 683 684))::
(nat_lit 408, (kO (kY "function") none (Data.func (PySem.W.fnOf (kS "_law_cell_at") (kS "_law_cell_at") (aL cD) (aC cD) (ai cD) kN kN kN (kz "law_evenhall_k07_a_chart_by_plain_rows" 676) none (kR 407) kN)) #[]))::
(nat_lit 409, (kT #[]))::
(nat_lit 412, (q2 "_law_name_by" 686 "_law_name_by" 687 688 158 2 409 410 411 689 690))::
(nat_lit 413, (kO (kY "function") none (Data.func (PySem.W.fnOf (kS "_law_name_by") (kS "_law_name_by") (aL cB) (aC cB) (ai cB) kN kN kN (kz "law_evenhall_k07_a_chart_by_plain_rows" 676) none (kR 412) kN)) #[]))::
(nat_lit 414, (kT #[]))::
(nat_lit 417, (q2 "_law_currency_by" 692 "_law_currency_by" 693 694 168 2 414 415 416 695 696))::
(nat_lit 418, (kO (kY "function") none (Data.func (PySem.W.fnOf (kS "_law_currency_by") (kS "_law_currency_by") (aL bN) (aC bN) (ai bN) kN kN kN (kz "law_evenhall_k07_a_chart_by_plain_rows" 676) none (kR 417) kN)) #[]))::
(nat_lit 419, (kT #[]))::
(nat_lit 422, (q2 "_law_read" 698 "_law_read" 699 700 174 1 419 420 421 701 702))::
(nat_lit 423, (kO (kY "function") none (Data.func (PySem.W.fnOf (kS "_law_read") (kS "_law_read") (aL dI) (aC dI) (ai dI) kN kN kN (kz "law_evenhall_k07_a_chart_by_plain_rows" 676) none (kR 422) kN)) #[]))::
(nat_lit 424, (kT #[]))::
(nat_lit 426, (kT #[(kz "_law_e" 707), (kz "_law_found" 708)]))::
(nat_lit 427, (kT #[]))::
(nat_lit 429, (q0 "_law_word" 704 "_law_word" 705 706 188 1 424 425 426 427 428 709 710))::
(nat_lit 430, (kO (kY "function") none (Data.func (PySem.W.fnOf (kS "_law_word") (kS "_law_word") (aL cY) (aC cY) (ai cY) kN kN kN (kz "law_evenhall_k07_a_chart_by_plain_rows" 676) none (kR 429) kN)) #[]))::
(nat_lit 431, (kT #[]))::
(nat_lit 433, (kT #[(kz "_law_day" 715)]))::
(nat_lit 434, (kT #[]))::
(nat_lit 436, (q0 "_law_is_day" 712 "_law_is_day" 713 714 195 1 431 432 433 434 435 716 717))::
(nat_lit 437, (kO (kY "function") none (Data.func (PySem.W.fnOf (kS "_law_is_day") (kS "_law_is_day") (aL cT) (aC cT) (ai cT) kN kN kN (kz "law_evenhall_k07_a_chart_by_plain_rows" 676) none (kR 436) kN)) #[]))::
(nat_lit 438, (kT #[]))::
(nat_lit 440, (kT #[(kz "_law_rows" 722), (kz "_law_name" 723), (kz "_law_kind" 724), (kz "_law_names" 725)]))::
(nat_lit 441, (kT #[]))::
(nat_lit 443, (q0 "_law_top_due" 719 "_law_top_due" 720 721 197 3 438 439 440 441 442 726 727))::
(nat_lit 444, (kO (kY "function") none (Data.func (PySem.W.fnOf (kS "_law_top_due") (kS "_law_top_due") (aL cE) (aC cE) (ai cE) kN kN kN (kz "law_evenhall_k07_a_chart_by_plain_rows" 676) none (kR 443) kN)) #[]))::
(nat_lit 445, (kT #[]))::
(nat_lit 448, (q2 "_law_is_currency" 729 "_law_is_currency" 730 731 204 1 445 446 447 732 733))::
(nat_lit 449, (kO (kY "function") none (Data.func (PySem.W.fnOf (kS "_law_is_currency") (kS "_law_is_currency") (aL bP) (aC bP) (ai bP) kN kN kN (kz "law_evenhall_k07_a_chart_by_plain_rows" 676) none (kR 448) kN)) #[]))::
(nat_lit 450, (kT #[]))::
(nat_lit 452, (kT #[(kz "_law_rows" 738), (kz "_law_path" 739), (kz "_law_currency" 740), (kz "_law_day" 741), (kz "_law_names" 742), (kz "_law_upper" 743)]))::
(nat_lit 453, (kT #[]))::
(nat_lit 455, (q0 "_law_add_due" 735 "_law_add_due" 736 737 208 4 450 451 452 453 454 744 745))::
(nat_lit 456, (kO (kY "function") none (Data.func (PySem.W.fnOf (kS "_law_add_due") (kS "_law_add_due") (aL cC) (aC cC) (ai cC) kN kN kN (kz "law_evenhall_k07_a_chart_by_plain_rows" 676) none (kR 455) kN)) #[]))::
(nat_lit 457, (kT #[]))::
(nat_lit 460, (q2 "_law_shut_due" 747 "_law_shut_due" 748 749 222 3 457 458 459 750 751))::
(nat_lit 461, (kO (kY "function") none (Data.func (PySem.W.fnOf (kS "_law_shut_due") (kS "_law_shut_due") (aL cv) (aC cv) (ai cv) kN kN kN (kz "law_evenhall_k07_a_chart_by_plain_rows" 676) none (kR 460) kN)) #[]))::
(nat_lit 462, (kT #[]))::
(nat_lit 464, (kT #[(kz "_law_rows" 756), (kz "_law_deed_here" 757)]))::
(nat_lit 465, (kT #[]))::
(nat_lit 467, (q0 "_law_due" 753 "_law_due" 754 755 233 2 462 463 464 465 466 758 759))::
(nat_lit 468, (kO (kY "function") none (Data.func (PySem.W.fnOf (kS "_law_due") (kS "_law_due") (aL eW) (aC eW) (ai eW) kN kN kN (kz "law_evenhall_k07_a_chart_by_plain_rows" 676) none (kR 467) kN)) #[]))::
(nat_lit 469, (kT #[]))::
(nat_lit 471, (kT #[(kz "_law_rows" 764), (kz "_law_kinds" 765), (kz "_law_deed_here" 766)]))::
(nat_lit 472, (kT #[]))::
(nat_lit 474, (q0 "_law_done" 761 "_law_done" 762 763 239 3 469 470 471 472 473 767 768))::
(nat_lit 475, (kO (kY "function") none (Data.func (PySem.W.fnOf (kS "_law_done") (kS "_law_done") (aL dG) (aC dG) (ai dG) kN kN kN (kz "law_evenhall_k07_a_chart_by_plain_rows" 676) none (kR 474) kN)) #[]))::
(nat_lit 476, (kT #[]))::
(nat_lit 478, (kT #[(kz "_law_chart" 773), (kz "_law_deed_here" 774), (kz "_law_found" 775), (kz "_law_e" 776)]))::
(nat_lit 479, (kT #[]))::
(nat_lit 481, (q0 "_law_told" 770 "_law_told" 771 772 247 2 476 477 478 479 480 777 778))::
(nat_lit 482, (kO (kY "function") none (Data.func (PySem.W.fnOf (kS "_law_told") (kS "_law_told") (aL dM) (aC dM) (ai dM) kN kN kN (kz "law_evenhall_k07_a_chart_by_plain_rows" 676) none (kR 481) kN)) #[]))::
(nat_lit 483, (kT #[]))::
(nat_lit 485, (kT #[(kz "_law_names" 783), (kz "_law_path" 784), (kz "_law_day" 785), (kz "_law_cell" 786), (kz "_law_more" 787), (kz "_law_name" 788), (kz "_law_at" 789), (kz "_law_far" 790), (kz "_law_wrong" 791), (kz "_law_when" 792)]))::
(nat_lit 486, (kT #[]))::
(nat_lit 488, (q0 "_law_odd" 780 "_law_odd" 781 782 259 5 483 484 485 486 487 793 794))::
(nat_lit 489, (kO (kY "function") none (Data.func (PySem.W.fnOf (kS "_law_odd") (kS "_law_odd") (aL eT) (aC eT) (ai eT) kN kN kN (kz "law_evenhall_k07_a_chart_by_plain_rows" 676) none (kR 488) kN)) #[]))::
(nat_lit 490, (kT #[]))::
(nat_lit 492, (kT #[(kz "_law_rows" 799), (kz "_law_names" 800), (kz "_law_coins" 801), (kz "_law_kind" 802), (kz "_law_cell" 803), (kz "_law_more" 804), (kz "_law_base" 805), (kz "_law_day" 806), (kz "_law_known" 807), (kz "_law_path" 808)]))::
(nat_lit 493, (kT #[]))::
(nat_lit 495, (q0 "_law_deed" 796 "_law_deed" 797 798 276 7 490 491 492 493 494 809 810))::
(nat_lit 496, (kO (kY "function") none (Data.func (PySem.W.fnOf (kS "_law_deed") (kS "_law_deed") (aL cK) (aC cK) (ai cK) kN kN kN (kz "law_evenhall_k07_a_chart_by_plain_rows" 676) none (kR 495) kN)) #[]))::
(nat_lit 497, (kT #[]))::
(nat_lit 500, (q2 "_law_way_good" 812 "_law_way_good" 813 814 289 7 497 498 499 815 816))::
(nat_lit 501, (kO (kY "function") none (Data.func (PySem.W.fnOf (kS "_law_way_good") (kS "_law_way_good") (aL bH) (aC bH) (ai bH) kN kN kN (kz "law_evenhall_k07_a_chart_by_plain_rows" 676) none (kR 500) kN)) #[]))::
(nat_lit 502, (kT #[]))::
(nat_lit 504, (kT #[(kz "_law_chart" 821), (kz "_law_rows" 822), (kz "_law_kinds" 823), (kz "_law_path" 824), (kz "_law_day" 825), (kz "_law_held" 826), (kz "_law_turn" 827), (kz "_law_k" 828)]))::
(nat_lit 505, (kT #[]))::
(nat_lit 507, (q0 "_law_one_good" 818 "_law_one_good" 819 820 310 7 502 503 504 505 506 829 830))::
(nat_lit 508, (kO (kY "function") none (Data.func (PySem.W.fnOf (kS "_law_one_good") (kS "_law_one_good") (aL cq) (aC cq) (ai cq) kN kN kN (kz "law_evenhall_k07_a_chart_by_plain_rows" 676) none (kR 507) kN)) #[]))::
(nat_lit 509, (kT #[]))::
(nat_lit 511, (kT #[(kz "_law_chart" 835), (kz "_law_way" 836), (kz "_law_thing" 837), (kz "_law_day" 838), (kz "_law_e" 839)]))::
(nat_lit 512, (kT #[]))::
(nat_lit 514, (q0 "_law_asked" 832 "_law_asked" 833 834 315 4 509 510 511 512 513 840 841))::
(nat_lit 515, (kO (kY "function") none (Data.func (PySem.W.fnOf (kS "_law_asked") (kS "_law_asked") (aL dg) (aC dg) (ai dg) kN kN kN (kz "law_evenhall_k07_a_chart_by_plain_rows" 676) none (kR 514) kN)) #[]))::
(nat_lit 516, (kT #[]))::
(nat_lit 519, (q2 "_law_none_good" 843 "_law_none_good" 844 845 330 4 516 517 518 846 847))::
(nat_lit 520, (kO (kY "function") none (Data.func (PySem.W.fnOf (kS "_law_none_good") (kS "_law_none_good") (aL bC) (aC bC) (ai bC) kN kN kN (kz "law_evenhall_k07_a_chart_by_plain_rows" 676) none (kR 519) kN)) #[]))::
(nat_lit 521, (kT #[]))::
(nat_lit 523, (kT #[(kz "_law_chart" 852), (kz "_law_rows" 853), (kz "_law_held" 854), (kz "_law_found" 855)]))::
(nat_lit 524, (kT #[]))::
(nat_lit 526, (q0 "_law_listed" 849 "_law_listed" 850 851 336 3 521 522 523 524 525 856 857))::
(nat_lit 527, (kO (kY "function") none (Data.func (PySem.W.fnOf (kS "_law_listed") (kS "_law_listed") (aL cS) (aC cS) (ai cS) kN kN kN (kz "law_evenhall_k07_a_chart_by_plain_rows" 676) none (kR 526) kN)) #[]))::
(nat_lit 528, (kT #[]))::
(nat_lit 530, (kT #[(kz "_law_chart" 862), (kz "_law_rows" 863), (kz "_law_kinds" 864), (kz "_law_deed_here" 865), (kz "_law_day" 866), (kz "_law_held" 867), (kz "_law_turn" 868), (kz "_law_due_here" 869)]))::
(nat_lit 531, (kT #[]))::
(nat_lit 533, (q0 "_law_went_good" 859 "_law_went_good" 860 861 343 7 528 529 530 531 532 870 871))::
(nat_lit 534, (kO (kY "function") none (Data.func (PySem.W.fnOf (kS "_law_went_good") (kS "_law_went_good") (aL bB) (aC bB) (ai bB) kN kN kN (kz "law_evenhall_k07_a_chart_by_plain_rows" 676) none (kR 533) kN)) #[]))::
(nat_lit 535, (kT #[]))::
(nat_lit 537, (kT #[(kz "_law_chart" 876), (kz "_law_rows" 877), (kz "_law_kinds" 878), (kz "_law_names" 879), (kz "_law_base" 880), (kz "_law_held" 881), (kz "_law_path" 882), (kz "_law_low" 883), (kz "_law_deeds" 884), (kz "_law_k" 885), (kz "_law_deed_here" 886)]))::
(nat_lit 538, (kT #[]))::
(nat_lit 540, (q0 "_law_again_good" 873 "_law_again_good" 874 875 351 6 535 536 537 538 539 887 888))::
(nat_lit 541, (kO (kY "function") none (Data.func (PySem.W.fnOf (kS "_law_again_good") (kS "_law_again_good") (aL bz) (aC bz) (ai bz) kN kN kN (kz "law_evenhall_k07_a_chart_by_plain_rows" 676) none (kR 540) kN)) #[]))::
(nat_lit 542, (kT #[]))::
(nat_lit 545, (q2 "_law_end_good" 890 "_law_end_good" 891 892 360 5 542 543 544 893 894))::
(nat_lit 546, (kO (kY "function") none (Data.func (PySem.W.fnOf (kS "_law_end_good") (kS "_law_end_good") (aL bL) (aC bL) (ai bL) kN kN kN (kz "law_evenhall_k07_a_chart_by_plain_rows" 676) none (kR 545) kN)) #[]))::
(nat_lit 547, (kT #[]))::
(nat_lit 550, (q2 "law" 896 "law" 897 898 366 1 547 548 549 899 900))::
(nat_lit 551, (kO (kY "function") none (Data.func (PySem.W.fnOf (kS "law") (kS "law") (aL e9) (aC e9) (ai e9) kN kN kN (kz "law_evenhall_k07_a_chart_by_plain_rows" 676) none (kR 550) kN)) #[]))
 :: []
noncomputable def adrs : List Addr := [nat_lit 2, nat_lit 3, nat_lit 15, nat_lit 17, nat_lit 18, nat_lit 20, nat_lit 21, nat_lit 22, nat_lit 29, nat_lit 30, nat_lit 31, nat_lit 32, nat_lit 35, nat_lit 42, nat_lit 44, nat_lit 45, nat_lit 47, nat_lit 48, nat_lit 49, nat_lit 50, nat_lit 51, nat_lit 54, nat_lit 61, nat_lit 63, nat_lit 64, nat_lit 66, nat_lit 67, nat_lit 68, nat_lit 69, nat_lit 70, nat_lit 73, nat_lit 80, nat_lit 82, nat_lit 83, nat_lit 85, nat_lit 86, nat_lit 87, nat_lit 88, nat_lit 89, nat_lit 92, nat_lit 99, nat_lit 101, nat_lit 102, nat_lit 104, nat_lit 105, nat_lit 106, nat_lit 107, nat_lit 108, nat_lit 111, nat_lit 118, nat_lit 120, nat_lit 121, nat_lit 123, nat_lit 124, nat_lit 125, nat_lit 126, nat_lit 127, nat_lit 130, nat_lit 137, nat_lit 139, nat_lit 140, nat_lit 142, nat_lit 143, nat_lit 144, nat_lit 145, nat_lit 146, nat_lit 149, nat_lit 156, nat_lit 158, nat_lit 159, nat_lit 161, nat_lit 162, nat_lit 163, nat_lit 164, nat_lit 165, nat_lit 168, nat_lit 175, nat_lit 177, nat_lit 178, nat_lit 180, nat_lit 181, nat_lit 182, nat_lit 183, nat_lit 184, nat_lit 187, nat_lit 194, nat_lit 196, nat_lit 197, nat_lit 199, nat_lit 200, nat_lit 201, nat_lit 202, nat_lit 203, nat_lit 206, nat_lit 208, nat_lit 209, nat_lit 211, nat_lit 212, nat_lit 213, nat_lit 215, nat_lit 216, nat_lit 218, nat_lit 219, nat_lit 220, nat_lit 223, nat_lit 224, nat_lit 225, nat_lit 227, nat_lit 228, nat_lit 230, nat_lit 231, nat_lit 232, nat_lit 234, nat_lit 235, nat_lit 237, nat_lit 238, nat_lit 239, nat_lit 241, nat_lit 242, nat_lit 244, nat_lit 245, nat_lit 246, nat_lit 249, nat_lit 250, nat_lit 251, nat_lit 253, nat_lit 254, nat_lit 256, nat_lit 257, nat_lit 258, nat_lit 260, nat_lit 261, nat_lit 263, nat_lit 264, nat_lit 265, nat_lit 268, nat_lit 269, nat_lit 270, nat_lit 278, nat_lit 280, nat_lit 281, nat_lit 283, nat_lit 284, nat_lit 285, nat_lit 287, nat_lit 288, nat_lit 290, nat_lit 291, nat_lit 292, nat_lit 294, nat_lit 295, nat_lit 297, nat_lit 298, nat_lit 299, nat_lit 300, nat_lit 301, nat_lit 302, nat_lit 303, nat_lit 313, nat_lit 315, nat_lit 316, nat_lit 318, nat_lit 319, nat_lit 320, nat_lit 322, nat_lit 323, nat_lit 325, nat_lit 326, nat_lit 327, nat_lit 329, nat_lit 330, nat_lit 332, nat_lit 333, nat_lit 334, nat_lit 337, nat_lit 338, nat_lit 339, nat_lit 341, nat_lit 342, nat_lit 344, nat_lit 345, nat_lit 346, nat_lit 348, nat_lit 349, nat_lit 351, nat_lit 352, nat_lit 353, nat_lit 355, nat_lit 356, nat_lit 358, nat_lit 359, nat_lit 360, nat_lit 362, nat_lit 363, nat_lit 365, nat_lit 366, nat_lit 367, nat_lit 369, nat_lit 370, nat_lit 372, nat_lit 373, nat_lit 374, nat_lit 376, nat_lit 377, nat_lit 379, nat_lit 380, nat_lit 381, nat_lit 383, nat_lit 384, nat_lit 386, nat_lit 387, nat_lit 388, nat_lit 390, nat_lit 391, nat_lit 393, nat_lit 394, nat_lit 395, nat_lit 396, nat_lit 397, nat_lit 398, nat_lit 399, nat_lit 402, nat_lit 404, nat_lit 405, nat_lit 407, nat_lit 408, nat_lit 409, nat_lit 412, nat_lit 413, nat_lit 414, nat_lit 417, nat_lit 418, nat_lit 419, nat_lit 422, nat_lit 423, nat_lit 424, nat_lit 426, nat_lit 427, nat_lit 429, nat_lit 430, nat_lit 431, nat_lit 433, nat_lit 434, nat_lit 436, nat_lit 437, nat_lit 438, nat_lit 440, nat_lit 441, nat_lit 443, nat_lit 444, nat_lit 445, nat_lit 448, nat_lit 449, nat_lit 450, nat_lit 452, nat_lit 453, nat_lit 455, nat_lit 456, nat_lit 457, nat_lit 460, nat_lit 461, nat_lit 462, nat_lit 464, nat_lit 465, nat_lit 467, nat_lit 468, nat_lit 469, nat_lit 471, nat_lit 472, nat_lit 474, nat_lit 475, nat_lit 476, nat_lit 478, nat_lit 479, nat_lit 481, nat_lit 482, nat_lit 483, nat_lit 485, nat_lit 486, nat_lit 488, nat_lit 489, nat_lit 490, nat_lit 492, nat_lit 493, nat_lit 495, nat_lit 496, nat_lit 497, nat_lit 500, nat_lit 501, nat_lit 502, nat_lit 504, nat_lit 505, nat_lit 507, nat_lit 508, nat_lit 509, nat_lit 511, nat_lit 512, nat_lit 514, nat_lit 515, nat_lit 516, nat_lit 519, nat_lit 520, nat_lit 521, nat_lit 523, nat_lit 524, nat_lit 526, nat_lit 527, nat_lit 528, nat_lit 530, nat_lit 531, nat_lit 533, nat_lit 534, nat_lit 535, nat_lit 537, nat_lit 538, nat_lit 540, nat_lit 541, nat_lit 542, nat_lit 545, nat_lit 546, nat_lit 547, nat_lit 550, nat_lit 551]
theorem adrs_eq (P : Params) : adrs = (frag P).map (·.1) := by kernel_rfl
noncomputable def vw : Program := PySem.W.view PySem.Challenge.pw_evenhall_k07_a_chart_by_plain_rows [0, 2, 3, 4, 5, 6, 7, 8, 9, 10, 11, 13, 14, 15, 16, 18, 20, 22, 23, 24, 25, 27, 28, 29, 31, 32, 33, 34, 35, 36, 37, 38, 39, 40, 41, 42, 43, 44, 45, 46, 47, 48, 49, 50, 51, 52, 53, 54]
open PySem.W in
noncomputable def tree0 (P : Params) : BT := (.node (boot_o_0 P) (.node (boot_o_1 P) (.node (boot_o_3 P) (.node (boot_o_7 P) .nil .nil) .nil) (.node (boot_o_5 P) (.node (boot_o_9 P) .nil .nil) .nil)) (.node (boot_o_2 P) (.node (boot_o_4 P) (.node (boot_o_8 P) .nil .nil) .nil) (.node (boot_o_6 P) (.node (boot_o_10 P) .nil .nil) .nil)))
open PySem.W PyProof.Rows in
noncomputable def ran (p : Program) (t : BT) (b : Heap) (w : World) (os : OsState) : Option SharedT := TR.go p w 11 (some (.ref 6)) 8852 ⟨t, 11, b.life, Array.mk [], boot_drawn, boot_toks, os⟩ (topStub p)
noncomputable def runA (p : Program) (t : PySem.W.BT) (b : Heap) (w : World) (os : OsState) := (ran p t b w os).map fun x => TR.lookB p b x.abs
noncomputable def runB (p v : Program) (c : PySem.W.WRecords) (t : PySem.W.BT) (b : Heap) (w : World) (os : OsState) := (ran p t b w os).map fun x => PySem.W.openSeen v [] (importedModules p.main.body) (fun s => PySem.W.xlAt v [] s && PySem.W.recOk c s) true x.abs
noncomputable def runC (p : Program) (t : PySem.W.BT) (b : Heap) (w : World) (os : OsState) := (ran p t b w os).map fun x => adrs.map x.abs.heap.get?
noncomputable def good (v : Program) (_ : OsState) := some (PySem.W.openGood v [])
set_option maxRecDepth 100000 in
set_option maxHeartbeats 0 in
lay_quick K7.runA
set_option maxRecDepth 100000 in
set_option maxHeartbeats 0 in
lay_quick K7.runB
set_option maxRecDepth 100000 in
set_option maxHeartbeats 0 in
lay_quick K7.runC
set_option maxRecDepth 100000 in
set_option maxHeartbeats 0 in
lay_quick K7.good
set_option maxRecDepth 100000 in
set_option maxHeartbeats 0 in
theorem gA (w : World) : PySem.W.Fast.tw3844244574420566467 PySem.Challenge.pw_evenhall_k07_a_chart_by_plain_rows (tree0 w.params) (PySem.W.boot_heap w.params) w = fun _ => some true := by kernel_rfl
set_option maxRecDepth 100000 in
set_option maxHeartbeats 0 in
theorem gB (w : World) : PySem.W.Fast.tw8025368351002504296 PySem.Challenge.pw_evenhall_k07_a_chart_by_plain_rows vw (PySem.W.RowW.records (PySem.W.OpenRow.toRowW (PySem.W.OpenLaw.row PySem.Challenge.rw_evenhall_k07_a_chart_by_plain_rows))) (tree0 w.params) (PySem.W.boot_heap w.params) w = PySem.W.Fast.tw14265826827354634967 vw := by kernel_rfl
set_option maxRecDepth 100000 in
set_option maxHeartbeats 0 in
theorem gC (w : World) : PySem.W.Fast.tw4703394930738925225 PySem.Challenge.pw_evenhall_k07_a_chart_by_plain_rows (tree0 w.params) (PySem.W.boot_heap w.params) w = fun _ => some ((frag w.params).map fun p => some p.2) := by kernel_rfl
set_option maxRecDepth 100000 in
set_option maxHeartbeats 0 in
theorem left : PySem.W.LeftO PySem.Challenge.pw_evenhall_k07_a_chart_by_plain_rows vw [] (fun s => PySem.W.xlAt vw [] s && PySem.W.recOk (PySem.W.RowW.records (PySem.W.OpenRow.toRowW (PySem.W.OpenLaw.row PySem.Challenge.rw_evenhall_k07_a_chart_by_plain_rows))) s) (PySem.W.kHook frag adrs adrs_eq).obs (PySem.W.kHook frag adrs adrs_eq).val 8852 :=
 TR.left (lo := 11) (an := some (.ref 6)) (tr := tree0) (PySem.W.boot_open (by kernel_rfl) (by decide) (fun s => by kernel_rfl)) (fun P => by kernel_rfl) (fun P => by kernel_rfl) fun w => funext fun os =>
  TR.three (congrFun ((congrFun (congrFun (congrFun (congrFun PySem.W.Fast.te3844244574420566467 _) _) _) w).trans (gA w)) os) (congrFun ((congrFun (congrFun (congrFun (congrFun (congrFun (congrFun PySem.W.Fast.te8025368351002504296 _) _) _) _) _) w).trans ((gB w).trans (congrFun PySem.W.Fast.te14265826827354634967 _).symm)) os) (congrFun ((congrFun (congrFun (congrFun (congrFun PySem.W.Fast.te4703394930738925225 _) _) _) w).trans (gC w)) os)
noncomputable def wsaid (l : PySem.W.OpenLaw) : Bool := PySem.W.OpenLaw.wellSaid l
set_option maxRecDepth 100000 in
set_option maxHeartbeats 0 in
lay_quick K7.wsaid
set_option maxRecDepth 100000 in
set_option maxHeartbeats 0 in
theorem ws : wsaid PySem.Challenge.rw_evenhall_k07_a_chart_by_plain_rows = true := (congrFun PySem.W.Fast.te12881101394719644937 _).trans (by kernel_rfl)
end K7
namespace L2
open PySem PySem.Spec PyProof.Rows
abbrev Key := Sum Int Str
def vb : Key -> Value -> Bool
 | .inl k, v => Value.isInt k v
 | .inr x, v => Value.isStrOf x v
def Hq (w : World) : Key -> Int
 | .inl k => hashInt k
 | .inr x => hashStr w x
theorem cO : ∀ {k : Key} {v : Value}, vb k v = true -> (∃ i t, k = Sum.inl i /\ v = Value.int i t) \/ (∃ x t, k = Sum.inr x /\ v = Value.str x t)
 | .inl i, v, h => by
  obtain ⟨t, e⟩ := Value.isInt_shape (k := i) (v := v) h
  exact .inl ⟨i, t, rfl, e⟩
 | .inr x, v, h => by
  obtain ⟨t, e⟩ := Value.isStrOf_shape (x := x) (v := v) h
  exact .inr ⟨x, t, rfl, e⟩
theorem A0 (i : Int) (t : Tok) : vb (.inl i) (.int i t) = true := by simp [vb, Value.isInt]
theorem AR (x : Str) (t : Tok) : vb (.inr x) (.str x t) = true := by simp [vb, Value.isStrOf]
theorem Fa (a b : Int) : decide ((Sum.inl a : Key) = Sum.inl b) = (a == b) := by
 by_cases e : a = b
 ·subst e; simp
 ·have h : ¬ (Sum.inl a : Key) = Sum.inl b := fun q => e (Sum.inl.inj q)
  rw [decide_eq_false h]
  exact (beq_eq_false_iff_ne.mpr e).symm
theorem Gg (a b : Str) : decide ((Sum.inr a : Key) = Sum.inr b) = decide (a = b) := by
 by_cases e : a = b
 ·subst e; simp
 ·have h : ¬ (Sum.inr a : Key) = Sum.inr b := fun q => e (Sum.inr.inj q)
  rw [decide_eq_false h, decide_eq_false e]
theorem FH (a : Int) (b : Str) : decide ((Sum.inl a : Key) = Sum.inr b) = false := decide_eq_false (fun q => nomatch q)
theorem FQ (a : Str) (b : Int) : decide ((Sum.inr a : Key) = Sum.inl b) = false := decide_eq_false (fun q => nomatch q)
def cP (prog : Program) (w : World) : PySem.KeyKind prog w Key where
 is := vb
 hash := Hq w
 inj := fun v a b ha hb => by
  rcases cO ha with ⟨i, t, rfl, rfl⟩ | ⟨x, t, rfl, rfl⟩
  ·rcases cO hb with ⟨j, u, rfl, e⟩ | ⟨y, u, rfl, e⟩
   ·injection e with e1 _; rw [e1]
   ·exact nomatch e
  ·rcases cO hb with ⟨j, u, rfl, e⟩ | ⟨y, u, rfl, e⟩
   ·exact nomatch e
   ·injection e with e1 _; rw [e1]
 byValue := fun k v h => by
  rcases cO h with ⟨i, t, rfl, rfl⟩ | ⟨x, t, rfl, rfl⟩ <;> rfl
 pyHash := fun hv h => by
  rcases cO hv with ⟨i, t, rfl, rfl⟩ | ⟨x, t, rfl, rfl⟩
  ·exact wpAny_pyHash_int h
  ·exact wpAny_pyHash_str h
 eqBool := fun hu hv h => by
  rcases cO hu with ⟨i, t, rfl, rfl⟩ | ⟨x, t, rfl, rfl⟩
  ·rcases cO hv with ⟨j, u, rfl, rfl⟩ | ⟨y, u, rfl, rfl⟩
   ·rw [Fa] at h; exact wpAny_eqBool_int h
   ·rw [FH] at h; exact SeqAt.EqAt.int_str i t y u _ _ _ _ h
  ·rcases cO hv with ⟨j, u, rfl, rfl⟩ | ⟨y, u, rfl, rfl⟩
   ·rw [FQ] at h; exact SeqAt.EqAt.str_int x t j u _ _ _ _ h
   ·rw [Gg] at h; exact wpAny_eqBool_str h
 «strs» := fun k x t v h => by
  rcases cO h with ⟨i, u, rfl, e⟩ | ⟨y, u, rfl, e⟩
  ·exact nomatch e
  ·injection e with e1 _
   subst e1
   cases v <;> rfl
theorem wV (prog : Program) (w : World) (i : Int) (t : Tok) : (cP prog w).is (.inl i) (.int i t) = true := A0 i t
theorem xB (prog : Program) (w : World) (x : Str) (t : Tok) : (cP prog w).is (.inr x) (.str x t) = true := AR x t
end L2
namespace L2
open PySem PySem.Spec PyProof.Rows
inductive V where
 | non | bl (b : Bool) | int (i : Int) | str (x : Str) | byt (b : Array UInt8) | flt (b : UInt64) | ref (a : Addr) | ty (n : String)
 deriving DecidableEq
def RelV : V -> Value -> Prop
 | .non, u => u = Value.none
 | .bl b, u => u = Value.bool b
 | .int i, u => ∃ t, u = Value.int i t
 | .str x, u => ∃ t, u = Value.str x t
 | .byt b, u => ∃ t, u = Value.bytes b t
 | .flt b, u => ∃ t, u = Value.float b t
 | .ref a, u => u = Value.ref a
 | .ty n, u => u = Value.type n
abbrev Vals : List V -> List Value -> Prop := Paired RelV
theorem Vals.length {xs : List V} {us : List Value} (r : Vals xs us) : xs.length = us.length := Paired.length r
theorem Vals.get : ∀ {xs : List V} {us : List Value} {i : Nat} {x : V}, Vals xs us -> xs[i]? = some x -> ∃ u, us[i]? = some u /\ RelV x u
 | _, _, _, _, .nil, e => by simp at e
 | _, _, 0, _, .cons r _, e => by simp at e; subst e; exact ⟨_, rfl, r⟩
 | _, _, i + 1, x, .cons _ t, e => by
  obtain ⟨u, h1, h2⟩ := Vals.get (i := i) (x := x) t (by simpa using e)
  exact ⟨u, by simpa using h1, h2⟩
theorem Vals.set {x : V} {u : Value} (r : RelV x u) : ∀ {xs : List V} {us : List Value} (i : Nat), Vals xs us -> Vals (xs.set i x) (us.set i u)
 | _, _, _, .nil => .nil
 | _, _, 0, .cons _ t => .cons r t
 | _, _, i + 1, .cons q t => .cons q (Vals.set r i t)
theorem Vals.append : ∀ {xs ys : List V} {us ws : List Value}, Vals xs us -> Vals ys ws -> Vals (xs ++ ys) (us ++ ws)
 | _, _, _, _, .nil, s => s
 | _, _, _, _, .cons r t, s => .cons r (Vals.append t s)
theorem Vals.take : ∀ {xs : List V} {us : List Value} (n : Nat), Vals xs us -> Vals (xs.take n) (us.take n)
 | _, _, 0, _ => .nil
 | _, _, _ + 1, .nil => .nil
 | _, _, n + 1, .cons r t => .cons r (Vals.take n t)
theorem Vals.drop : ∀ {xs : List V} {us : List Value} (n : Nat), Vals xs us -> Vals (xs.drop n) (us.drop n)
 | _, _, 0, r => r
 | _, _, _ + 1, .nil => .nil
 | _, _, n + 1, .cons _ t => Vals.drop n t
def RelO : Option V -> Option Value -> Prop
 | some v, some u => RelV v u
 | none, none => True
 | _, _ => False
def KV {κ : Type} : List (κ × V) -> List (κ × Value) -> Prop := Paired fun (p : κ × V) (q : κ × Value) => p.1 = q.1 /\ RelV p.2 q.2
def kV : Key -> V
 | .inl i => .int i
 | .inr x => .str x
inductive HO where
 | lst (xs : List V)
 | tup (xs : List V)
 | dK (kvs : List (Key × V)) | dT (kvs : List (List Key × V))
 | set (S : Int -> Bool) (n : Nat)
 | ins (C dx : Addr) (fs : List (Str × V))
 | own (x : Addr)
 | xd (fs : List (Str × V))
 | met (f x : Addr)
 | rng (lo hi : Int)
 | frz (o : Obj) (u : HO)
 | tbl (ps : Array Value)
 | ext (φ : Heap -> Prop)
abbrev Hp := Addr -> Option HO
def upd (H : Hp) (a : Addr) (o : HO) : Hp := fun b => if b = a then some o else H b
theorem ae {H : Hp} {a : Addr} {o : HO} : upd H a o a = some o := by unfold upd; rw [if_pos rfl]
theorem ar {H : Hp} {a b : Addr} {o : HO} (h : b ≠ a) : upd H a o b = H b := by unfold upd; rw [if_neg h]
theorem jL {H : Hp} {a : Addr} {o u : HO} : upd (upd H a o) a u = upd H a u := by
 funext b; unfold upd; split <;> rfl
theorem Gq {H : Hp} {a b : Addr} {o u : HO} (h : H a = some o) (h' : H b = some u) (d : o ≠ u) : a ≠ b := by
 intro e; subst e; rw [h] at h'; exact d (Option.some.inj h')
theorem au {H : Hp} {a b : Addr} {o : HO} (h : H a = some o) (h' : H b = none) : a ≠ b := by
 intro e; subst e; rw [h] at h'; cases h'
section
variable (P : Program) (w : World)
def ObjOk (H : Hp) (h : Heap) (a : Addr) : HO -> Prop
 | .lst xs => xs.length <= sizeLine /\ ∃ (its : List Value) (n : Nat), Vals xs its /\ h.get? a = some { cls := .type "list", data := .seq its.toArray n }
 | .tup xs => xs.length <= sizeLine /\ ∃ its : List Value, Vals xs its /\ IsTup h a its.toArray
 | .dK kvs => kvs.length <= sizeLine /\ (a == sysModules) = false /\ ∃ vs, KV kvs vs /\ h.DictOf (cP P w) a vs
 | .dT kvs => kvs.length <= sizeLine /\ (a == sysModules) = false /\ ∃ xs : List (List Key × Addr × Value),
  Paired (fun (p : List Key × V) (q : List Key × Addr × Value) => p.1 = q.1 /\ H q.2.1 = some (.tup (p.1.map kV)) /\ RelV p.2 q.2.2) kvs xs /\
  ∃ o es ep, h.get? a = some o /\ o.ExactDict /\ o.data = .dict es ep /\ es.toList = xs.map (entryOfKey (tupleKind (cP P w))) /\ (xs.map (·.1)).Nodup
 | .set S n => h.SetOf (intKind P w) a S n
 | .ins C dx fs => H dx = some (.own a) /\ fs.length <= 1000 /\ dx ≠ a /\ h.get? a = some (PySem.W.instObj C dx) /\
  ∃ mA, h.Ns1 dx mA /\ (∀ f, RelO (fs.lookup f) (mA f)) /\ PySem.Within mA (fs.map (·.1))
 | .own _ => ∃ o, h.get? a = some o
 | .xd fs => ∃ mA, h.Ns1 a mA /\ ∀ f, RelO (fs.lookup f) (mA f)
 | .rng lo hi => ∃ t u v, h.get? a = some { cls := .type "range", data := .fields #[.int lo t, .int hi u, .int 1 v] }
 | .frz o u => h.get? a = some o /\ ObjOk H h a u
 | .tbl ps => h.get? a = some { cls := .none, data := .fields ps }
 | .met f x => h.get? a = some (PySem.W.methodObj (.ref f) (.ref x))
 | .ext φ => φ h /\ (∃ o, h.get? a = some o) /\ ∀ h1 h2 : Heap, φ h1 -> (∀ o, h1.get? a = some o -> h2.get? a = some o) -> φ h2
def HOk (H : Hp) (h : Heap) : Prop := ∀ a o, H a = some o -> ObjOk P w H h a o
end
section
variable {P : Program} {w : World} {H H' : Hp} {h h' : Heap} {a : Addr} {o : HO}
theorem ObjOk.lt (x : ObjOk P w H h a o) : a < h.objs.size := by
 cases o with
 | lst xs => obtain ⟨_, _, _, _, e⟩ := x; exact Heap.lt_size e
 | tup xs => obtain ⟨_, _, _, p⟩ := x; exact p.lt
 | dK kvs => obtain ⟨_, _, _, _, o, _, _, e, _⟩ := x; exact Heap.lt_size e
 | dT kvs => obtain ⟨_, _, _, _, o, _, _, e, _⟩ := x; exact Heap.lt_size e
 | set S n => obtain ⟨o, _, _, _, e, _⟩ := x; exact Heap.lt_size e
 | ins C dx fs => obtain ⟨_, _, _, e, _⟩ := x; exact Heap.lt_size e
 | own y => obtain ⟨_, e⟩ := x; exact Heap.lt_size e
 | xd fs => obtain ⟨_, ⟨_, _, _, e, _⟩, _⟩ := x; exact Heap.lt_size e
 | rng lo hi => obtain ⟨_, _, _, e⟩ := x; exact Heap.lt_size e
 | frz ob u => obtain ⟨e, _⟩ := x; exact Heap.lt_size e
 | tbl ps => exact Heap.lt_size (show h.get? a = some _ from x)
 | met f y => exact Heap.lt_size (show h.get? a = some _ from x)
 | ext φ => obtain ⟨_, ⟨_, e⟩, _⟩ := x; exact Heap.lt_size e
theorem Paired.mapP {α β : Type} {F G : α -> β -> Prop} : ∀ {l₁ : List α} {l₂ : List β}, Paired F l₁ l₂ -> (∀ a b, F a b -> G a b) -> Paired G l₁ l₂
 | _, _, .nil, _ => .nil
 | _, _, .cons r t, f => .cons (f _ _ r) (Paired.mapP t f)
theorem ObjOk.stay (x : ObjOk P w H h a o) (k : ∀ b u, (b = a \/ H b = some (.own a)) -> h.get? b = some u -> h'.get? b = some u)
 (ho : ∀ b, H b = some (.own a) -> H' b = some (.own a)) (ht : ∀ b xs, H b = some (.tup xs) -> H' b = some (.tup xs)) : ObjOk P w H' h' a o := by
 induction o with
 | lst xs => obtain ⟨z, its, n, r, e⟩ := x; exact ⟨z, its, n, r, k _ _ (.inl rfl) e⟩
 | tup xs => obtain ⟨z, its, r, ob, e, c⟩ := x; exact ⟨z, its, r, ob, k _ _ (.inl rfl) e, c⟩
 | dK kvs => obtain ⟨z, y, vs, r, ob, es, ep, e, c⟩ := x; exact ⟨z, y, vs, r, ob, es, ep, k _ _ (.inl rfl) e, c⟩
 | dT kvs =>
  obtain ⟨z, y, xs, r, ob, es, ep, e, c⟩ := x
  exact ⟨z, y, xs, Paired.mapP r fun p q z => ⟨z.1, ht _ _ z.2.1, z.2.2⟩, ob, es, ep, k _ _ (.inl rfl) e, c⟩
 | set S n => obtain ⟨ob, es, ep, t, e, c⟩ := x; exact ⟨ob, es, ep, t, k _ _ (.inl rfl) e, c⟩
 | ins C dx fs =>
  obtain ⟨d, z, ne, e, mA, ⟨od, es, ep, e2, c⟩, r⟩ := x
  exact ⟨ho _ d, z, ne, k _ _ (.inl rfl) e, mA, ⟨od, es, ep, k _ _ (.inr d) e2, c⟩, r⟩
 | own y => obtain ⟨ob, e⟩ := x; exact ⟨ob, k _ _ (.inl rfl) e⟩
 | xd fs => obtain ⟨mA, ⟨od, es, ep, e, c⟩, r⟩ := x; exact ⟨mA, ⟨od, es, ep, k _ _ (.inl rfl) e, c⟩, r⟩
 | rng lo hi => obtain ⟨t, u, v, e⟩ := x; exact ⟨t, u, v, k _ _ (.inl rfl) e⟩
 | frz ob u ih => obtain ⟨e, q⟩ := x; exact ⟨k _ _ (.inl rfl) e, ih q⟩
 | tbl ps =>
  have e : h.get? a = some { cls := .none, data := .fields ps } := x
  show h'.get? a = some { cls := .none, data := .fields ps }
  exact k a _ (.inl rfl) e
 | met f y =>
  have e : h.get? a = some (PySem.W.methodObj (.ref f) (.ref y)) := x
  show h'.get? a = some (PySem.W.methodObj (.ref f) (.ref y))
  exact k a _ (.inl rfl) e
 | ext φ => obtain ⟨p, ⟨o, e⟩, st⟩ := x; exact ⟨st _ _ p fun o q => k _ _ (.inl rfl) q, ⟨o, k _ _ (.inl rfl) e⟩, st⟩
theorem HOk.lt (x : HOk P w H h) (e : H a = some o) : a < h.objs.size := (x a o e).lt
theorem HOk.fresh (x : HOk P w H h) (e : h.objs.size <= a) : H a = none := by
 cases q : H a with
 | none => rfl
 | some u => exact absurd (Nat.lt_of_lt_of_le (x.lt q) e) (Nat.lt_irrefl _)
theorem HOk.kept (x : HOk P w H h) (k : ∀ b u, h.get? b = some u -> h'.get? b = some u) : HOk P w H h' := fun a o e =>
 (x a o e).stay (fun b u _ q => k b u q) (fun _ q => q) fun _ _ q => q
theorem HOk.laid (x : HOk P w H h) (k : ∀ b u, h.get? b = some u -> h'.get? b = some u) (hp : h.objs.size <= a) (new : ObjOk P w (upd H a o) h' a o) : HOk P w (upd H a o) h' := fun b u e => by
 have hn := x.fresh hp
 by_cases hb : b = a
 ·subst hb; rw [ae] at e; cases e; exact new
 ·rw [ar hb] at e
  exact (x b u e).stay (fun c v _ q => k c v q) (fun c q => by rw [ar (au q hn)]; exact q) fun c xs q => by rw [ar (au q hn)]; exact q
end
def Rd (H : Hp) (a : Addr) (u : HO) : Prop := H a = some u \/ ∃ o, H a = some (.frz o u)
theorem Rd.ok {P : Program} {w : World} {H : Hp} {h : Heap} {a : Addr} {u : HO} (r : Rd H a u) (x : HOk P w H h) : ObjOk P w H h a u := by
 rcases r with r | ⟨o, r⟩
 ·exact x a u r
 ·obtain ⟨_, q⟩ := x a _ r
  exact q
def Mut : Option HO -> Prop
 | some (.lst _) => True
 | some (.dK _) => True
 | some (.dT _) => True
 | some (.set _ _) => True
 | some (.ins _ _ _) => True
 | some (.ext _) => True
 | _ => False
section
variable {P : Program} {w : World} {H : Hp} {h h' : Heap} {x e : Addr} {o' : HO}
theorem HOk.write (ok : HOk P w H h) (mu : Mut (H x)) (he : e = x \/ H e = some (.own x)) (k : ∀ b u, b ≠ e -> h.get? b = some u -> h'.get? b = some u) (heo : ∃ u, h'.get? e = some u)
 (new : ObjOk P w (upd H x o') h' x o') : HOk P w (upd H x o') h' := fun b u q => by
 have nown : ∀ c y, H c = some (.own y) -> c ≠ x := fun c y r z => by subst z; rw [r] at mu; exact mu
 have ntup : ∀ c xs, H c = some (.tup xs) -> c ≠ x := fun c xs r z => by subst z; rw [r] at mu; exact mu
 by_cases hb : b = x
 ·subst hb; rw [ae] at q; cases q; exact new
 ·rw [ar hb] at q
  by_cases hbe : b = e
  ·have q' : H b = some (.own x) := by
    rcases he with z | z
    ·exact absurd (hbe.trans z) hb
    ·rw [hbe]; exact z
   rw [q] at q'; cases q'
   obtain ⟨v, hv⟩ := heo
   exact ⟨v, by rw [hbe]; exact hv⟩
  ·refine (ok b u q).stay (fun c v hc r => k c v ?_ r) (fun c r => by rw [ar (nown c b r)]; exact r) fun c xs r => by rw [ar (ntup c xs r)]; exact r
   rcases hc with rfl | hc
   ·exact hbe
   ·rintro rfl
    rcases he with z | z
    ·exact nown c b hc z
    ·rw [hc] at z; cases z; exact hb rfl
end
structure Un (fs ex : List Addr) (H H' : Hp) (h h' : Heap) : Prop where
 keep : ∀ b o, h.get? b = some o -> H b = none -> b ∉ fs -> b ∉ ex -> h'.get? b = some o
 slot : ∀ b o, h.get? b = some o -> H b = none -> b ∈ fs -> b ∉ ex -> ∃ sl, h'.get? b = some { o with slots := sl }
 free : ∀ b o, h.get? b = some o -> H b = none -> b ∉ ex -> H' b = none
 there : ∀ b o, h.get? b = some o -> b ∉ ex -> ∃ o', h'.get? b = some o'
 tups : ∀ b xs, H b = some (.tup xs) -> H' b = some (.tup xs)
 frzs : ∀ b o u, H b = some (.frz o u) -> H' b = some (.frz o u)
 tbls : ∀ b ps, H b = some (.tbl ps) -> ∃ more, H' b = some (.tbl (ps ++ more))
section
variable {fs fs' ex ex' : List Addr} {H H1 H2 : Hp} {h h1 h2 h' : Heap} {a x e : Addr} {o : HO}
theorem Un.any (u : Un fs ex H H1 h h1) {b : Addr} {ob : Obj} (q : h.get? b = some ob) (n : H b = none) (hx : b ∉ ex) : ∃ sl, h1.get? b = some { ob with slots := sl } := by
 by_cases hb : b ∈ fs
 ·exact u.slot b ob q n hb hx
 ·exact ⟨ob.slots, u.keep b ob q n hb hx⟩
theorem Un.kept (k : ∀ b u, h.get? b = some u -> h'.get? b = some u) : Un fs ex H H h h' :=
 ⟨fun b ob q _ _ _ => k b ob q, fun b ob q _ _ _ => ⟨ob.slots, k b ob q⟩, fun _ _ _ n _ => n, fun b ob q _ => ⟨ob, k b ob q⟩, fun _ _ q => q, fun _ _ _ q => q, fun _ ps q => ⟨#[], by rw [q]; simp⟩⟩
theorem Un.refl : Un fs ex H H h h := Un.kept fun _ _ q => q
theorem Un.laid (k : ∀ b u, h.get? b = some u -> h'.get? b = some u) (hp : h.objs.size <= a) (hn : H a = none) : Un fs ex H (upd H a o) h h' where
 keep := fun b u q _ _ _ => k b u q
 slot := fun b u q _ _ _ => ⟨u.slots, k b u q⟩
 free := fun b u q n _ => by rw [ar (Nat.ne_of_lt (Nat.lt_of_lt_of_le (Heap.lt_size q) hp))]; exact n
 there := fun b u q _ => ⟨u, k b u q⟩
 tups := fun b xs q => by rw [ar (au q hn)]; exact q
 frzs := fun b u xs q => by rw [ar (au q hn)]; exact q
 tbls := fun b ps q => ⟨#[], by rw [ar (au q hn), q]; simp⟩
theorem Un.write (mu : Mut (H x)) (he : e = x \/ H e = some (.own x)) (k : ∀ b u, b ≠ e -> h.get? b = some u -> h'.get? b = some u) (heo : ∃ u, h'.get? e = some u) : Un fs ex H (upd H x o) h h' := by
 have hx : ∀ b, H b = none -> b ≠ x := fun b n z => by subst z; rw [n] at mu; exact mu
 have hb : ∀ b, H b = none -> b ≠ e := fun b n z => by
  subst z
  rcases he with r | r
  ·exact hx b n r
  ·rw [n] at r; cases r
 have hm : ∀ b u, H b = some u -> ¬ Mut (some u) -> b ≠ x := fun b u q nm z => by subst z; rw [q] at mu; exact nm mu
 refine ⟨fun b u q n _ _ => k b u (hb b n) q, fun b u q n _ _ => ⟨u.slots, k b u (hb b n) q⟩, fun b u q n _ => by rw [ar (hx b n)]; exact n, fun b u q _ => ?_,
  fun b xs q => by rw [ar (hm b _ q fun z => z)]; exact q, fun b u xs q => by rw [ar (hm b _ q fun z => z)]; exact q, fun b ps q => ⟨#[], by rw [ar (hm b _ q fun z => z), q]; simp⟩⟩
 by_cases hbe : b = e
 ·subst hbe; exact heo
 ·exact ⟨u, k b u hbe q⟩
end
def trk (h : Heap) (H : Hp) : List Addr := (List.range h.objs.size).filter fun a => (H a).isSome
def wy (h : Heap) (H : Hp) : Heap := PySem.W.hideAll h (trk h H)
theorem Be (h : Heap) (H : Hp) : (wy h H).objs.size = h.objs.size := PySem.W.hideAll_size _ _
theorem BJ {h : Heap} {H : Hp} {b : Addr} {o : Obj} (e : h.get? b = some o) (n : H b = none) : (wy h H).get? b = some o :=
 PySem.W.hideAll_get _ e fun hm => by
  have q : (H b).isSome = true := (List.mem_filter.mp hm).2
  rw [n] at q; simp at q
theorem Dq {h : Heap} {H : Hp} {b : Addr} {o : Obj} (e : (wy h H).get? b = some o) : h.get? b = some o /\ H b = none := by
 have e' : h.get? b = some o := PySem.W.of_hideAll (trk h H) e
 refine ⟨e', ?_⟩
 cases q : H b with
 | none => rfl
 | some x =>
  have hm : b ∈ trk h H := List.mem_filter.mpr ⟨List.mem_range.mpr (Heap.lt_size e'), by simp [q]⟩
  have z : (wy h H).get? b = none := PySem.W.hideAll_none (trk h H) hm
  rw [z] at e; cases e
def DA (g h : Heap) (L : Addr) : List (Addr × Obj) := (List.range h.objs.size).filterMap fun a => if a = L \/ (g.get? a).isSome = true then none else (h.get? a).map fun o => (a, o)
def rest (g h : Heap) (L d : Addr) : List (Addr × Obj) := (DA g h L).filter fun p => decide (p.1 ≠ d)
end L2
namespace L2
open PySem PySem.Spec PyProof.Rows
structure Mod (K : W.Frag) (mg : Str -> Option Value) (base : Heap) : Prop where
 kin : K.In base
 glob : base.Ns mainGlobals mg
 blt : ∃ mb, base.Ns builtinsNs mb /\ ∀ x : Str, x ≠ "__name__" -> mb x = bootBuiltins x
 nolimit : base.NoLimit
structure Cx where
 prog : Program
 w : World
 K : W.Frag
 mg : Str -> Option Value
 base : Heap
 A : Around
 N : List Str
 s₀ : Shared
 H₀ : Hp
 env : Env
 outer : List Env
 stack : List Env
 ex : List Addr
 fn : Str -> Bool
 calm : Bool
 pn : List (Addr × Obj)
 xe : Value -> Shared -> Prop
def frs (l : List Env) : List Addr := l.filterMap (·.frame)
abbrev Cx.fs (X : Cx) : List Addr := frs X.outer
def Vis (sc : Scope) (x : Str) : Prop := sc.names.lookup x = some .local \/ sc.names.lookup x = some .cell \/ sc.names.lookup x = some .free
def Loc (sc : Scope) (x : Str) : Prop := sc.names.lookup x = some .local \/ sc.names.lookup x = some .cell
def HD (env : Env) (h : Heap) (m : Str -> Option Value) (x : Str) (u : Value) : Prop :=
 (env.kindOf x = some .local /\ m x = some u) \/ ((env.kindOf x = some .cell \/ env.kindOf x = some .free) /\ ∃ c, env.cells.lookup x = some c /\ h.IsCell c (some u))
structure Cx.Ok (X : Cx) : Prop where
 mod : Mod X.K X.mg X.base
 kind : X.env.scope.kind = .function
 glob : X.env.globals = mainGlobals
 blt : X.env.builtins = builtinsNs
 above : X.s₀.heap.objs.size <= X.env.locals
 inj : ∀ x y c, X.env.cells.lookup x = some c -> X.env.cells.lookup y = some c -> x = y
 has : ∀ x, (X.env.kindOf x = some .cell \/ X.env.kindOf x = some .free) -> ∃ c, X.env.cells.lookup x = some c
 cab : ∀ x c, X.fn x = true -> X.env.cells.lookup x = some c -> X.s₀.heap.objs.size <= c
 hd : X.calm = true -> X.A.handled = none
 frames : X.A.frames = some X.stack
 stk : X.stack = X.outer \/ (X.stack = X.env :: X.outer /\ X.env.frame = some X.env.locals)
 exf : ∀ b ∈ X.ex, b ≠ X.env.locals /\ ∀ x c, X.env.cells.lookup x = some c -> c ≠ b
 bs : ∀ b o, X.base.get? b = some o -> X.s₀.heap.get? b = some o /\ X.H₀ b = none
 bsz : X.base.objs.size <= X.s₀.heap.objs.size
 noex : ∀ b o, X.base.get? b = some o -> b ∉ X.ex
 exfs : ∀ b ∈ X.ex, b ∉ X.fs
 funs : X.s₀.heap.FunFrames X.base X.outer
 frf : ∀ b ∈ X.fs, X.H₀ b = none
structure Inv (X : Cx) (pins : List (Addr × Obj)) (σ : List (Option V)) (H : Hp) (s : Shared) : Prop where
 ok : X.Ok
 os : s.os = X.s₀.os
 bare : AllBare s.gens
 base : Un X.fs X.ex X.H₀ H X.s₀.heap s.heap
 loc : ∃ m, s.heap.Ns X.env.locals m /\ ∀ (i : Nat) (x : Str) (v : V), X.N[i]? = some x -> σ[i]? = some (some v) -> Vis X.env.scope x -> ∃ u, RelV v u /\ HD X.env s.heap m x u
 cell : ∀ x c, X.env.cells.lookup x = some c -> ∃ v, s.heap.IsCell c v
 free : H X.env.locals = none
 freeC : ∀ x c, X.env.cells.lookup x = some c -> H c = none
 pin : ∀ p ∈ X.pn ++ pins, s.heap.get? p.1 = some p.2 /\ H p.1 = none /\ p.1 ≠ X.env.locals /\ p.1 ∉ X.fs /\ ∀ v, p.2.data ≠ .cell v
 hok : HOk X.prog X.w H s.heap
 len : σ.length = X.N.length
section
variable {X : Cx} {pins : List (Addr × Obj)} {σ : List (Option V)} {H H' : Hp} {s : Shared} {h' : Heap}
theorem Cx.Ok.nofr (ok : X.Ok) {b : Addr} {o : Obj} (e : X.base.get? b = some o) : b ∉ X.fs := fun hb => by
 have := (ok.funs.mem hb).1
 rw [e] at this; cases this
theorem Inv.bs (I : Inv X pins σ H s) : ∀ b o, X.base.get? b = some o -> s.heap.get? b = some o /\ H b = none := fun b o e =>
 ⟨I.base.keep b o (I.ok.bs b o e).1 (I.ok.bs b o e).2 (I.ok.nofr e) (I.ok.noex b o e), I.base.free b o (I.ok.bs b o e).1 (I.ok.bs b o e).2 (I.ok.noex b o e)⟩
theorem Inv.bk (I : Inv X pins σ H s) : ∀ b o, X.base.get? b = some o -> s.heap.get? b = some o := fun b o e => (I.bs b o e).1
theorem Inv.mod (I : Inv X pins σ H s) : Mod X.K X.mg X.base := I.ok.mod
theorem Inv.kIn (I : Inv X pins σ H s) : X.K.In s.heap := I.ok.mod.kin.keeps I.bk
theorem Inv.lt (I : Inv X pins σ H s) : X.env.locals < s.heap.objs.size := let ⟨_, hn, _⟩ := I.loc; hn.lt
theorem Inv.sz (I : Inv X pins σ H s) : X.s₀.heap.objs.size <= s.heap.objs.size := Nat.le_trans I.ok.above (Nat.le_of_lt I.lt)
theorem Inv.nofs (I : Inv X pins σ H s) {a : Addr} (h : s.heap.objs.size <= a) : a ∉ X.fs := fun hb => by
 obtain ⟨_, o, ho, _⟩ := I.ok.funs.mem hb
 exact absurd (Nat.lt_of_lt_of_le (Heap.lt_size ho) (Nat.le_trans I.sz h)) (Nat.lt_irrefl _)
theorem Inv.cne (I : Inv X pins σ H s) : ∀ x c, X.env.cells.lookup x = some c -> c ≠ X.env.locals := fun x c e z => by
 obtain ⟨v, o, ho, hd⟩ := I.cell x c e
 obtain ⟨m, ⟨o', es, ep, ho', hd', _⟩, _⟩ := I.loc
 rw [z, ho'] at ho; cases ho; rw [hd'] at hd; cases hd
theorem Inv.funs (I : Inv X pins σ H s) : s.heap.FunFrames X.base X.outer := by
 have all : ∀ (l : List Env), (∀ b ∈ frs l, b ∈ X.fs) -> X.s₀.heap.FunFrames X.base l -> s.heap.FunFrames X.base l := by
  intro l
  induction l with
  | nil => intro _ _; trivial
  | cons env r ih =>
   intro hs hl
   obtain ⟨hk, ⟨L, o, hf, hn, ho, hd⟩, hr⟩ := hl
   have hL : L ∈ X.fs := hs L (by unfold frs; rw [List.filterMap_cons, hf]; exact List.mem_cons_self)
   obtain ⟨sl, e⟩ := I.base.slot L o ho (I.ok.frf L hL) hL fun z => I.ok.exfs L z hL
   exact ⟨hk, ⟨L, _, hf, hn, e, hd⟩, ih (fun b hb => hs b (by unfold frs; rw [List.filterMap_cons, hf]; exact List.mem_cons_of_mem _ hb)) hr⟩
 exact all X.outer (fun _ hb => hb) I.ok.funs
theorem Inv.stack (I : Inv X pins σ H s) : s.heap.FunFrames X.base X.stack := by
 rcases I.ok.stk with e | ⟨e, hf⟩
 ·rw [e]; exact I.funs
 ·rw [e]
  obtain ⟨m, hn, _⟩ := I.loc
  refine .cons (by rw [I.ok.kind]; decide) hf hn ?_ I.funs
  exact Heap.get?_none_of_le (Nat.le_trans I.ok.bsz I.ok.above)
theorem Inv.stkSub (I : Inv X pins σ H s) : ∀ b ∈ frs X.stack, b ∈ X.env.locals :: X.fs := fun b hb => by
 rcases I.ok.stk with e | ⟨e, hf⟩
 ·rw [e] at hb; exact List.mem_cons_of_mem _ hb
 ·rw [e] at hb
  unfold frs at hb
  rw [List.filterMap_cons, hf] at hb
  exact hb
theorem Inv.stkFree (I : Inv X pins σ H s) : ∀ b ∈ frs X.stack, H b = none := fun b hb => by
 rcases List.mem_cons.mp (I.stkSub b hb) with e | hb
 ·rw [e]; exact I.free
 ·obtain ⟨_, o, ho, _⟩ := I.ok.funs.mem hb
  exact I.base.free b o ho (I.ok.frf b hb) fun z => I.ok.exfs b z hb
theorem Inv.step {g' : Array GenState} {t' : Nat} {d' : Drawn} {ch : List Addr} (I : Inv X pins σ H s)
 (hch : ∀ b ∈ ch, (b ∈ X.ex \/ X.s₀.heap.objs.size <= b) /\ b ≠ X.env.locals /\ (∀ x c, X.env.cells.lookup x = some c -> c ≠ b) /\ ∀ p ∈ X.pn ++ pins, p.1 ≠ b)
 (keep : ∀ b o, b ≠ X.env.locals -> b ∉ X.fs -> b ∉ ch -> s.heap.get? b = some o -> H b = none -> h'.get? b = some o)
 (slot : ∀ b o, b ≠ X.env.locals -> b ∈ X.fs -> b ∉ ch -> s.heap.get? b = some o -> H b = none -> ∃ sl, h'.get? b = some { o with slots := sl }) (free : ∀ b o, b ∉ ch -> s.heap.get? b = some o -> H b = none -> H' b = none)
 (there : ∀ b o, b ∉ ch -> s.heap.get? b = some o -> ∃ o', h'.get? b = some o')
 (tups : ∀ b xs, H b = some (.tup xs) -> H' b = some (.tup xs)) (frzs : ∀ b o u, H b = some (.frz o u) -> H' b = some (.frz o u)) (tbls : ∀ b ps, H b = some (.tbl ps) -> ∃ more, H' b = some (.tbl (ps ++ more)))
 (ns : ∀ m, s.heap.Ns X.env.locals m -> h'.Ns X.env.locals m) (hok : HOk X.prog X.w H' h') (hg : AllBare g') :
 Inv X pins σ H' { s with heap := h', gens := g', drawn := d', toks := t' } := by
 have neL : ∀ b o, X.s₀.heap.get? b = some o -> b ≠ X.env.locals := fun b o e => Nat.ne_of_lt (Nat.lt_of_lt_of_le (Heap.lt_size e) I.ok.above)
 have neC : ∀ b o, X.s₀.heap.get? b = some o -> b ∉ X.ex -> b ∉ ch := fun b o e hx hb => by
  rcases (hch b hb).1 with z | z
  ·exact hx z
  ·exact absurd (Nat.lt_of_lt_of_le (Heap.lt_size e) z) (Nat.lt_irrefl _)
 have cellK : ∀ x c, X.env.cells.lookup x = some c -> ∀ v, s.heap.IsCell c v -> h'.IsCell c v := fun x c e v ⟨o, ho, hd⟩ => by
  have nch : c ∉ ch := fun z => (hch c z).2.2.1 x c e rfl
  by_cases hc : c ∈ X.fs
  ·obtain ⟨sl, q⟩ := slot c o (I.cne x c e) hc nch ho (I.freeC x c e)
   exact ⟨_, q, hd⟩
  ·exact ⟨o, keep c o (I.cne x c e) hc nch ho (I.freeC x c e), hd⟩
 refine ⟨I.ok, I.os, hg, ⟨fun b o e n hb hx => ?_, fun b o e n hb hx => ?_, fun b o e n hx => ?_, fun b o e hx => ?_, fun b xs e => tups b xs (I.base.tups b xs e), fun b o xs e => frzs b o xs (I.base.frzs b o xs e), fun b ps e => ?_⟩, ?_, fun x c e => ?_, ?_, fun x c e => ?_, fun p hp => ?_, hok, I.len⟩
 ·exact keep b o (neL b o e) hb (neC b o e hx) (I.base.keep b o e n hb hx) (I.base.free b o e n hx)
 ·obtain ⟨sl, e1⟩ := I.base.slot b o e n hb hx
  obtain ⟨sl', e2⟩ := slot b _ (neL b o e) hb (neC b o e hx) e1 (I.base.free b o e n hx)
  exact ⟨sl', e2⟩
 ·obtain ⟨o', e1⟩ := I.base.there b o e hx
  exact free b o' (neC b o e hx) e1 (I.base.free b o e n hx)
 ·obtain ⟨o', e1⟩ := I.base.there b o e hx
  exact there b o' (neC b o e hx) e1
 ·obtain ⟨m1, e1⟩ := I.base.tbls b ps e
  obtain ⟨m2, e2⟩ := tbls b _ e1
  exact ⟨m1 ++ m2, by rw [e2, Array.append_assoc]⟩
 ·obtain ⟨m, hn, hl⟩ := I.loc
  refine ⟨m, ns m hn, fun i x v e1 e2 e3 => ?_⟩
  obtain ⟨u, r, l⟩ := hl i x v e1 e2 e3
  refine ⟨u, r, ?_⟩
  rcases l with l | ⟨k, c, e, z⟩
  ·exact .inl l
  ·exact .inr ⟨k, c, e, cellK x c e _ z⟩
 ·obtain ⟨v, z⟩ := I.cell x c e
  exact ⟨v, cellK x c e v z⟩
 ·obtain ⟨m, ⟨o, _, _, ho, _⟩, _⟩ := I.loc
  exact free _ o (fun z => (hch _ z).2.1 rfl) ho I.free
 ·obtain ⟨v, o, ho, hd⟩ := I.cell x c e
  exact free c o (fun z => (hch c z).2.2.1 x c e rfl) ho (I.freeC x c e)
 ·obtain ⟨e, n, ne, nf, d⟩ := I.pin p hp
  have nch : p.1 ∉ ch := fun z => (hch p.1 z).2.2.2 p hp rfl
  exact ⟨keep p.1 p.2 ne nf nch e n, free p.1 p.2 nch e n, ne, nf, d⟩
theorem Inv.un {t' : Nat} (I : Inv X pins σ H s) (u : Un X.fs [] H H' s.heap h') (hok : HOk X.prog X.w H' h') : Inv X pins σ H' { s with heap := h', toks := t' } := by
 obtain ⟨m, ⟨o, es, ep, ho, r⟩, _⟩ := id I.loc
 obtain ⟨sl, hL⟩ := u.any ho I.free (by simp)
 exact I.step (g' := s.gens) (d' := s.drawn) (ch := []) (fun _ z => nomatch z) (fun b o _ hb _ e n => u.keep b o e n hb (by simp)) (fun b o _ hb _ e n => u.slot b o e n hb (by simp)) (fun b o _ e n => u.free b o e n (by simp)) (fun b o _ e => u.there b o e (by simp)) u.tups u.frzs u.tbls (fun m' hm => by
  obtain ⟨o', es', ep', ho', r'⟩ := hm
  rw [ho] at ho'; cases ho'
  exact ⟨_, es', ep', hL, r'⟩) hok I.bare
theorem Inv.call {g' : Array GenState} {t' : Nat} {d' : Drawn} {ch : List Addr} (I : Inv X pins σ H s) (u : Un (frs X.stack) ch H H' s.heap h') (hok : HOk X.prog X.w H' h') (hg : AllBare g')
 (hch : ∀ b ∈ ch, (b ∈ X.ex \/ X.s₀.heap.objs.size <= b) /\ b ≠ X.env.locals /\ (∀ x c, X.env.cells.lookup x = some c -> c ≠ b) /\ ∀ p ∈ X.pn ++ pins, p.1 ≠ b) :
 Inv X pins σ H' { s with heap := h', gens := g', drawn := d', toks := t' } := by
 obtain ⟨m, ⟨o, es, ep, ho, r⟩, _⟩ := id I.loc
 obtain ⟨sl, hL⟩ := u.any ho I.free fun z => (hch _ z).2.1 rfl
 exact I.step (ch := ch) hch (fun b o hL hb hc e n => u.keep b o e n (fun z => (List.mem_cons.mp (I.stkSub b z)).elim hL hb) hc) (fun b o _ _ hc e n => u.any e n hc) (fun b o hc e n => u.free b o e n hc) (fun b o hc e => u.there b o e hc) u.tups u.frzs u.tbls (fun m' hm => by
  obtain ⟨o', es', ep', ho', r'⟩ := hm
  rw [ho] at ho'; cases ho'
  exact ⟨_, es', ep', hL, r'⟩) hok hg
theorem Inv.turned {t' : Nat} {it : Addr} (I : Inv X pins σ H s) (k : ∀ b o, b ≠ it -> s.heap.get? b = some o -> h'.get? b = some o) (hn : H it = none) (hL : it ≠ X.env.locals)
 (h1 : it ∈ X.ex \/ X.s₀.heap.objs.size <= it) (h2 : ∀ x c, X.env.cells.lookup x = some c -> c ≠ it) (h3 : ∀ p ∈ X.pn ++ pins, p.1 ≠ it) : Inv X pins σ H { s with heap := h', toks := t' } := by
 have nit : ∀ b u, H b = some u -> b ≠ it := fun b u e z => by rw [z, hn] at e; cases e
 refine I.step (g' := s.gens) (d' := s.drawn) (ch := [it]) (fun b hb => ?_) (fun b o _ _ hc e _ => k b o (fun z => hc (by simp [z])) e) (fun b o _ _ hc e _ => ⟨o.slots, k b o (fun z => hc (by simp [z])) e⟩) (fun _ _ _ _ n => n)
  (fun b o hc e => ⟨o, k b o (fun z => hc (by simp [z])) e⟩) (fun _ _ e => e) (fun _ _ _ e => e) (fun b ps e => ⟨#[], by rw [e]; simp⟩) (fun m hm => ?_) (fun b u e => ?_) I.bare
 ·have e : b = it := by simpa using hb
  subst e
  exact ⟨h1, hL, h2, h3⟩
 ·obtain ⟨o, es, ep, ho, r⟩ := hm
  exact ⟨o, es, ep, k _ o (Ne.symm hL) ho, r⟩
 ·refine (I.hok b u e).stay (fun c v hc q => k c v ?_ q) (fun _ q => q) fun _ _ q => q
  rcases hc with z | z
  ·rw [z]; exact nit b u e
  ·exact nit c _ z
theorem Inv.tok (I : Inv X pins σ H s) (t : Nat) : Inv X pins σ H { s with toks := t } := I.un (h' := s.heap) (t' := t) Un.refl I.hok
theorem Inv.kept {t' : Nat} (I : Inv X pins σ H s) (k : ∀ b u, s.heap.get? b = some u -> h'.get? b = some u) : Inv X pins σ H { s with heap := h', toks := t' } := I.un (Un.kept k) (I.hok.kept k)
theorem Inv.laid {a : Addr} {o : HO} {t' : Nat} (I : Inv X pins σ H s) (k : ∀ b u, s.heap.get? b = some u -> h'.get? b = some u) (hp : s.heap.objs.size <= a) (new : ObjOk X.prog X.w (upd H a o) h' a o) :
 Inv X pins σ (upd H a o) { s with heap := h', toks := t' } := I.un (Un.laid k hp (I.hok.fresh hp)) (I.hok.laid k hp new)
theorem Inv.write {x e : Addr} {o : HO} {t' : Nat} (I : Inv X pins σ H s) (mu : Mut (H x)) (he : e = x \/ H e = some (.own x)) (k : ∀ b u, b ≠ e -> s.heap.get? b = some u -> h'.get? b = some u) (heo : ∃ u, h'.get? e = some u)
 (new : ObjOk X.prog X.w (upd H x o) h' x o) : Inv X pins σ (upd H x o) { s with heap := h', toks := t' } := I.un (Un.write mu he k heo) (I.hok.write mu he k heo new)
theorem Inv.pins_of {pins' : List (Addr × Obj)} (I : Inv X pins σ H s) (h : ∀ p ∈ pins', s.heap.get? p.1 = some p.2 /\ H p.1 = none /\ p.1 ≠ X.env.locals /\ p.1 ∉ X.fs /\ ∀ v, p.2.data ≠ .cell v) : Inv X pins' σ H s :=
 ⟨I.ok, I.os, I.bare, I.base, I.loc, I.cell, I.free, I.freeC, fun p hp => (List.mem_append.mp hp).elim (fun z => I.pin p (List.mem_append_left _ z)) (h p), I.hok, I.len⟩
theorem tT {N : List Str} (hN : N.Nodup) {i j : Nat} {x : Str} (a : N[i]? = some x) (b : N[j]? = some x) : i = j := by
 obtain ⟨h1, e1⟩ := List.getElem?_eq_some_iff.mp a
 obtain ⟨h2, e2⟩ := List.getElem?_eq_some_iff.mp b
 exact (List.getElem_inj hN).mp (e1.trans e2.symm)
theorem uR {M : Model} {A : Around} {E : Value -> Shared -> Prop} {i : Nat} {x : Str} {v : V} {u : Value} {Q : Unit -> Shared -> Prop} (I : Inv X pins σ H s) (hN : X.N.Nodup) (hi : X.N[i]? = some x) (hx : Loc X.env.scope x) (r : RelV v u)
 (h : ∀ s', Inv X pins (σ.set i (some v)) H s' -> (∃ a, Heap.SameBut a s.heap s'.heap /\ (a = X.env.locals \/ X.env.cells.lookup x = some a)) -> Q () s') (hf : X.fn x = true \/ X.env.scope.names.lookup x = some .local := by first | exact .inl rfl | exact .inr rfl | assumption) : wpAny M A (storeName X.env x u) Q E s := by
 obtain ⟨m, hn, hl⟩ := id I.loc
 have hcls : (X.env.scope.kind == .class || (X.env.scope.kind == .module && X.env.locals != X.env.globals)) = false := by rw [I.ok.kind]; rfl
 have hiσ : i < σ.length := by rw [I.len]; exact (List.getElem?_eq_some_iff.mp hi).1
 have cne := I.cne
 have tracked : ∀ {a : Addr} {h' : Heap}, (∃ o, s.heap.get? a = some o /\ H a = none) -> Heap.SameBut a s.heap h' -> HOk X.prog X.w H h' := fun {a h'} ha hs b ob e => by
  obtain ⟨_, _, hfree⟩ := ha
  refine (I.hok b ob e).stay (fun c w' hc q => (hs.2 c ?_).trans q) (fun _ q => q) fun _ _ q => q
  rintro rfl
  rcases hc with rfl | hc
  ·rw [hfree] at e; cases e
  ·rw [hfree] at hc; cases hc
 rcases hx with hk | hk
 ·refine wpAny_storeName_local hk hn (fun h' hn' hs => ?_) hcls
  obtain ⟨oL, _, _, hoL, _⟩ := id hn
  refine h _ ⟨I.ok, I.os, I.bare, ⟨fun b o e n hb hx => ?_, fun b o e n hb hx => ?_, I.base.free, fun b o e hx => ?_, I.base.tups, I.base.frzs, I.base.tbls⟩, ⟨_, hn', fun j y v' e1 e2 e3 => ?_⟩, fun y c e => ?_, I.free, I.freeC, fun p hp => ?_, tracked ⟨oL, hoL, I.free⟩ hs, by simpa using I.len⟩ ⟨_, hs, .inl rfl⟩
  ·exact (hs.2 b (Nat.ne_of_lt (Nat.lt_of_lt_of_le (Heap.lt_size e) I.ok.above))).trans (I.base.keep b o e n hb hx)
  ·obtain ⟨sl, e1⟩ := I.base.slot b o e n hb hx
   exact ⟨sl, (hs.2 b (Nat.ne_of_lt (Nat.lt_of_lt_of_le (Heap.lt_size e) I.ok.above))).trans e1⟩
  ·obtain ⟨o', e1⟩ := I.base.there b o e hx
   exact ⟨o', (hs.2 b (Nat.ne_of_lt (Nat.lt_of_lt_of_le (Heap.lt_size e) I.ok.above))).trans e1⟩
  ·by_cases hj : j = i
   ·subst hj
    rw [hi] at e1; cases e1
    rw [List.getElem?_set_self hiσ] at e2
    cases e2
    exact ⟨u, r, .inl ⟨hk, by simp⟩⟩
   ·rw [List.getElem?_set_ne (Ne.symm hj)] at e2
    obtain ⟨u', r', q⟩ := hl j y v' e1 e2 e3
    refine ⟨u', r', ?_⟩
    rcases q with ⟨k, e⟩ | ⟨k, c, e, z⟩
    ·refine .inl ⟨k, ?_⟩
     have : y ≠ x := fun e => hj (tT hN e1 (e ▸ hi))
     simp [this, e]
    ·exact .inr ⟨k, c, e, z.sameBut hs (cne y c e)⟩
  ·obtain ⟨w', z⟩ := I.cell y c e
   exact ⟨w', z.sameBut hs (cne y c e)⟩
  ·obtain ⟨e, n, ne, nf, d⟩ := I.pin p hp
   exact ⟨(hs.2 p.1 ne).trans e, n, ne, nf, d⟩
 ·have hfn : X.fn x = true := by
   rcases hf with z | z
   ·exact z
   ·rw [z] at hk; cases hk
  obtain ⟨c, hc⟩ := I.ok.has x (.inl hk)
  obtain ⟨w', z⟩ := I.cell x c hc
  refine wpAny_storeName_cell I.ok.kind hk hc z (fun h' hc' hs => ?_)
  obtain ⟨oc, hoc, hocd⟩ := id z
  refine h { s with heap := h' } ⟨I.ok, I.os, I.bare, ⟨fun b o e n hb hx => ?_, fun b o e n hb hx => ?_, I.base.free, fun b o e hx => ?_, I.base.tups, I.base.frzs, I.base.tbls⟩, ⟨m, hn.sameBut hs (Ne.symm (cne x c hc)), fun j y v' e1 e2 e3 => ?_⟩, fun y c' e => ?_, I.free, I.freeC, fun p hp => ?_, tracked ⟨oc, hoc, I.freeC x c hc⟩ hs, by simpa using I.len⟩ ⟨c, hs, .inr hc⟩
  ·exact (hs.2 b (Nat.ne_of_lt (Nat.lt_of_lt_of_le (Heap.lt_size e) (I.ok.cab x c hfn hc)))).trans (I.base.keep b o e n hb hx)
  ·obtain ⟨sl, e1⟩ := I.base.slot b o e n hb hx
   exact ⟨sl, (hs.2 b (Nat.ne_of_lt (Nat.lt_of_lt_of_le (Heap.lt_size e) (I.ok.cab x c hfn hc)))).trans e1⟩
  ·obtain ⟨o', e1⟩ := I.base.there b o e hx
   exact ⟨o', (hs.2 b (Nat.ne_of_lt (Nat.lt_of_lt_of_le (Heap.lt_size e) (I.ok.cab x c hfn hc)))).trans e1⟩
  ·by_cases hj : j = i
   ·subst hj
    rw [hi] at e1; cases e1
    rw [List.getElem?_set_self hiσ] at e2
    cases e2
    exact ⟨u, r, .inr ⟨.inl hk, c, hc, hc'⟩⟩
   ·rw [List.getElem?_set_ne (Ne.symm hj)] at e2
    obtain ⟨u', r', q⟩ := hl j y v' e1 e2 e3
    refine ⟨u', r', ?_⟩
    rcases q with q | ⟨k, c', e, z'⟩
    ·exact .inl q
    ·refine .inr ⟨k, c', e, z'.sameBut hs ?_⟩
     rintro rfl
     exact hj (tT hN e1 (I.ok.inj _ _ _ e hc ▸ hi))
  ·by_cases hcc : c' = c
   ·subst hcc; exact ⟨_, hc'⟩
   ·obtain ⟨w2, z2⟩ := I.cell y c' e
    exact ⟨w2, z2.sameBut hs hcc⟩
  ·obtain ⟨e, n, ne, nf, d⟩ := I.pin p hp
   refine ⟨(hs.2 p.1 ?_).trans e, n, ne, nf, d⟩
   intro q
   rw [q, hoc] at e
   have q' : oc = p.2 := Option.some.inj e
   exact d w' (by rw [<- q']; exact hocd)
theorem sX {M : Model} {A : Around} {E : Value -> Shared -> Prop} {i : Nat} {x : Str} {v : V} {u : Value} {Q : Unit -> Shared -> Prop} (I : Inv X pins σ H s) (hN : X.N.Nodup) (hi : X.N[i]? = some x) (hx : Loc X.env.scope x) (r : RelV v u)
 (h : ∀ s', Inv X pins (σ.set i (some v)) H s' -> Q () s') (hf : X.fn x = true \/ X.env.scope.names.lookup x = some .local := by first | exact .inl rfl | exact .inr rfl | assumption) : wpAny M A (storeName X.env x u) Q E s :=
 uR I hN hi hx r (fun s' I' _ => h s' I') hf
theorem Inv.call' {s' : Shared} {ch : List Addr} (I : Inv X pins σ H s) (ho : s'.os = s.os) (u : Un (frs X.stack) ch H H' s.heap s'.heap) (hok : HOk X.prog X.w H' s'.heap) (hg : AllBare s'.gens)
 (hch : ∀ b ∈ ch, (b ∈ X.ex \/ X.s₀.heap.objs.size <= b) /\ b ≠ X.env.locals /\ (∀ x c, X.env.cells.lookup x = some c -> c ≠ b) /\ ∀ p ∈ X.pn ++ pins, p.1 ≠ b) : Inv X pins σ H' s' := by
 obtain ⟨h', g', d', t', o'⟩ := s'
 have e : o' = s.os := ho
 subst e
 exact I.call (g' := g') (t' := t') (d' := d') u hok hg hch
end
abbrev XK := Value -> Option Addr -> Hp -> Prop
abbrev St := List (Option V)
abbrev VK := V -> Hp -> Prop
abbrev TE := St -> Hp -> VK -> Prop
abbrev TT := St -> Hp -> (Bool -> Hp -> Prop) -> Prop
abbrev TA := St -> Hp -> (List V -> Hp -> Prop) -> Prop
structure kh where
 nx : St -> Hp -> Prop
 rt : VK
 bk : St -> Hp -> Prop := fun _ _ => False
 ct : St -> Hp -> Prop := fun _ _ => False
abbrev TS := kh -> St -> Hp -> Prop
def EP (X : Cx) (pins : List (Addr × Obj)) (σ : St) (Q : VK) (u : Value) (s' : Shared) : Prop := ∃ v H', Inv X pins σ H' s' /\ RelV v u /\ Q v H'
def TP (X : Cx) (pins : List (Addr × Obj)) (σ : St) (Q : Bool -> Hp -> Prop) (b : Bool) (s' : Shared) : Prop := ∃ H', Inv X pins σ H' s' /\ Q b H'
def AP (X : Cx) (pins : List (Addr × Obj)) (σ : St) (Q : List V -> Hp -> Prop) (us : List Value) (s' : Shared) : Prop := ∃ vs H', Inv X pins σ H' s' /\ Vals vs us /\ Q vs H'
def SP (X : Cx) (pins : List (Addr × Obj)) (D : kh) (f : Flow) (s' : Shared) : Prop :=
 match f with
 | .next => ∃ σ' H', Inv X pins σ' H' s' /\ D.nx σ' H'
 | .brk => ∃ σ' H', Inv X pins σ' H' s' /\ D.bk σ' H'
 | .cont => ∃ σ' H', Inv X pins σ' H' s' /\ D.ct σ' H'
 | .ret u => ∃ v σ' H', Inv X pins σ' H' s' /\ RelV v u /\ D.rt v H'
def PE (X : Cx) (e : Expr) (t : TE) : Prop :=
 ∀ (pins : List (Addr × Obj)) (s : Shared) (σ : St) (H : Hp) (Q : VK), Inv X pins σ H s -> t σ H Q -> wpAny (model X.prog X.w) X.A (eval e X.env) (EP X pins σ Q) X.xe s
def PT (X : Cx) (e : Expr) (t : TT) : Prop :=
 ∀ (pins : List (Addr × Obj)) (s : Shared) (σ : St) (H : Hp) (Q : Bool -> Hp -> Prop), Inv X pins σ H s -> t σ H Q -> wpAny (model X.prog X.w) X.A (isTrue e X.env (eval e X.env)) (TP X pins σ Q) X.xe s
def PW (X : Cx) (e : Expr) (t : TT) : Prop :=
 ∀ (whole : Sem Value) (pins : List (Addr × Obj)) (s : Shared) (σ : St) (H : Hp) (Q : Bool -> Hp -> Prop), Inv X pins σ H s -> t σ H Q -> wpAny (model X.prog X.w) X.A (isTrue e X.env whole) (TP X pins σ Q) X.xe s
theorem PW.pt {X : Cx} {e : Expr} {t : TT} (h : PW X e t) : PT X e t := h _
def PA (X : Cx) (es : List Expr) (t : TA) : Prop :=
 ∀ (pos : Pos) (pins : List (Addr × Obj)) (s : Shared) (σ : St) (H : Hp) (Q : List V -> Hp -> Prop), Inv X pins σ H s -> t σ H Q -> wpAny (model X.prog X.w) X.A (spliced (backTo pos (starEach es X.env))) (AP X pins σ Q) X.xe s
def PS (X : Cx) (st : Stmt) (t : TS) : Prop :=
 ∀ (pins : List (Addr × Obj)) (s : Shared) (σ : St) (H : Hp) (D : kh), Inv X pins σ H s -> t D σ H -> wpAny (model X.prog X.w) X.A (exec st X.env) (SP X pins D) X.xe s
def PSs (X : Cx) (st : List Stmt) (t : TS) : Prop :=
 ∀ (pins : List (Addr × Obj)) (s : Shared) (σ : St) (H : Hp) (D : kh), Inv X pins σ H s -> t D σ H -> wpAny (model X.prog X.w) X.A (execs st X.env) (SP X pins D) X.xe s
theorem thn {α : Type} {t : Sem α} {Q Q' : α -> Shared -> Prop} {M : Model} {A : Around} {E : Value -> Shared -> Prop} {s : Shared} (h : wpAny M A t Q E s) (hQ : ∀ a s, Q a s -> Q' a s) : wpAny M A t Q' E s := wpAny_mono h hQ fun _ _ x => x
end L2
namespace L2
open PySem PySem.Spec PyProof.Rows
section
variable {X : Cx}
theorem bin {a b : Expr} {ta tb : TE} (ha : PE X a ta) (hb : PE X b tb) {pins : List (Addr × Obj)} {s : Shared} {σ : St} {H : Hp} {R : V -> V -> Hp -> Prop} (I : Inv X pins σ H s) (h : ta σ H fun x H1 => tb σ H1 fun y H2 => R x y H2)
 {α : Type} {Q : α -> Shared -> Prop} {f : Value -> Value -> Sem α}
 (hf : ∀ v u s2 x y H2, Inv X pins σ H2 s2 -> RelV x v -> RelV y u -> R x y H2 -> wpAny (model X.prog X.w) X.A (f v u) Q X.xe s2) :
 wpAny (model X.prog X.w) X.A (eval a X.env) (fun v s₁ => wpAny (model X.prog X.w) X.A (eval b X.env) (fun u s₂ => wpAny (model X.prog X.w) X.A (f v u) Q X.xe s₂) X.xe s₁) X.xe s := by
 refine thn (ha pins s σ H _ I h) fun v s1 ⟨x, H1, I1, r1, q1⟩ => ?_
 refine thn (hb pins s1 σ H1 _ I1 q1) fun u s2 ⟨y, H2, I2, r2, q2⟩ => ?_
 exact hf v u s2 x y H2 I2 r1 r2 q2
def HC (i : Nat) : TE := fun σ H Q => ∃ v, σ[i]? = some (some v) /\ Q v H
def tC (v : V) : TE := fun _ H Q => Q v H
theorem Gm {i : Nat} {x : Str} {pos : Pos} (hN : X.N[i]? = some x) (hv : Vis X.env.scope x) (hd : (x == ("__debug__" : Str)) = false := by decide) (hcd : (x == ("__classdict__" : Str)) = false := by decide) : PE X (.Name x pos) (HC i) := by
 intro pins s σ H Q I h
 obtain ⟨v, e, h⟩ := h
 obtain ⟨m, hn, hl⟩ := I.loc
 obtain ⟨u, r, l⟩ := hl i x v hN e hv
 have fin : EP X pins σ Q u s := ⟨v, H, I, r, h⟩
 rcases l with ⟨hk, hm⟩ | ⟨hk, c, hc, hcell⟩
 ·exact wpAny_Name (wpAny_loadName_local I.ok.kind hk hn hm fin) hd
 ·rcases hk with hk | hk
  ·exact wpAny_Name (wpAny_loadName_cell I.ok.kind hk hc hcell fin) hd
  ·exact wpAny_Name (wpAny_loadName_free I.ok.kind hk hc hcell fin hcd) hd
theorem ag {i j pos} : PE X (.Constant (.int i) j pos) (tC (.int i)) := fun _ _ _ H _ I h => wpAny_Constant_int ⟨.int i, H, I.tok _, ⟨_, rfl⟩, h⟩
theorem eh {b j pos} : PE X (.Constant (.bool b) j pos) (tC (.bl b)) := fun _ _ _ H _ I h => Constant_bool ⟨.bl b, H, I, rfl, h⟩
theorem cX {j pos} : PE X (.Constant .none j pos) (tC .non) := fun _ _ _ H _ I h => Constant_none ⟨.non, H, I, rfl, h⟩
theorem Fn {x j pos} : PE X (.Constant (.str x) j pos) (tC (.str x)) := fun _ _ _ H _ I h => Calls.Constant_str ⟨.str x, H, I.tok _, ⟨_, rfl⟩, h⟩
def Gl (X : Cx) (x : Str) : Prop := X.env.kindOf x = some .globalImplicit
theorem jT {E : Value -> Shared -> Prop} {pins : List (Addr × Obj)} {s : Shared} {σ : St} {H : Hp} {x : Str} {u : Value} {pos : Pos} {Q : Value -> Shared -> Prop} (I : Inv X pins σ H s) (hg : Gl X x) (hm : X.mg x = some u) (h : Q u s)
 (hd : (x == ("__debug__" : Str)) = false := by decide) : wpAny (model X.prog X.w) X.A (eval (.Name x pos) X.env) Q E s :=
 Calls.Name_function_global I.ok.kind hg (Calls.loadGlobal_global (by rw [I.ok.glob]; exact I.mod.glob.keeps I.bk) hm h) hd
theorem lJ {E : Value -> Shared -> Prop} {pins : List (Addr × Obj)} {s : Shared} {σ : St} {H : Hp} {x : Str} {u : Value} {pos : Pos} {Q : Value -> Shared -> Prop} (I : Inv X pins σ H s) (hg : Gl X x) (hm : X.mg x = none) (hv : bootBuiltins x = some u) (h : Q u s)
 (hn : x ≠ "__name__" := by decide) (hd : (x == ("__debug__" : Str)) = false := by decide) : wpAny (model X.prog X.w) X.A (eval (.Name x pos) X.env) Q E s := by
 obtain ⟨mb, h1, h2⟩ := I.mod.blt
 exact Calls.Name_function_global I.ok.kind hg (Calls.loadGlobal_builtin (by rw [I.ok.glob]; exact I.mod.glob.keeps I.bk) hm (by rw [I.ok.blt]; exact h1.keeps I.bk) ((h2 x hn).trans hv) h) hd
theorem fJ {x : Str} {v : V} {u : Value} {pos : Pos} (hg : Gl X x) (hm : X.mg x = some u) (r : RelV v u) (hd : (x == ("__debug__" : Str)) = false := by decide) : PE X (.Name x pos) (tC v) :=
 fun _ _ _ H _ I h => jT I hg hm ⟨v, H, I, r, h⟩ hd
theorem cU {x : Str} {v : V} {u : Value} {pos : Pos} (hg : Gl X x) (hm : X.mg x = none) (hv : bootBuiltins x = some u) (r : RelV v u) (hn : x ≠ "__name__" := by decide) (hd : (x == ("__debug__" : Str)) = false := by decide) : PE X (.Name x pos) (tC v) :=
 fun _ _ _ H _ I h => lJ I hg hm hv ⟨v, H, I, r, h⟩ hn hd
variable {a b : Expr} {ta tb : TE} {pos : Pos}
def PC (X : Cx) (op : CmpOp) (a b : Expr) (t : TE) : Prop :=
 ∀ (pins : List (Addr × Obj)) (s : Shared) (σ : St) (H : Hp) (Q : VK), Inv X pins σ H s -> t σ H Q ->
  wpAny (model X.prog X.w) X.A (eval a X.env) (fun v s₁ => wpAny (model X.prog X.w) X.A (eval b X.env) (fun u s₂ => wpAny (model X.prog X.w) X.A (compareOp op v u) (EP X pins σ Q) X.xe s₂) X.xe s₁) X.xe s
theorem yn (b : Expr) {op : CmpOp} (h : op ≠ .In) (h2 : op ≠ .NotIn) : behindInMarks op b = false := by
 have e1 : (op == CmpOp.In) = false := by cases op <;> first | rfl | exact absurd rfl h
 have e2 : (op == CmpOp.NotIn) = false := by cases op <;> first | rfl | exact absurd rfl h2
 cases b <;> simp [behindInMarks, e1, e2]
def GU (ta : TE) : TE := fun σ H Q => ta σ H fun x H1 => Q (.bl (decide (x = .non))) H1
def ER (ta : TE) : TE := fun σ H Q => ta σ H fun x H1 => Q (.bl (!decide (x = .non))) H1
theorem RelV.none_iff {x : V} {v : Value} (r : RelV x v) : (v == Value.none) = decide (x = .non) := by
 cases x with
 | non => cases r; rfl
 | bl _ => cases r; rfl
 | int _ => obtain ⟨t, rfl⟩ := r; rfl
 | str _ => obtain ⟨t, rfl⟩ := r; rfl
 | byt _ => obtain ⟨t, rfl⟩ := r; rfl
 | flt _ => obtain ⟨t, rfl⟩ := r; rfl
 | ref _ => cases r; rfl
 | ty _ => cases r; rfl
theorem mZ {j pos'} (ha : PE X a ta) : PC X .Is a (.Constant .none j pos') (GU ta) := by
 intro pins s σ H Q I h
 refine thn (ha pins s σ H _ I h) fun v s1 ⟨x, H1, I1, r1, q1⟩ => ?_
 exact Constant_none (is_none_gen ⟨.bl _, H1, I1, by rw [r1.none_iff]; rfl, q1⟩)
theorem jZ {j pos'} (ha : PE X a ta) : PC X .IsNot a (.Constant .none j pos') (ER ta) := by
 intro pins s σ H Q I h
 refine thn (ha pins s σ H _ I h) fun v s1 ⟨x, H1, I1, r1, q1⟩ => ?_
 exact Constant_none (isnot_none_gen ⟨.bl _, H1, I1, by rw [r1.none_iff]; rfl, q1⟩)
theorem lO {op : CmpOp} {t : TE} (h : PC X op a b t) (h1 : behindInMarks op b = false := by first | exact yn _ (by decide) (by decide) | rfl) : PE X (.Compare a [op] [b] pos) t := fun pins s σ H Q I hw => wpAny_Compare1 (h pins s σ H Q I hw) h1
variable {tA tB' : TT} {rest : List Expr}
def Gp (t u : TT) : TT := fun σ H Q => t σ H fun c H1 => if c = true then u σ H1 Q else Q false H1
def tOr (t u : TT) : TT := fun σ H Q => t σ H fun c H1 => if c = true then Q true H1 else u σ H1 Q
def GX (t : TT) : TT := fun σ H Q => t σ H fun c H1 => Q (!c) H1
theorem rZ (ha : PT X a tA) : PW X (.BoolOp .And [a] pos) tA := by
 intro wh pins s σ H Q I h
 refine isTrue_and (thn (ha pins s σ H Q I h) fun c s1 e => ?_)
 cases c with
 | true => exact isTrue_and_nil e
 | false => exact e
theorem hR (ha : PT X a tA) : PW X (.BoolOp .Or [a] pos) tA := by
 intro wh pins s σ H Q I h
 refine isTrue_or (thn (ha pins s σ H Q I h) fun c s1 e => ?_)
 cases c with
 | false => exact isTrue_or_nil e
 | true => exact e
theorem wd (ha : PT X a tA) (hb : PW X (.BoolOp .And (b :: rest) pos) tB') : PW X (.BoolOp .And (a :: b :: rest) pos) (Gp tA tB') := by
 intro wh pins s σ H Q I h
 refine isTrue_and (thn (ha pins s σ H _ I h) fun c s1 ⟨H1, I1, q1⟩ => ?_)
 cases c with
 | true => exact hb wh pins s1 σ H1 Q I1 q1
 | false => exact ⟨H1, I1, q1⟩
theorem lK (ha : PT X a tA) (hb : PW X (.BoolOp .Or (b :: rest) pos) tB') : PW X (.BoolOp .Or (a :: b :: rest) pos) (tOr tA tB') := by
 intro wh pins s σ H Q I h
 refine isTrue_or (thn (ha pins s σ H _ I h) fun c s1 ⟨H1, I1, q1⟩ => ?_)
 cases c with
 | true => exact ⟨H1, I1, q1⟩
 | false => exact hb wh pins s1 σ H1 Q I1 q1
theorem cc (ha : PT X a tA) : PT X (.UnaryOp .Not a pos) (GX tA) := by
 intro pins s σ H Q I h
 exact isTrue_not (ha pins s σ H (fun c H1 => Q (!c) H1) I h)
theorem d5 {op} {t : TE} (h : PE X a t) : PE X (.BoolOp op [a] pos) t := fun pins s σ H Q I hw => BoolOp_one (h pins s σ H Q I hw)
end
end L2
namespace L2
open PySem PySem.Spec PyProof.Rows
def SqL (K : W.Frag) (H : Hp) (a : Addr) (xs : List V) : Prop :=
 Rd H a (.lst xs) \/
  ∃ (o : Obj) (its : Array Value) (n : Nat), K.lookup a = some o /\ o.cls = .type "list" /\ o.dict = none /\ o.data = .seq its n /\ its.size <= sizeLine /\ Vals xs its.toList
def SqT (K : W.Frag) (H : Hp) (a : Addr) (xs : List V) : Prop :=
 Rd H a (.tup xs) \/
  ∃ (o : Obj) (its : Array Value) (n : Nat), K.lookup a = some o /\ o.cls = .type "tuple" /\ o.data = .seq its n /\ its.size <= sizeLine /\ Vals xs its.toList
def HB : Value -> Option V
 | .none => some .non
 | .bool b => some (.bl b)
 | .int i _ => some (.int i)
 | .str x _ => some (.str x)
 | .bytes b _ => some (.byt b)
 | .float b _ => some (.flt b)
 | .ref a => some (.ref a)
 | .type n => some (.ty n)
 | _ => none
theorem RelV.abs {x : V} {u : Value} (r : RelV x u) : HB u = some x := by
 cases x with
 | non => cases r; rfl
 | bl _ => cases r; rfl
 | int _ => obtain ⟨t, rfl⟩ := r; rfl
 | str _ => obtain ⟨t, rfl⟩ := r; rfl
 | byt _ => obtain ⟨t, rfl⟩ := r; rfl
 | flt _ => obtain ⟨t, rfl⟩ := r; rfl
 | ref _ => cases r; rfl
 | ty _ => cases r; rfl
theorem RelV.inj {x y : V} {u : Value} (r : RelV x u) (q : RelV y u) : x = y := Option.some.inj (r.abs.symm.trans q.abs)
theorem Vals.inj : ∀ {xs ys : List V} {us : List Value}, Vals xs us -> Vals ys us -> xs = ys
 | _, _, _, .nil, .nil => rfl
 | _, _, _, .cons r t, .cons r' t' => by rw [r.inj r', Vals.inj t t']
section
variable {X : Cx} {pins : List (Addr × Obj)} {σ : St} {H : Hp} {s : Shared} {a : Addr} {xs ys : List V}
theorem SqL.of {K : W.Frag} (h : H a = some (.lst xs)) : SqL K H a xs := .inl (.inl h)
theorem SqT.of {K : W.Frag} (h : H a = some (.tup xs)) : SqT K H a xs := .inl (.inl h)
theorem Inv.list (I : Inv X pins σ H s) (h : SqL X.K H a xs) : ∃ its : List Value, Vals xs its /\ PlainL s.heap a its.toArray /\ xs.length <= sizeLine := by
 rcases h with h | ⟨o, its, n, hk, hc, hd, hs, hz, r⟩
 ·obtain ⟨z, its, n, r, e⟩ := h.ok I.hok
  exact ⟨its, r, ⟨_, n, e, rfl, rfl, rfl⟩, z⟩
 ·refine ⟨its.toList, r, ⟨o, n, I.kIn a o hk, hc, hd, by simpa using hs⟩, ?_⟩
  have e := r.length
  simp only [Array.length_toList] at e
  omega
theorem Inv.tuple (I : Inv X pins σ H s) (h : SqT X.K H a xs) : ∃ its : List Value, Vals xs its /\ IsTup s.heap a its.toArray /\ xs.length <= sizeLine := by
 rcases h with h | ⟨o, its, n, hk, hc, hs, hz, r⟩
 ·obtain ⟨z, its, r, p⟩ := h.ok I.hok
  exact ⟨its, r, p, z⟩
 ·refine ⟨its.toList, r, ⟨o, I.kIn a o hk, hc, n, by simpa using hs⟩, ?_⟩
  have e := r.length
  simp only [Array.length_toList] at e
  omega
theorem Inv.list_inj (I : Inv X pins σ H s) (h : SqL X.K H a xs) (h' : SqL X.K H a ys) : xs = ys := by
 obtain ⟨its, r, ⟨o, n, e, _, _, d⟩, _⟩ := I.list h
 obtain ⟨its', r', ⟨o', n', e', _, _, d'⟩, _⟩ := I.list h'
 rw [e] at e'; cases e'
 rw [d] at d'
 injection d' with d1 _
 have : its = its' := by simpa using congrArg Array.toList d1
 subst this
 exact r.inj r'
theorem Inv.tuple_inj (I : Inv X pins σ H s) (h : SqT X.K H a xs) (h' : SqT X.K H a ys) : xs = ys := by
 obtain ⟨its, r, ⟨o, e, _, n, d⟩, _⟩ := I.tuple h
 obtain ⟨its', r', ⟨o', e', _, n', d'⟩, _⟩ := I.tuple h'
 rw [e] at e'; cases e'
 rw [d] at d'
 injection d' with d1 _
 have : its = its' := by simpa using congrArg Array.toList d1
 subst this
 exact r.inj r'
end
abbrev Cx.wish (X : Cx) (E : Value -> Shared -> Prop) : Cx := { X with xe := E }
abbrev Cx.nox (X : Cx) : Cx := X.wish fun _ _ => False
section
variable {X : Cx} {pins : List (Addr × Obj)} {σ : St} {H : Hp} {s : Shared} {E : Value -> Shared -> Prop}
end
section
variable {X : Cx} {st : Stmt} {rest : List Stmt} {t u : TS} {e : Expr} {te : TE} {pos : Pos}
def EB : TS := fun D σ H => D.nx σ H
def Hk (t u : TS) : TS := fun D σ H => t { D with nx := u D } σ H
theorem aD : PSs X [] EB := fun _ _ σ H _ I h => wpAny_execs_nil ⟨σ, H, I, h⟩
theorem af (h1 : PS X st t) (h2 : PSs X rest u) : PSs X (st :: rest) (Hk t u) := by
 intro pins s σ H D I h
 refine wpAny_execs_cons (thn (h1 pins s σ H { D with nx := u D } I h) fun f s1 q => ?_)
 cases f with
 | next =>
  obtain ⟨σ', H', I', q⟩ := q
  exact h2 pins s1 σ' H' D I' q
 | ret v => exact q
 | brk => exact q
 | cont => exact q
theorem aj (h1 : PS X st t) : PSs X [st] t := by
 intro pins s σ H D I h
 refine wpAny_execs_cons (thn (h1 pins s σ H D I h) fun f s1 q => ?_)
 cases f with
 | next => exact wpAny_execs_nil q
 | ret v => exact q
 | brk => exact q
 | cont => exact q
theorem Inv.quiet {pins : List (Addr × Obj)} {σ : St} {H : Hp} {s : Shared} (I : Inv X pins σ H s) : interactive X.env = false := by simp [interactive, I.ok.kind]
def EJ (te : TE) : TS := fun D σ H => te σ H fun _ H1 => D.nx σ H1
theorem cZ (he : PE X e te) (hs : swapsWith e none pos.line X.env = pure false := by rfl) : PS X (.Expr e pos) (EJ te) := by
 intro pins s σ H D I h
 exact wpAny_Expr_any (thn (he pins s σ H _ I h) fun v s1 ⟨x, H1, I1, r1, q1⟩ => ⟨σ, H1, I1, q1⟩) I.quiet hs
def Hn (te : TE) : TS := fun D σ H => te σ H D.rt
theorem aA (he : PE X e te) : PS X (.Return (some e) pos) (Hn te) := by
 intro pins s σ H D I h
 exact wpAny_Return_some (thn (he pins s σ H _ I h) fun v s1 ⟨x, H1, I1, r1, q1⟩ => ⟨x, σ, H1, I1, r1, q1⟩)
def GZ (c : TT) (t u : TS) : TS := fun D σ H => c σ H fun b H1 => if b = true then t D σ H1 else u D σ H1
theorem aS {c : Expr} {a b : List Stmt} {tc : TT} (hc : PT X c tc) (ha : PSs X a t) (hb : PSs X b u) : PS X (.If c a b pos) (GZ tc t u) := by
 intro pins s σ H D I h
 refine wpAny_If (thn (hc pins s σ H _ I h) fun d s1 ⟨H1, I1, q1⟩ => ?_)
 cases d with
 | true => exact ha pins s1 σ H1 D I1 q1
 | false => exact hb pins s1 σ H1 D I1 q1
end
abbrev TG := V -> St -> Hp -> (St -> Hp -> Prop) -> Prop
abbrev TGs := List V -> St -> Hp -> (St -> Hp -> Prop) -> Prop
def PG (X : Cx) (target : Expr) (t : TG) : Prop :=
 ∀ (pins : List (Addr × Obj)) (s : Shared) (σ : St) (H : Hp) (v : V) (u : Value) (Q : St -> Hp -> Prop), Inv X pins σ H s -> RelV v u -> t v σ H Q ->
  wpAny (model X.prog X.w) X.A (assign target X.env u) (fun _ s' => ∃ σ' H', Inv X pins σ' H' s' /\ Q σ' H') X.xe s
def PGs (X : Cx) (ts : List Expr) (t : TGs) : Prop :=
 ∀ (pins : List (Addr × Obj)) (s : Shared) (σ : St) (H : Hp) (vs : List V) (us : List Value) (Q : St -> Hp -> Prop), Inv X pins σ H s -> Vals vs us -> t vs σ H Q ->
  wpAny (model X.prog X.w) X.A (assignInOrder ((assignEach ts X.env).map (·.2)) us) (fun _ s' => ∃ σ' H', Inv X pins σ' H' s' /\ Q σ' H') X.xe s
abbrev Fh := V -> V -> V -> Hp -> (Hp -> Prop) -> Prop
def Gu (X : Cx) (t : Fh) : Prop :=
 ∀ (pins : List (Addr × Obj)) (s : Shared) (σ : St) (H : Hp) (o i v : V) (ov iv u : Value) (Q : Hp -> Prop), Inv X pins σ H s -> RelV o ov -> RelV i iv -> RelV v u -> t o i v H Q ->
  wpAny (model X.prog X.w) X.A (setItem ov iv u) (fun _ s' => ∃ H', Inv X pins σ H' s' /\ Q H') X.xe s
section
variable {X : Cx} {pos : Pos}
def jq (i : Nat) : TG := fun v σ H Q => Q (σ.set i (some v)) H
theorem bv {i : Nat} {x : Str} (hN : X.N.Nodup) (hi : X.N[i]? = some x) (hx : Loc X.env.scope x) (hf : X.fn x = true \/ X.env.scope.names.lookup x = some .local := by first | exact .inl rfl | exact .inr rfl | assumption) : PG X (.Name x pos) (jq i) := by
 intro pins s σ H v u Q I r h
 exact wpAny_assign_Name (sX I hN hi hx r (fun s' I' => ⟨_, H, I', h⟩) hf)
def GD : TGs := fun vs σ H Q => vs = [] /\ Q σ H
def ES (t : TG) (u : TGs) : TGs := fun vs σ H Q => ∃ v r, vs = v :: r /\ t v σ H fun σ' H' => u r σ' H' Q
theorem vX : PGs X [] GD := by
 intro pins s σ H vs us Q I r h
 obtain ⟨e, h⟩ := h
 subst e
 cases r
 exact assignInOrder_nil ⟨σ, H, I, h⟩
theorem g0 {e : Expr} {es : List Expr} {t : TG} {u : TGs} (h1 : PG X e t) (h2 : PGs X es u)
 (hs : (assignEach (e :: es) X.env).map (·.2) = assign e X.env :: (assignEach es X.env).map (·.2) := by rfl) : PGs X (e :: es) (ES t u) := by
 intro pins s σ H vs us Q I r h
 obtain ⟨v, vr, e1, h⟩ := h
 subst e1
 cases r with
 | cons r rr =>
  rw [hs]
  refine assignInOrder_cons (thn (h1 pins s σ H _ _ _ I r h) fun _ s1 ⟨σ1, H1, I1, q1⟩ => ?_)
  exact h2 pins s1 σ1 H1 _ _ Q I1 rr q1
def F0 (K : W.Frag) (n : Nat) (t : TGs) : TG := fun v σ H Q => ∃ a xs, v = .ref a /\ SqT K H a xs /\ xs.length = n /\ t xs σ H Q
theorem F3 {es : List Expr} {k : Nat} {t : TGs} {n : Nat} (hc : X.calm = true) (h : PGs X es t)
 (hn : (assignEach es X.env).length = n := by rfl) (hst : (assignEach es X.env).findIdx? (·.1) = none := by rfl) : PG X (.Tuple es k pos) (F0 X.K n t) := by
 intro pins s σ H v u Q I r hw
 obtain ⟨a, xs, e1, hq, hl, hw⟩ := hw
 subst e1
 cases r
 obtain ⟨its, rv, ht, hz⟩ := I.tuple hq
 refine assign_Tuple_tuple (I.ok.hd hc) ht (by simp [hn, <- hl, rv.length]) hst fun h' hx => ?_
 have I1 : Inv X pins σ H { s with heap := h' } := I.kept (t' := s.toks) fun b o e => hx b o (Nat.ne_of_lt (Heap.lt_size e)) e
 exact h pins _ σ H xs _ Q I1 (by simpa using rv) hw
def GE (to ti : TE) (t : Fh) : TG := fun v σ H Q => to σ H fun o H1 => ti σ H1 fun i H2 => t o i v H2 fun H3 => Q σ H3
theorem wD {o i : Expr} {to ti : TE} {t : Fh} (ho : PE X o to) (hi : PE X i ti) (hs : Gu X t)
 (ha : ∀ v, assign (.Subscript o i pos) X.env v = (do
  let ov <- holding [v] (eval o X.env)
  let iv <- holding [v, ov] (eval i X.env)
  standAt pos
  holding [v, ov, iv] (setItem ov iv v)
  release [v, ov, iv] []) := by intro _; rfl) : PG X (.Subscript o i pos) (GE to ti t) := by
 intro pins s σ H v u Q I r h
 rw [ha]
 refine wpAny_bind (wpAny_holding (thn (ho pins s σ H _ I h) fun ov s1 ⟨x, H1, I1, r1, q1⟩ => ?_))
 refine wpAny_bind (wpAny_holding (thn (hi pins s1 σ H1 _ I1 q1) fun iv s2 ⟨y, H2, I2, r2, q2⟩ => ?_))
 refine wpAny_bind (wpAny_standAt (wpAny_bind (wpAny_holding (thn (hs pins s2 σ H2 x y v ov iv u _ I2 r1 r2 r q2) fun _ s3 ⟨H3, I3, q3⟩ => ?_))))
 exact wpAny_release ⟨σ, H3, I3, q3⟩
def De (te : TE) (g : TG) : TS := fun D σ H => te σ H fun x H1 => g x σ H1 D.nx
theorem sJ {tg e : Expr} {te : TE} {g : TG} (he : PE X e te) (hg : PG X tg g) (hs : swapsWithSole [tg] e pos.line X.env = pure false := by rfl) (hw : swappedStores [tg] e X.env = pure none := by rfl)
 (h1 : (assignEach [tg] X.env).map (·.2) = [assign tg X.env] := by rfl) : PS X (.Assign [tg] e pos) (De te g) := by
 intro pins s σ H D I h
 refine wpAny_Assign_stores (thn (he pins s σ H _ I h) fun v s1 ⟨x, H1, I1, r1, q1⟩ => ?_) hs hw
 rw [h1]
 exact thn (hg pins s1 σ H1 x v _ I1 r1 q1) fun _ s2 q => q
theorem aT {i : Nat} {x : Str} {e : Expr} {te : TE} {pos' : Pos} (hN : X.N.Nodup) (hi : X.N[i]? = some x) (hx : Loc X.env.scope x) (he : PE X e te) (hs : swapsWith e (some (.Name x pos')) pos.line X.env = pure false := by rfl) (hf : X.fn x = true \/ X.env.scope.names.lookup x = some .local := by first | exact .inl rfl | exact .inr rfl | assumption) :
 PS X (.Assign [.Name x pos'] e pos) (De te (jq i)) := by
 intro pins s σ H D I h
 refine wpAny_Assign_Name (thn (he pins s σ H _ I h) fun v s1 ⟨y, H1, I1, r1, q1⟩ => ?_) hs
 exact sX I1 hN hi hx r1 (fun s2 I2 => ⟨_, H1, I2, q1⟩) hf
end
section
variable {X : Cx} {pos : Pos}
end
structure It where
 go : Nat -> Hp -> Prop
 yld : Nat -> Hp -> V -> Hp -> Prop
 stop : Nat -> Hp -> Prop
def um (X : Cx) (pins : List (Addr × Obj)) (H : Hp) (b : Addr) : Prop :=
 H b = none /\ b ≠ X.env.locals /\ b ∉ X.fs /\ (b ∈ X.ex \/ X.s₀.heap.objs.size <= b) /\ (∀ x c, X.env.cells.lookup x = some c -> c ≠ b) /\ ∀ p ∈ X.pn ++ pins, p.1 ≠ b
theorem Inv.fpOk {X : Cx} {pins : List (Addr × Obj)} {σ : St} {H H' : Hp} {s : Shared} {b : Addr} (I : Inv X pins σ H s) (hb : s.heap.objs.size <= b) (hn : H' b = none) : um X pins H' b := by
 refine ⟨hn, Nat.ne_of_gt (Nat.lt_of_lt_of_le I.lt hb), I.nofs hb, .inr (Nat.le_trans I.sz hb), fun x c e z => ?_, fun p hp z => ?_⟩
 ·obtain ⟨v, q⟩ := I.cell x c e
  exact absurd (Nat.lt_of_lt_of_le q.lt (by rw [z]; exact hb)) (Nat.lt_irrefl _)
 ·exact absurd (Nat.lt_of_lt_of_le (Heap.lt_size (I.pin p hp).1) (by rw [z]; exact hb)) (Nat.lt_irrefl _)
structure wG (P : Program) (w : World) (K : W.Frag) (tg : Expr) (J : It) (fp : List Addr) (it : Addr) (tn : Nat -> Heap -> Prop) : Prop where
 mem : it ∈ fp
 obj : ∀ i h, tn i h -> ∀ b ∈ fp, ∃ o, h.get? b = some o /\ ∀ v, o.data ≠ .cell v
 keep : ∀ i h h', tn i h -> (∀ b ∈ fp, ∀ o, h.get? b = some o -> h'.get? b = some o) -> tn i h'
 item : ∀ (X : Cx), X.prog = P -> X.w = w -> X.K = K -> X.calm = true -> ∀ (i : Nat) (pins : List (Addr × Obj)) (s : Shared) (σ : St) (H : Hp) (E : Value -> Shared -> Prop), Inv X pins σ H s -> (∀ b ∈ fp, um X pins H b) -> tn i s.heap -> J.go i H ->
  wpAny (model P w) X.A (pyNext (.ref it)) (fun r s1 => ∃ u, r = some u /\
   wpAny (model P w) X.A (letOwnedTupleGo tg (.ref it) u) (fun _ s2 => ∃ x H', Inv X pins σ H' s2 /\ RelV x u /\ J.yld i H x H' /\ tn (i + 1) s2.heap /\ ∀ b ∈ fp, H' b = none) E s1) E s
 done : ∀ (X : Cx), X.prog = P -> X.w = w -> X.K = K -> X.calm = true -> ∀ (i : Nat) (pins : List (Addr × Obj)) (s : Shared) (σ : St) (H : Hp) (E : Value -> Shared -> Prop), Inv X pins σ H s -> (∀ b ∈ fp, um X pins H b) -> tn i s.heap -> J.stop i H ->
  wpAny (model P w) X.A (pyNext (.ref it)) (fun r s1 => r = none /\ Inv X pins σ H s1) E s
 self : ∀ (A : Around) (i : Nat) (s : Shared) (Q : Value -> Shared -> Prop) (E : Value -> Shared -> Prop), tn i s.heap -> Q (.ref it) s -> wpAny (model P w) A (pyIter (.ref it)) Q E s
abbrev TI := St -> Hp -> (It -> Hp -> Prop) -> Prop
def PIE (X : Cx) (pins : List (Addr × Obj)) (σ : St) (tg : Expr) (R : It -> Hp -> Prop) (itv : Value) (s2 : Shared) : Prop :=
 ∃ (it : Addr) (fp : List Addr) (tn : Nat -> Heap -> Prop) (J : It) (H' : Hp), itv = .ref it /\ Inv X pins σ H' s2 /\ wG X.prog X.w X.K tg J fp it tn /\ tn 0 s2.heap /\ (∀ b ∈ fp, um X pins H' b) /\ R J H'
def PI (X : Cx) (tg iter : Expr) (wi : TI) : Prop :=
 ∀ (pins : List (Addr × Obj)) (s : Shared) (σ : St) (H : Hp) (R : It -> Hp -> Prop), Inv X pins σ H s -> wi σ H R ->
  wpAny (model X.prog X.w) X.A (eval iter X.env) (fun v s1 => wpAny (model X.prog X.w) X.A (pyIter v) (PIE X pins σ tg R) X.xe s1) X.xe s
theorem rm {M : Model} {A : Around} {E : Value -> Shared -> Prop} {s : Shared} {tg : Expr} {it : Addr} {u : Value} {o : Obj} {n : String} {vs : Array Value} {Q : Unit -> Shared -> Prop} (ho : s.heap.get? it = some o) (hc : o.cls = .type n) (hd : o.data = .fields vs)
 (hn : ["enumerate", "zip", "dict_itemiterator", "dict_reverseitemiterator", "odict_iterator", "itertools.zip_longest", "itertools.pairwise"].contains n = false) (hQ : Q () s) : wpAny M A (letOwnedTupleGo tg (.ref it) u) Q E s := by
 unfold letOwnedTupleGo
 cases tg <;> first
  | exact wpAny_pure hQ
  | (cases u <;> first
   | exact wpAny_pure hQ
   | (refine wpAny_bind (wpAny_load ho ?_)
      rw [hc, hd]
      show wpAny M A (if (["enumerate", "zip", "dict_itemiterator", "dict_reverseitemiterator", "odict_iterator", "itertools.zip_longest", "itertools.pairwise"].contains n && vs[0]? == some (rawInt _)) = true then _ else _) Q E s
      rw [if_neg (by intro h; rw [hn, Bool.false_and] at h; cases h)]
      exact wpAny_pure hQ))
def Itl (K : W.Frag) (a : Addr) : It :=
 ⟨fun i H => ∃ xs x, SqL K H a xs /\ xs[i]? = some x, fun i H x H' => H' = H /\ ∀ xs, SqL K H a xs -> xs[i]? = some x, fun i H => ∃ xs, SqL K H a xs /\ xs.length <= i⟩
def Itt (K : W.Frag) (a : Addr) : It :=
 ⟨fun i H => ∃ xs x, SqT K H a xs /\ xs[i]? = some x, fun i H x H' => H' = H /\ ∀ xs, SqT K H a xs -> xs[i]? = some x, fun i H => ∃ xs, SqT K H a xs /\ xs.length <= i⟩
def Itr (lo : Int) (n : Nat) : It := ⟨fun i _ => i < n, fun i H x H' => H' = H /\ x = .int (lo + i), fun i _ => n <= i⟩
theorem AY {P : Program} {w : World} {K : W.Frag} {tg : Expr} (a it : Addr) : wG P w K tg (Itl K a) [it] it (fun i h => h.IsListIter it a i) where
 mem := by simp
 obj := fun i h st b hb => by
  have e : b = it := by simpa using hb
  subst e
  obtain ⟨o, e, c, d⟩ := st
  exact ⟨o, e, fun v z => by rw [d] at z; cases z⟩
 keep := fun i h h' st k => st.at fun o e => k it (by simp) o e
 item := by
  intro X hP hw hK hc i pins s σ H E I hf st hg
  subst hP hw hK
  obtain ⟨xs, x, hq, hx⟩ := hg
  obtain ⟨its, rv, p, hz⟩ := I.list hq
  obtain ⟨u, hu, ru⟩ := rv.get hx
  obtain ⟨f0, f1, f2, f3, f4, f5⟩ := hf it (by simp)
  refine wpAny_pyNext_list_item st p.isList (x := u) (by simpa using hu) fun h' st' sb => ?_
  have I1 : Inv X pins σ H { s with heap := h' } := I.turned (t' := s.toks) (fun b o hb e => (sb.2 b hb).trans e) f0 f1 f3 f4 f5
  obtain ⟨o, e, c, d⟩ := id st'
  exact ⟨u, rfl, rm (s := { s with heap := h' }) e c d (by decide) ⟨x, H, I1, ru, ⟨rfl, fun ys hy => by rw [I.list_inj hy hq]; exact hx⟩, st', fun b hb => (hf b hb).1⟩⟩
 done := by
  intro X hP hw hK hc i pins s σ H E I hf st hg
  subst hP hw hK
  obtain ⟨xs, hq, hx⟩ := hg
  obtain ⟨its, rv, p, hz⟩ := I.list hq
  obtain ⟨f0, f1, f2, f3, f4, f5⟩ := hf it (by simp)
  have hl := rv.length
  exact wpAny_pyNext_list_end (I.ok.hd hc) st p.isList (by simp; omega) fun h' eb => ⟨rfl, I.turned (t' := s.toks) (fun b o hb e => eb b o hb e) f0 f1 f3 f4 f5⟩
 self := fun _ _ _ _ _ st h => wpAny_pyIter_listiter st h
theorem yU {P : Program} {w : World} {K : W.Frag} {tg : Expr} (a it : Addr) : wG P w K tg (Itt K a) [it] it (fun i h => h.IsTupleIter it a i) where
 mem := by simp
 obj := fun i h st b hb => by
  have e : b = it := by simpa using hb
  subst e
  obtain ⟨o, e, c, d⟩ := st
  exact ⟨o, e, fun v z => by rw [d] at z; cases z⟩
 keep := fun i h h' st k => st.at fun o e => k it (by simp) o e
 item := by
  intro X hP hw hK hc i pins s σ H E I hf st hg
  subst hP hw hK
  obtain ⟨xs, x, hq, hx⟩ := hg
  obtain ⟨its, rv, p, hz⟩ := I.tuple hq
  obtain ⟨u, hu, ru⟩ := rv.get hx
  obtain ⟨f0, f1, f2, f3, f4, f5⟩ := hf it (by simp)
  refine wpAny_pyNext_tuple_item st (show s.heap.IsTuple a its.toArray from p) (x := u) (by simpa using hu) fun h' st' sb => ?_
  have I1 : Inv X pins σ H { s with heap := h' } := I.turned (t' := s.toks) (fun b o hb e => (sb.2 b hb).trans e) f0 f1 f3 f4 f5
  obtain ⟨o, e, c, d⟩ := id st'
  exact ⟨u, rfl, rm (s := { s with heap := h' }) e c d (by decide) ⟨x, H, I1, ru, ⟨rfl, fun ys hy => by rw [I.tuple_inj hy hq]; exact hx⟩, st', fun b hb => (hf b hb).1⟩⟩
 done := by
  intro X hP hw hK hc i pins s σ H E I hf st hg
  subst hP hw hK
  obtain ⟨xs, hq, hx⟩ := hg
  obtain ⟨its, rv, p, hz⟩ := I.tuple hq
  obtain ⟨f0, f1, f2, f3, f4, f5⟩ := hf it (by simp)
  have hl := rv.length
  exact wpAny_pyNext_tuple_end (I.ok.hd hc) st (show s.heap.IsTuple a its.toArray from p) (by simp; omega) fun h' eb => ⟨rfl, I.turned (t' := s.toks) (fun b o hb e => eb b o hb e) f0 f1 f3 f4 f5⟩
 self := fun _ _ _ _ _ st h => wpAny_pyIter_tupleiter st h
theorem zd {P : Program} {w : World} {K : W.Frag} {tg : Expr} (it : Addr) (lo : Int) (n : Nat) : wG P w K tg (Itr lo n) [it] it (fun i h => IsRangeIter h it (lo + (i : Nat) * 1) ((n : Int) - (i : Nat)) 1) where
 mem := by simp
 obj := fun i h st b hb => by
  have e : b = it := by simpa using hb
  subst e
  exact ⟨_, st, fun v z => by
   have z' : Data.fields _ = Data.cell v := z
   cases z'⟩
 keep := fun i h h' st k => k it (by simp) _ st
 item := by
  intro X hP hw hK hc i pins s σ H E I hf st hg
  subst hP hw hK
  obtain ⟨f0, f1, f2, f3, f4, f5⟩ := hf it (by simp)
  have W := Walks.range (prog := X.prog) (w := X.w) (I.ok.hd hc) it lo 1 n
  refine W.item i s _ _ hg st fun v h' tk hv st' kk => ?_
  obtain ⟨t, rfl⟩ := hv
  have I1 : Inv X pins σ H { s with heap := h', toks := tk } := I.turned (fun b o hb e => kk b o (by simpa using hb) e) f0 f1 f3 f4 f5
  refine ⟨_, rfl, rm (s := { s with heap := h', toks := tk }) (n := "range_iterator") st' rfl rfl (by decide) ⟨.int (lo + i), H, I1, ⟨t, ?_⟩, ⟨rfl, rfl⟩, st', fun b hb => (hf b hb).1⟩⟩
  rw [Int.mul_one]
 done := by
  intro X hP hw hK hc i pins s σ H E I hf st hg
  subst hP hw hK
  obtain ⟨f0, f1, f2, f3, f4, f5⟩ := hf it (by simp)
  exact wpAny_pyNext_range_end (I.ok.hd hc) st (by have : n <= i := hg; omega) fun h' eb => ⟨rfl, I.turned (t' := s.toks) (fun b o hb e => eb b o hb e) f0 f1 f3 f4 f5⟩
 self := fun _ _ _ _ _ st h => wpAny_pyIter_rangeiter st h
end L2
namespace L2
open PySem PySem.Spec PyProof.Rows
section
variable {X : Cx} {tg : Expr}
def Aq (K : W.Frag) (tl : TE) : TI := fun σ H R => tl σ H fun x H1 => ∃ a, x = .ref a /\ (∃ xs, SqL K H1 a xs) /\ R (Itl K a) H1
def Fr (K : W.Frag) (tl : TE) : TI := fun σ H R => tl σ H fun x H1 => ∃ a, x = .ref a /\ (∃ xs, SqT K H1 a xs) /\ R (Itt K a) H1
theorem Ed {l : Expr} {tl : TE} (hl : PE X l tl) : PI X tg l (Aq X.K tl) := by
 intro pins s σ H R I h
 refine thn (hl pins s σ H _ I h) fun v s1 ⟨x, H1, I1, r1, q1⟩ => ?_
 obtain ⟨a, e, ⟨xs, hq⟩, q⟩ := q1
 subst e
 cases r1
 obtain ⟨its, rv, p, hz⟩ := I1.list hq
 refine wpAny_pyIter_list p.isList ?_
 refine ⟨s1.heap.objs.size, [s1.heap.objs.size], _, _, H1, rfl, I1.kept (t' := s1.toks) fun b o e => Heap.get?_push_of_some _ e, AY a _, ⟨_, Heap.get?_push_size _ rfl, rfl, rfl⟩, fun b hb => ?_, q⟩
 have e : b = s1.heap.objs.size := by simpa using hb
 subst e
 exact I1.fpOk (Nat.le_refl _) (I1.hok.fresh (Nat.le_refl _))
theorem Fc {l : Expr} {tl : TE} (hl : PE X l tl) : PI X tg l (Fr X.K tl) := by
 intro pins s σ H R I h
 refine thn (hl pins s σ H _ I h) fun v s1 ⟨x, H1, I1, r1, q1⟩ => ?_
 obtain ⟨a, e, ⟨xs, hq⟩, q⟩ := q1
 subst e
 cases r1
 obtain ⟨its, rv, p, hz⟩ := I1.tuple hq
 refine wpAny_pyIter_tuple (show s1.heap.IsTuple a its.toArray from p) ?_
 refine ⟨s1.heap.objs.size, [s1.heap.objs.size], _, _, H1, rfl, I1.kept (t' := s1.toks) fun b o e => Heap.get?_push_of_some _ e, yU a _, ⟨_, Heap.get?_push_size _ rfl, rfl, rfl⟩, fun b hb => ?_, q⟩
 have e : b = s1.heap.objs.size := by simpa using hb
 subst e
 exact I1.fpOk (Nat.le_refl _) (I1.hok.fresh (Nat.le_refl _))
theorem xT {pins : List (Addr × Obj)} {σ : St} {H : Hp} {s : Shared} {R : It -> Hp -> Prop} {E : Value -> Shared -> Prop} {lo hi : Int} {t u v : Tok} {tk : Nat} (I : Inv X pins σ H s) (h1 : -(2 ^ 62) <= lo) (h2 : lo < 2 ^ 62) (h3 : -(2 ^ 62) <= hi) (h4 : hi < 2 ^ 62)
 (q : R (Itr lo (hi - lo).toNat) H) : wpAny (model X.prog X.w) X.A (pyIter (.ref s.heap.objs.size)) (PIE X pins σ tg R) E { s with heap := s.heap.push { cls := .type "range", data := .fields #[.int lo t, .int hi u, .int 1 v] }, toks := tk } := by
 refine wpAny_pyIter_range (IsRange.new ..) (small_one h1 h2 h3 h4) ?_
 have I1 : Inv X pins σ H { s with heap := s.heap.push { cls := .type "range", data := .fields #[.int lo t, .int hi u, .int 1 v] }, toks := tk } := I.kept fun b o e => Heap.get?_push_of_some _ e
 refine ⟨(s.heap.push { cls := .type "range", data := .fields #[.int lo t, .int hi u, .int 1 v] }).objs.size, [(s.heap.push { cls := .type "range", data := .fields #[.int lo t, .int hi u, .int 1 v] }).objs.size], _, _, H, rfl,
  I1.kept (t' := tk) fun b o e => Heap.get?_push_of_some _ e, zd _ lo (hi - lo).toNat, ?_, fun b hb => ?_, q⟩
 ·have e1 : lo + ((0 : Nat) : Int) * 1 = lo := by simp
  have e2 : (((hi - lo).toNat : Nat) : Int) - ((0 : Nat) : Int) = Builtin.Range.rangeSize lo hi 1 := by rw [rangeSize_one]; split <;> omega
  show IsRangeIter _ _ (lo + ((0 : Nat) : Int) * 1) ((((hi - lo).toNat : Nat) : Int) - ((0 : Nat) : Int)) 1
  rw [e1, e2]
  exact Heap.get?_push_size _ rfl
 ·have e : b = (s.heap.push { cls := .type "range", data := .fields #[.int lo t, .int hi u, .int 1 v] }).objs.size := by simpa using hb
  subst e
  exact I1.fpOk (Nat.le_refl _) (I1.hok.fresh (Nat.le_refl _))
def Di (ta : TA) : TI := fun σ H R => ta σ H fun vs H1 => ∃ j : Int, vs = [.int j] /\ -(2 ^ 62) <= j /\ j < 2 ^ 62 /\ R (Itr 0 j.toNat) H1
def EI (ta : TA) : TI := fun σ H R => ta σ H fun vs H1 => ∃ i j : Int, vs = [.int i, .int j] /\ (-(2 ^ 62) <= i /\ i < 2 ^ 62 /\ -(2 ^ 62) <= j /\ j < 2 ^ 62) /\ R (Itr i (j - i).toNat) H1
theorem dA {a : Expr} {ta : TA} {p pos : Pos} (hg : Gl X "range") (hm : X.mg "range" = none) (ha : PA X [a] ta) (hs : starEach [a] X.env = [(false, eval a X.env)] := by rfl) : PI X tg (.Call (.Name "range" p) [a] [] pos) (Di ta) := by
 intro pins s σ H R I h
 refine Call_ (lJ I hg hm boot_range (PyProof.Rows.callWith_type1 (thn (ha pos pins s σ H _ I h) fun us s1 ⟨vs, H1, I1, r1, q1⟩ => ?_) hs rfl))
 obtain ⟨j, e, q1, q2, q⟩ := q1
 subst e
 cases r1 with
 | cons r rr =>
  cases rr
  obtain ⟨t, rfl⟩ := r
  exact call_range_1 (xT I1 (by omega) (by omega) q1 q2 (by simpa using q))
theorem AX {a b : Expr} {ta : TA} {p pos : Pos} (hg : Gl X "range") (hm : X.mg "range" = none) (ha : PA X [a, b] ta) (hs : starEach [a, b] X.env = [(false, eval a X.env), (false, eval b X.env)] := by rfl) (hs2 : starEach [b] X.env = [(false, eval b X.env)] := by rfl) :
 PI X tg (.Call (.Name "range" p) [a, b] [] pos) (EI ta) := by
 intro pins s σ H R I h
 refine Call_ (lJ I hg hm boot_range (PyProof.Rows.callWith_type1 (thn (ha pos pins s σ H _ I h) fun us s1 ⟨vs, H1, I1, r1, q1⟩ => ?_) (by rw [hs, hs2]) (by rw [hs2]; rfl)))
 obtain ⟨i, j, e, ⟨q1, q2, q3, q4⟩, q⟩ := q1
 subst e
 cases r1 with
 | cons r rr =>
  cases rr with
  | cons r' rr =>
   cases rr
   obtain ⟨t, rfl⟩ := r
   obtain ⟨t', rfl⟩ := r'
   exact call_range_2 (xT I1 q1 q2 q3 q4 q)
def BD (wi : TI) (g : TG) (tb : TS) : TS := fun D σ H => wi σ H fun J H1 => ∃ W : Nat -> Nat -> St -> Hp -> Prop, (∃ m, W 0 m σ H1) /\ ∀ i m σ H, W i m σ H ->
 (J.stop i H /\ D.nx σ H) \/ (J.go i H /\ ∃ N : St -> Hp -> Prop, (∀ σ' H', N σ' H' -> ∃ m', m' < m /\ W (i + 1) m' σ' H') /\ ∀ x H', J.yld i H x H' -> g x σ H' fun σ2 H2 => tb { D with nx := N, ct := N, bk := D.nx } σ2 H2)
def sS (fp : List Addr) (h : Heap) : List (Addr × Obj) := fp.filterMap fun b => (h.get? b).map fun o => (b, o)
theorem jY {fp : List Addr} {h : Heap} {b : Addr} {o : Obj} (hb : b ∈ fp) (e : h.get? b = some o) : (b, o) ∈ sS fp h := List.mem_filterMap.mpr ⟨b, hb, by rw [e]; rfl⟩
theorem AS {fp : List Addr} {h : Heap} {p : Addr × Obj} (hp : p ∈ sS fp h) : p.1 ∈ fp /\ h.get? p.1 = some p.2 := by
 obtain ⟨b, hb, e⟩ := List.mem_filterMap.mp hp
 cases q : h.get? b with
 | none => rw [q] at e; cases e
 | some o =>
  rw [q] at e
  have e' : (b, o) = p := Option.some.inj e
  subst e'
  exact ⟨hb, q⟩
theorem Inv.pinned {pins : List (Addr × Obj)} {σ : St} {H : Hp} {s : Shared} {fp : List Addr} (I : Inv X pins σ H s) (hf : ∀ b ∈ fp, um X pins H b) (ho : ∀ b ∈ fp, ∃ o, s.heap.get? b = some o /\ ∀ v, o.data ≠ .cell v) : Inv X (pins ++ sS fp s.heap) σ H s :=
 I.pins_of fun p hp => (List.mem_append.mp hp).elim (fun z => I.pin p (List.mem_append_right _ z)) fun z => by
  obtain ⟨hb, e⟩ := AS z
  obtain ⟨f0, f1, f2, _⟩ := hf p.1 hb
  obtain ⟨o, e', d⟩ := ho p.1 hb
  rw [e] at e'; cases e'
  exact ⟨e, f0, f1, f2, d⟩
theorem Inv.unpinned {pins pl : List (Addr × Obj)} {σ : St} {H : Hp} {s : Shared} (I : Inv X (pins ++ pl) σ H s) : Inv X pins σ H s := I.pins_of fun p hp => I.pin p (List.mem_append_right _ (List.mem_append_left _ hp))
theorem kL {iter : Expr} {body : List Stmt} {wi : TI} {g : TG} {tb : TS} {pos : Pos} (hp : PassesOwn (model X.prog X.w) X.A X.env X.xe) (hc : X.calm = true) (hi : PI X tg iter wi) (hg : PG X tg g) (hb : PSs X body tb)
 (hs : ∀ x, foldedSetIterable iter X.env x = pure x := by intro _; rfl) : PS X (.For tg iter body [] pos) (BD wi g tb) := by
 intro pins s σ H D I h
 refine wpAny_For (thn (hi pins s σ H _ I h) fun v s1 h1 => thn h1 fun itv s2 h2 => ?_) hs
 obtain ⟨it, fp, tn, J, H2, e, I2, T, st2, f2, W, ⟨m0, w0⟩, turn⟩ := h2
 subst e
 have stat : ∀ {H' : Hp}, (∀ b ∈ fp, H' b = none) -> ∀ b ∈ fp, um X pins H' b := fun hn b hb => ⟨hn b hb, (f2 b hb).2⟩
 refine codeAny_forLoop_any (fun n s' => ∃ i σ' H', Inv X pins σ' H' s' /\ tn i s'.heap /\ (∀ b ∈ fp, H' b = none) /\ W i n σ' H') ?_ m0 ⟨0, σ, H2, I2, st2, fun b hb => (f2 b hb).1, w0⟩
 rintro n s3 ⟨i, σ3, H3, I3, st3, fr3, w3⟩
 rcases turn i n σ3 H3 w3 with ⟨stop, qn⟩ | ⟨go, N, hN, step⟩
 ·refine wpAny_passesOwn hp (thn (T.done X rfl rfl rfl hc i pins s3 σ3 H3 X.xe I3 (stat fr3) st3 stop) fun r s4 ⟨hr, I4⟩ => ?_)
  subst hr
  exact wpAny_execs_nil ⟨σ3, H3, I4, qn⟩
 ·refine wpAny_passesOwn hp (thn (T.item X rfl rfl rfl hc i pins s3 σ3 H3 X.xe I3 (stat fr3) st3 go) fun r s4 ⟨u, hr, h4⟩ => ?_)
  subst hr
  refine wpAny_passesOwn hp (thn h4 fun _ s5 ⟨x, H5, I5, r5, y5, st5, fr5⟩ => ?_)
  have I5' := I5.pinned (stat fr5) (T.obj _ _ st5)
  refine wpAny_passesOwn hp (thn (hg _ s5 σ3 H5 x u _ I5' r5 (step x H5 y5)) fun _ s6 ⟨σ6, H6, I6, q6⟩ => ?_)
  refine wpAny_passesOwn hp (thn (hb _ s6 σ6 H6 _ I6 q6) fun f s7 q7 => ?_)
  have again : ∀ {σ7 : St} {H7 : Hp}, Inv X (pins ++ sS fp s5.heap) σ7 H7 s7 -> N σ7 H7 -> ∃ m, m < n /\ ∃ i σ' H', Inv X pins σ' H' s7 /\ tn i s7.heap /\ (∀ b ∈ fp, H' b = none) /\ W i m σ' H' := fun {σ7 H7} I7 n7 => by
   obtain ⟨m', hm, w7⟩ := hN σ7 H7 n7
   refine ⟨m', hm, i + 1, σ7, H7, I7.unpinned, T.keep _ _ _ st5 fun b hb o e => (I7.pin (b, o) (List.mem_append_right _ (List.mem_append_right _ (jY hb e)))).1, fun b hb => ?_, w7⟩
   obtain ⟨o, e, d⟩ := T.obj _ _ st5 b hb
   exact (I7.pin (b, o) (List.mem_append_right _ (List.mem_append_right _ (jY hb e)))).2.1
  cases f with
  | next => obtain ⟨σ7, H7, I7, n7⟩ := q7; exact again I7 n7
  | cont => obtain ⟨σ7, H7, I7, n7⟩ := q7; exact again I7 n7
  | brk => obtain ⟨σ7, H7, I7, q7⟩ := q7; exact ⟨σ7, H7, I7.unpinned, q7⟩
  | ret v => obtain ⟨x7, σ7, H7, I7, r7, q7⟩ := q7; exact ⟨x7, σ7, H7, I7.unpinned, r7, q7⟩
end
theorem l_ {lo : Int} {n : Nat} {g : TG} {tb : TS} {D : kh} {σ : St} {H : Hp} (Pv : Nat -> St -> Hp -> Prop) (h0 : Pv 0 σ H)
 (hs : ∀ i σ H, i < n -> Pv i σ H -> g (.int (lo + i)) σ H fun σ2 H2 => tb { D with nx := Pv (i + 1), ct := Pv (i + 1), bk := D.nx } σ2 H2) (hd : ∀ σ H, Pv n σ H -> D.nx σ H) :
 ∃ W : Nat -> Nat -> St -> Hp -> Prop, (∃ m, W 0 m σ H) /\ ∀ i m σ H, W i m σ H ->
  ((Itr lo n).stop i H /\ D.nx σ H) \/ ((Itr lo n).go i H /\ ∃ N : St -> Hp -> Prop, (∀ σ' H', N σ' H' -> ∃ m', m' < m /\ W (i + 1) m' σ' H') /\ ∀ x H', (Itr lo n).yld i H x H' -> g x σ H' fun σ2 H2 => tb { D with nx := N, ct := N, bk := D.nx } σ2 H2) := by
 refine ⟨fun i m σ H => m = n - i /\ i <= n /\ Pv i σ H, ⟨n, by simp, Nat.zero_le _, h0⟩, ?_⟩
 rintro i m σ H ⟨rfl, hi, p⟩
 by_cases hlt : i < n
 ·refine .inr ⟨hlt, Pv (i + 1), fun σ' H' p' => ⟨n - (i + 1), by omega, rfl, hlt, p'⟩, fun x H' y => ?_⟩
  obtain ⟨e, y⟩ := y
  subst e y
  exact hs i σ _ hlt p
 ·have e : i = n := by omega
  subst e
  exact .inl ⟨Nat.le_refl _, hd σ H p⟩
end L2
namespace L2
open PySem PySem.Spec PyProof.Rows
abbrev R2 := V -> V -> Hp -> VK -> Prop
def OpR (X : Cx) (f : Value -> Value -> Sem Value) (r : R2) : Prop :=
 ∀ (pins : List (Addr × Obj)) (s : Shared) (σ : St) (H : Hp) (x y : V) (v u : Value) (Q : VK), Inv X pins σ H s -> RelV x v -> RelV y u -> r x y H Q ->
  wpAny (model X.prog X.w) X.A (f v u) (EP X pins σ Q) X.xe s
def UnR (X : Cx) (f : Value -> Sem Value) (r : V -> Hp -> VK -> Prop) : Prop :=
 ∀ (pins : List (Addr × Obj)) (s : Shared) (σ : St) (H : Hp) (x : V) (v : Value) (Q : VK), Inv X pins σ H s -> RelV x v -> r x H Q ->
  wpAny (model X.prog X.w) X.A (f v) (EP X pins σ Q) X.xe s
def CallR (X : Cx) (f : Value) (r : List V -> Hp -> VK -> Prop) : Prop :=
 ∀ (pins : List (Addr × Obj)) (s : Shared) (σ : St) (H : Hp) (xs : List V) (us : List Value) (Q : VK), Inv X pins σ H s -> Vals xs us -> r xs H Q ->
  wpAny (model X.prog X.w) X.A (call f us) (EP X pins σ Q) X.xe s
def Hy (X : Cx) (r : V -> Hp -> (Bool -> Hp -> Prop) -> Prop) : Prop :=
 ∀ (pins : List (Addr × Obj)) (s : Shared) (σ : St) (H : Hp) (x : V) (v : Value) (Q : Bool -> Hp -> Prop), Inv X pins σ H s -> RelV x v -> r x H Q ->
  wpAny (model X.prog X.w) X.A (truthy v) (TP X pins σ Q) X.xe s
def tOp (r : R2) (ta tb : TE) : TE := fun σ H Q => ta σ H fun x H1 => tb σ H1 fun y H2 => r x y H2 Q
def tUn (r : V -> Hp -> VK -> Prop) (ta : TE) : TE := fun σ H Q => ta σ H fun x H1 => r x H1 Q
def rI (C : Int -> Int -> Prop) (g : Int -> Int -> V) : R2 := fun x y H Q => ∃ i j, x = .int i /\ y = .int j /\ C i j /\ Q (g i j) H
def rI0 (g : Int -> Int -> V) : R2 := fun x y H Q => ∃ i j, x = .int i /\ y = .int j /\ Q (g i j) H
def rU (g : Int -> V) : V -> Hp -> VK -> Prop := fun x H Q => ∃ i, x = .int i /\ Q (g i) H
section
variable {X : Cx} {a b c : Expr} {ta tb tc : TE} {pos : Pos}
theorem Ga (ha : PE X a ta) (hb : PE X b tb) {pins : List (Addr × Obj)} {s : Shared} {σ : St} {H : Hp} {R : V -> V -> Hp -> Prop} (I : Inv X pins σ H s)
 (h : ta σ H fun x H1 => tb σ H1 fun y H2 => R x y H2) {Q : Value -> Shared -> Prop} {f : Value -> Value -> Sem Value}
 (hf : ∀ v u s2 x y H2, Inv X pins σ H2 s2 -> RelV x v -> RelV y u -> R x y H2 -> wpAny (model X.prog X.w) X.A (f v u) Q X.xe s2) :
 wpAny (model X.prog X.w) X.A (eval a X.env) (fun v s₁ => wpAny (model X.prog X.w) X.A (eval b X.env) (fun u s₂ => wpAny (model X.prog X.w) X.A (f v u) Q X.xe s₂) X.xe s₁) X.xe s := by
 refine thn (ha pins s σ H _ I h) fun v s1 ⟨x, H1, I1, r1, q1⟩ => ?_
 refine thn (hb pins s1 σ H1 _ I1 q1) fun u s2 ⟨y, H2, I2, r2, q2⟩ => ?_
 exact hf v u s2 x y H2 I2 r1 r2 q2
theorem aB {op : Operator} {r : R2} (ho : OpR X (binaryOp op) r) (ha : PE X a ta) (hb : PE X b tb) : PE X (.BinOp a op b pos) (tOp r ta tb) := by
 intro pins s σ H Q I h
 exact wpAny_BinOp (Ga ha hb I h fun v u s2 x y H2 I2 rx ry q => ho pins s2 σ H2 x y v u Q I2 rx ry q)
theorem qQ {op : UnaryOp} {r : V -> Hp -> VK -> Prop} (ho : UnR X (unaryOp op) r) (ha : PE X a ta) : PE X (.UnaryOp op a pos) (tUn r ta) := by
 intro pins s σ H Q I h
 exact UnaryOp_ (thn (ha pins s σ H _ I h) fun v s1 ⟨x, H1, I1, r1, q1⟩ => ho pins s1 σ H1 x v Q I1 r1 q1)
theorem opI {f : Value -> Value -> Sem Value} {C : Int -> Int -> Prop} {g : Int -> Int -> Int}
 (rule : ∀ (i j : Int) (t u : Tok) (s : Shared) (Q : Value -> Shared -> Prop) (E : Value -> Shared -> Prop), C i j -> Q (.int (g i j) s.toks) { s with toks := s.toks + 1 } -> wpAny (model X.prog X.w) X.A (f (.int i t) (.int j u)) Q E s) :
 OpR X f (rI C fun i j => .int (g i j)) := by
 intro pins s σ H x y v u Q I rx ry h
 obtain ⟨i, j, rfl, rfl, hc, q⟩ := h
 obtain ⟨t, rfl⟩ := rx
 obtain ⟨t', rfl⟩ := ry
 exact rule i j t t' s _ _ hc ⟨.int (g i j), H, I.tok _, ⟨_, rfl⟩, q⟩
theorem GT {f : Value -> Value -> Sem Value} {g : Int -> Int -> Int}
 (rule : ∀ (i j : Int) (t u : Tok) (s : Shared) (Q : Value -> Shared -> Prop) (E : Value -> Shared -> Prop), Q (.int (g i j) s.toks) { s with toks := s.toks + 1 } -> wpAny (model X.prog X.w) X.A (f (.int i t) (.int j u)) Q E s) :
 OpR X f (rI0 fun i j => .int (g i j)) := by
 intro pins s σ H x y v u Q I rx ry h
 obtain ⟨i, j, rfl, rfl, q⟩ := h
 obtain ⟨t, rfl⟩ := rx
 obtain ⟨t', rfl⟩ := ry
 exact rule i j t t' s _ _ ⟨.int (g i j), H, I.tok _, ⟨_, rfl⟩, q⟩
theorem EZ {f : Value -> Value -> Sem Value} {g : Int -> Int -> Bool}
 (rule : ∀ (i j : Int) (t u : Tok) (s : Shared) (Q : Value -> Shared -> Prop) (E : Value -> Shared -> Prop), Q (.bool (g i j)) s -> wpAny (model X.prog X.w) X.A (f (.int i t) (.int j u)) Q E s) :
 OpR X f (rI0 fun i j => .bl (g i j)) := by
 intro pins s σ H x y v u Q I rx ry h
 obtain ⟨i, j, rfl, rfl, q⟩ := h
 obtain ⟨t, rfl⟩ := rx
 obtain ⟨t', rfl⟩ := ry
 exact rule i j t t' s _ _ ⟨.bl (g i j), H, I, rfl, q⟩
def Fp (i j : Int) : Prop := 0 < j /\ j < 1073741824
def Fb (i j : Int) : Prop := 0 <= j /\ j <= 1000000 /\ i.natAbs < 2 ^ 64
def CMul (i j : Int) : Prop := (-(2 ^ 64) < i /\ i < 2 ^ 64) \/ (-(2 ^ 64) < j /\ j < 2 ^ 64)
theorem CMul.ok {i j : Int} (h : CMul i j) : IntMulOk i j := by
 rcases h with ⟨h1, h2⟩ | ⟨h1, h2⟩
 ·exact .of_left (intBits_le_64 h1 h2)
 ·exact .of_right (intBits_le_64 h1 h2)
theorem EW : OpR X (binaryOp .Add) (rI0 fun i j => .int (i + j)) := GT fun _ _ _ _ _ _ _ q => add_int q
theorem Fi : OpR X (binaryOp .Sub) (rI0 fun i j => .int (i - j)) := GT fun _ _ _ _ _ _ _ q => sub_int q
theorem FI : OpR X (binaryOp .Mult) (rI CMul fun i j => .int (i * j)) := opI fun _ _ _ _ _ _ _ hc q => mul_int q hc.ok
theorem DY : OpR X (binaryOp .FloorDiv) (rI Fp fun i j => .int (i / j)) := opI fun i j _ _ _ _ _ hc q => by
 have h1 : (0 : Int) < j := hc.1
 have h2 : j < 1073741824 := hc.2
 exact floordiv_int (by omega) (by rw [Int.fdiv_eq_ediv_of_nonneg i (by omega)]; exact q) (.inl (PyProof.noPylong_small (by omega)))
theorem Fd : OpR X (binaryOp .Mod) (rI (fun _ j => 0 < j) fun i j => .int (i % j)) := opI fun i j _ _ _ _ _ hc q => by
 have h1 : (0 : Int) < j := hc
 exact mod_int' (by omega) (by rw [Int.fmod_eq_emod_of_nonneg i (by omega)]; exact q)
theorem E9 : OpR X (binaryOp .Pow) (rI Fb fun i j => .int (i ^ j.toNat)) := opI fun _ _ _ _ _ _ _ hc q => pow_int_small hc.1 hc.2.1 hc.2.2 q
theorem unI {f : Value -> Sem Value} {g : Int -> Int}
 (rule : ∀ (i : Int) (t : Tok) (s : Shared) (Q : Value -> Shared -> Prop) (E : Value -> Shared -> Prop), Q (.int (g i) s.toks) { s with toks := s.toks + 1 } -> wpAny (model X.prog X.w) X.A (f (.int i t)) Q E s) :
 UnR X f (rU fun i => .int (g i)) := by
 intro pins s σ H x v Q I rx h
 obtain ⟨i, rfl, q⟩ := h
 obtain ⟨t, rfl⟩ := rx
 exact rule i t s _ _ ⟨.int (g i), H, I.tok _, ⟨_, rfl⟩, q⟩
theorem F9 : UnR X (unaryOp .USub) (rU fun i => .int (-i)) := unI fun _ _ _ _ _ q => neg_int q
end
def FT : V -> V -> Bool
 | .non, .non => true | .non, .int _ => true | .int _, .non => true | .non, .bl _ => true | .bl _, .non => true | .non, .str _ => true | .str _, .non => true
 | .int _, .int _ => true | .bl _, .bl _ => true | .str _, .str _ => true | .byt _, .byt _ => true
 | .int _, .str _ => true | .str _, .int _ => true | .bl _, .str _ => true | .str _, .bl _ => true
 | _, _ => false
def rEq : R2 := fun x y H Q => FT x y = true /\ Q (.bl (decide (x = y))) H
def rNe : R2 := fun x y H Q => FT x y = true /\ Q (.bl (!decide (x = y))) H
theorem zG {i j : Int} : decide (V.int i = V.int j) = (i == j) := by
 rw [Bool.eq_iff_iff]
 simp
theorem Cm {i j : Bool} : decide (V.bl i = V.bl j) = (i == j) := by
 rw [Bool.eq_iff_iff]
 simp
theorem AD {i j : Str} : decide (V.str i = V.str j) = (i == j) := by
 rw [Bool.eq_iff_iff]
 simp
theorem zI {i j : Array UInt8} : decide (V.byt i = V.byt j) = (i.toList == j.toList) := by
 rw [Bool.eq_iff_iff]
 cases i
 cases j
 simp
section
variable {X : Cx} {a b c : Expr} {ta tb tc : TE} {pos : Pos}
theorem bD {pins : List (Addr × Obj)} {σ : St} {H : Hp} {s : Shared} {Q : VK} {k k' : Bool} (I : Inv X pins σ H s) (q : Q (.bl k) H) (e : k = k') : EP X pins σ Q (.bool k') s := by
 subst e
 exact ⟨.bl k, H, I, rfl, q⟩
theorem GF : OpR X (compareOp .Eq) rEq := by
 intro pins s σ H x y v u Q I rx ry h
 obtain ⟨hs, q⟩ := h
 cases x with
 | non =>
  cases rx
  cases y with
  | non => cases ry; exact PySem.EqNone.eq_none_none (bD I q (by simp))
  | bl j => cases ry; exact PySem.EqNone.eq_none_bool (bD I q (by simp))
  | int j => obtain ⟨t', rfl⟩ := ry; exact PySem.EqNone.eq_none_int (bD I q (by simp))
  | str j => obtain ⟨t', rfl⟩ := ry; exact PySem.EqNone.eq_none_str (bD I q (by simp))
  | _ => exact absurd (show false = true from hs) Bool.false_ne_true
 | bl i =>
  cases rx
  cases y with
  | non => cases ry; exact PySem.EqNone.eq_bool_none (bD I q (by simp))
  | bl j => cases ry; exact eq_bool (bD I q Cm)
  | str j => obtain ⟨t', rfl⟩ := ry; exact PySem.EqMixed.eq_bool_str (bD I q (by simp))
  | _ => exact absurd (show false = true from hs) Bool.false_ne_true
 | int i =>
  obtain ⟨t, rfl⟩ := rx
  cases y with
  | non => cases ry; exact PySem.EqNone.eq_int_none (bD I q (by simp))
  | int j => obtain ⟨t', rfl⟩ := ry; exact eq_int (bD I q zG)
  | str j => obtain ⟨t', rfl⟩ := ry; exact PySem.EqMixed.eq_int_str (bD I q (by simp))
  | _ => exact absurd (show false = true from hs) Bool.false_ne_true
 | str i =>
  obtain ⟨t, rfl⟩ := rx
  cases y with
  | non => cases ry; exact PySem.EqNone.eq_str_none (bD I q (by simp))
  | bl j => cases ry; exact PySem.EqMixed.eq_str_bool (bD I q (by simp))
  | int j => obtain ⟨t', rfl⟩ := ry; exact PySem.EqMixed.eq_str_int (bD I q (by simp))
  | str j => obtain ⟨t', rfl⟩ := ry; exact eq_str (bD I q AD)
  | _ => exact absurd (show false = true from hs) Bool.false_ne_true
 | byt i =>
  obtain ⟨t, rfl⟩ := rx
  cases y with
  | byt j => obtain ⟨t', rfl⟩ := ry; exact PySem.W.eq_bytes (bD I q zI)
  | _ => exact absurd (show false = true from hs) Bool.false_ne_true
 | _ => cases y <;> exact absurd (show false = true from hs) Bool.false_ne_true
theorem Gv : OpR X (compareOp .NotEq) rNe := by
 intro pins s σ H x y v u Q I rx ry h
 obtain ⟨hs, q⟩ := h
 cases x with
 | non =>
  cases rx
  cases y with
  | non => cases ry; exact PySem.EqNone.ne_none_none (bD I q (by simp))
  | bl j => cases ry; exact PySem.EqNone.ne_none_bool (bD I q (by simp))
  | int j => obtain ⟨t', rfl⟩ := ry; exact PySem.EqNone.ne_none_int (bD I q (by simp))
  | str j => obtain ⟨t', rfl⟩ := ry; exact PySem.EqNone.ne_none_str (bD I q (by simp))
  | _ => exact absurd (show false = true from hs) Bool.false_ne_true
 | bl i =>
  cases rx
  cases y with
  | non => cases ry; exact PySem.EqNone.ne_bool_none (bD I q (by simp))
  | bl j => cases ry; exact ne_bool (bD I q (congrArg not Cm))
  | str j => obtain ⟨t', rfl⟩ := ry; exact PySem.EqMixed.ne_bool_str (bD I q (by simp))
  | _ => exact absurd (show false = true from hs) Bool.false_ne_true
 | int i =>
  obtain ⟨t, rfl⟩ := rx
  cases y with
  | non => cases ry; exact PySem.EqNone.ne_int_none (bD I q (by simp))
  | int j => obtain ⟨t', rfl⟩ := ry; exact ne_int (bD I q (congrArg not zG))
  | str j => obtain ⟨t', rfl⟩ := ry; exact PySem.EqMixed.ne_int_str (bD I q (by simp))
  | _ => exact absurd (show false = true from hs) Bool.false_ne_true
 | str i =>
  obtain ⟨t, rfl⟩ := rx
  cases y with
  | non => cases ry; exact PySem.EqNone.ne_str_none (bD I q (by simp))
  | bl j => cases ry; exact PySem.EqMixed.ne_str_bool (bD I q (by simp))
  | int j => obtain ⟨t', rfl⟩ := ry; exact PySem.EqMixed.ne_str_int (bD I q (by simp))
  | str j => obtain ⟨t', rfl⟩ := ry; exact ne_str (bD I q (congrArg not AD))
  | _ => exact absurd (show false = true from hs) Bool.false_ne_true
 | byt i =>
  obtain ⟨t, rfl⟩ := rx
  cases y with
  | byt j => obtain ⟨t', rfl⟩ := ry; exact PySem.W.ne_bytes (bD I q (congrArg not zI))
  | _ => exact absurd (show false = true from hs) Bool.false_ne_true
 | _ => cases y <;> exact absurd (show false = true from hs) Bool.false_ne_true
theorem GY : OpR X (compareOp .Lt) (rI0 fun i j => .bl (decide (i < j))) := EZ fun _ _ _ _ _ _ _ q => lt_int q
theorem Hi : OpR X (compareOp .LtE) (rI0 fun i j => .bl (decide (i <= j))) := EZ fun _ _ _ _ _ _ _ q => le_int q
theorem Gz : OpR X (compareOp .Gt) (rI0 fun i j => .bl (decide (j < i))) := EZ fun _ _ _ _ _ _ _ q => gt_int q
theorem Bc : OpR X (compareOp .Lt) (fun x y H Q => ∃ i j, x = .str i /\ y = .str j /\ Q (.bl (decide (i.cps.toList < j.cps.toList))) H) := by
 intro pins s σ H x y v u Q I rx ry h
 obtain ⟨i, j, rfl, rfl, q⟩ := h
 obtain ⟨t, rfl⟩ := rx
 obtain ⟨t', rfl⟩ := ry
 exact lt_str (bD I q rfl)
theorem AW : OpR X (compareOp .In) (fun x y H Q => ∃ i j, x = .str i /\ y = .str j /\ Q (.bl (!(Builtin.Str.occurrences j i 0 j.length 1).isEmpty)) H) := by
 intro pins s σ H x y v u Q I rx ry h
 obtain ⟨i, j, rfl, rfl, q⟩ := h
 obtain ⟨t, rfl⟩ := rx
 obtain ⟨t', rfl⟩ := ry
 exact in_str (bD I q rfl)
theorem wf : OpR X (compareOp .NotIn) (fun x y H Q => ∃ i j, x = .str i /\ y = .str j /\ Q (.bl (!(!(Builtin.Str.occurrences j i 0 j.length 1).isEmpty))) H) := by
 intro pins s σ H x y v u Q I rx ry h
 obtain ⟨i, j, rfl, rfl, q⟩ := h
 obtain ⟨t, rfl⟩ := rx
 obtain ⟨t', rfl⟩ := ry
 exact notIn_str (bD I q rfl)
theorem OpR.or {f : Value -> Value -> Sem Value} {r r' : R2} (h : OpR X f r) (h' : OpR X f r') : OpR X f (fun x y H Q => r x y H Q \/ r' x y H Q) := by
 intro pins s σ H x y v u Q I rx ry q
 rcases q with q | q
 ·exact h pins s σ H x y v u Q I rx ry q
 ·exact h' pins s σ H x y v u Q I rx ry q
theorem aO (b : Expr) {op : CmpOp} (h : op ≠ .In := by decide) (h2 : op ≠ .NotIn := by decide) : behindInMarks op b = false := by
 have e1 : (op == CmpOp.In) = false := by cases op <;> first | rfl | exact absurd rfl h
 have e2 : (op == CmpOp.NotIn) = false := by cases op <;> first | rfl | exact absurd rfl h2
 cases b <;> simp [behindInMarks, e1, e2]
theorem cz {op : CmpOp} {r : R2} (ho : OpR X (compareOp op) r) (ha : PE X a ta) (hb : PE X b tb) (hm : behindInMarks op b = false) : PE X (.Compare a [op] [b] pos) (tOp r ta tb) := by
 intro pins s σ H Q I h
 exact wpAny_Compare1 (Ga ha hb I h fun v u s2 x y H2 I2 rx ry q => ho pins s2 σ H2 x y v u Q I2 rx ry q) hm
def Hw (K : W.Frag) (x : V) (H : Hp) (k : Bool) : Prop :=
 match x with
 | .non => k = false
 | .bl b => k = b
 | .int i => k = (i != 0)
 | .str y => y.length <= sizeLine /\ k = ((y.length : Int) != 0)
 | .byt y => y.size <= sizeLine /\ k = ((y.size : Int) != 0)
 | .ref p => (∃ xs, SqL K H p xs /\ k = !xs.isEmpty) \/ (∃ xs, SqT K H p xs /\ k = !xs.isEmpty) \/ ∃ kvs, H p = some (.dK kvs) /\ k = !kvs.isEmpty
 | _ => False
theorem yD {κ : Type} {kvs : List (κ × V)} {vs : List (κ × Value)} (r : KV kvs vs) : (!vs.isEmpty) = !kvs.isEmpty := by
 cases r <;> rfl
theorem sU {xs : List V} {its : List Value} (r : Vals xs its) : (!its.toArray.isEmpty) = !xs.isEmpty := by
 cases r <;> simp
theorem qe : (sizeLine : Nat) < 2 ^ 63 := by rw [sizeLine_eq]; decide
theorem HA : Hy X (fun x H Q => ∃ k, Hw X.K x H k /\ Q k H) := by
 intro pins s σ H x v Q I rx h
 obtain ⟨k, e, q⟩ := h
 have hl := qe
 have hs : sizeLine = 16777216 := sizeLine_eq
 cases x with
 | non =>
  cases rx
  have e' : k = false := e
  subst e'
  exact truthy_none ⟨H, I, q⟩
 | bl b =>
  cases rx
  have e' : k = b := e
  subst e'
  exact wpAny_truthy_bool ⟨H, I, q⟩
 | int i =>
  obtain ⟨t, rfl⟩ := rx
  have e' : k = (i != 0) := e
  subst e'
  exact PySem.P.truthy_int ⟨H, I, q⟩
 | str y =>
  obtain ⟨t, rfl⟩ := rx
  obtain ⟨hy, e'⟩ : y.length <= sizeLine /\ k = ((y.length : Int) != 0) := e
  subst e'
  exact PySem.P.truthy_str (by omega) ⟨H, I.tok _, q⟩
 | byt y =>
  obtain ⟨t, rfl⟩ := rx
  obtain ⟨hy, e'⟩ : y.size <= sizeLine /\ k = ((y.size : Int) != 0) := e
  subst e'
  exact PySem.W.truthy_bytes (by omega) ⟨H, I.tok _, q⟩
 | ref p =>
  cases rx
  have e' : (∃ xs, SqL X.K H p xs /\ k = !xs.isEmpty) \/ (∃ xs, SqT X.K H p xs /\ k = !xs.isEmpty) \/ ∃ kvs, H p = some (.dK kvs) /\ k = !kvs.isEmpty := e
  rcases e' with ⟨xs, hx, e'⟩ | ⟨xs, hx, e'⟩ | ⟨kvs, hx, e'⟩
  ·subst e'
   obtain ⟨its, r, pl, hz⟩ := I.list hx
   have hlen := r.length
   exact wpAny_truthy_list pl.isList (by simp only [List.size_toArray]; omega) ⟨H, I.tok _, by rw [sU r]; exact q⟩
  ·subst e'
   obtain ⟨its, r, pl, hz⟩ := I.tuple hx
   have hlen := r.length
   exact truthy_tuple pl (by simp only [List.size_toArray]; omega) ⟨H, I.tok _, by rw [sU r]; exact q⟩
  ·subst e'
   obtain ⟨hz, hS, vs, r, m⟩ : kvs.length <= sizeLine /\ (p == sysModules) = false /\ ∃ vs, KV kvs vs /\ s.heap.DictOf (cP X.prog X.w) p vs := I.hok p _ hx
   have hlen : kvs.length = vs.length := Paired.length r
   exact wpAny_truthy_dict hS m (by omega) ⟨H, I.tok _, by rw [yD r]; exact q⟩
 | _ => exact (show False from e).elim
theorem zx : OpR X (binaryOp .Add) (fun x y H Q => ∃ i j, x = .str i /\ y = .str j /\ i.length + j.length <= sizeLine /\ Q (.str (i ++ j)) H) := by
 intro pins s σ H x y v u Q I rx ry h
 obtain ⟨i, j, rfl, rfl, hz, q⟩ := h
 obtain ⟨t, rfl⟩ := rx
 obtain ⟨t', rfl⟩ := ry
 exact add_str (fun t' tk => ⟨.str (i ++ j), H, I.tok _, ⟨_, rfl⟩, q⟩) hz
theorem iD {x : V} {us : List Value} (r : Vals [x] us) : ∃ u, us = [u] /\ RelV x u := by
 cases r with
 | cons r1 r2 => cases r2; exact ⟨_, rfl, r1⟩
theorem Cr {x y : V} {us : List Value} (r : Vals [x, y] us) : ∃ u w', us = [u, w'] /\ RelV x u /\ RelV y w' := by
 cases r with
 | cons r1 r2 =>
  cases r2 with
  | cons r3 r4 => cases r4; exact ⟨_, _, rfl, r1, r3⟩
theorem BO : CallR X (.builtin "abs") (fun xs H Q => ∃ i, xs = [.int i] /\ Q (.int (if i < 0 then -i else i)) H) := by
 intro pins s σ H xs us Q I r h
 obtain ⟨i, rfl, q⟩ := h
 obtain ⟨u, rfl, t, rfl⟩ := iD r
 exact call_abs_int fun u tk => ⟨.int (if i < 0 then -i else i), H, I.tok _, ⟨_, rfl⟩, q⟩
theorem Br (hc : X.calm = true) : CallR X (.builtin "min") (fun xs H Q => ∃ i j, xs = [.int i, .int j] /\ Q (.int (if j < i then j else i)) H) := by
 intro pins s σ H xs us Q I r h
 obtain ⟨i, j, rfl, q⟩ := h
 obtain ⟨u, w', rfl, ⟨t, rfl⟩, ⟨t', rfl⟩⟩ := Cr r
 refine min_two_ints (I.ok.hd hc) fun h' tk k => ⟨_, H, I.kept k, ?_, q⟩
 by_cases hj : j < i
 ·rw [if_pos hj, if_pos hj]; exact ⟨_, rfl⟩
 ·rw [if_neg hj, if_neg hj]; exact ⟨_, rfl⟩
theorem AZ : CallR X (.type "int") (fun xs H Q => (∃ i, xs = [.int i] /\ Q (.int i) H) \/ ∃ k, xs = [.bl k] /\ Q (.int (if k then 1 else 0)) H) := by
 intro pins s σ H xs us Q I r h
 rcases h with ⟨i, rfl, q⟩ | ⟨k, rfl, q⟩
 ·obtain ⟨u, rfl, t, rfl⟩ := iD r
  exact call_int_int ⟨.int i, H, I, ⟨_, rfl⟩, q⟩
 ·obtain ⟨u, rfl, r1⟩ := iD r
  cases r1
  exact call_int_bool ⟨.int (if k then 1 else 0), H, I.tok _, ⟨_, rfl⟩, q⟩
def Hx (K : W.Frag) (x : V) (H : Hp) (n : Nat) : Prop :=
 match x with
 | .str y => y.length <= sizeLine /\ n = y.length
 | .byt y => y.size <= sizeLine /\ n = y.size
 | .ref p => (∃ xs, SqL K H p xs /\ n = xs.length) \/ ∃ xs, SqT K H p xs /\ n = xs.length
 | _ => False
theorem B0 : CallR X (.builtin "len") (fun xs H Q => ∃ x n, xs = [x] /\ Hx X.K x H n /\ Q (.int n) H) := by
 intro pins s σ H xs us Q I r h
 obtain ⟨x, n, rfl, e, q⟩ := h
 obtain ⟨u, rfl, rx⟩ := iD r
 have hl := qe
 have hs : sizeLine = 16777216 := sizeLine_eq
 cases x with
 | str y =>
  obtain ⟨t, rfl⟩ := rx
  obtain ⟨hy, e'⟩ : y.length <= sizeLine /\ n = y.length := e
  subst e'
  exact len_str (by omega) ⟨.int _, H, I.tok _, ⟨_, rfl⟩, q⟩
 | byt y =>
  obtain ⟨t, rfl⟩ := rx
  obtain ⟨hy, e'⟩ : y.size <= sizeLine /\ n = y.size := e
  subst e'
  exact PySem.W.len_bytes (by omega) ⟨.int _, H, I.tok _, ⟨_, rfl⟩, q⟩
 | ref p =>
  cases rx
  have e' : (∃ xs, SqL X.K H p xs /\ n = xs.length) \/ ∃ xs, SqT X.K H p xs /\ n = xs.length := e
  rcases e' with ⟨xs, hx, e'⟩ | ⟨xs, hx, e'⟩
  ·subst e'
   obtain ⟨its, r', pl, hz⟩ := I.list hx
   have hlen := r'.length
   exact Calls.call_len_list pl.isList (by simp only [List.size_toArray]; omega) ⟨.int xs.length, H, I.tok _, ⟨_, by simp only [List.size_toArray]; rw [hlen]⟩, q⟩
  ·subst e'
   obtain ⟨its, r', pl, hz⟩ := I.tuple hx
   have hlen := r'.length
   exact len_tuple pl (by simp only [List.size_toArray]; omega) ⟨.int xs.length, H, I.tok _, ⟨_, by simp only [List.size_toArray]; rw [hlen]⟩, q⟩
 | _ => exact (show False from e).elim
end
end L2
namespace L2
open PySem PySem.Spec PyProof.Rows
structure ObjM (h : Heap) (x dx C : Addr) (mA : Str -> Option Value) : Prop where
 obj : h.get? x = some (PySem.W.instObj C dx)
 ns : h.Ns1 dx mA
 ne : dx ≠ x
theorem Bm {h : Heap} {dx : Addr} {mA : Str -> Option Value} (n : h.Ns1 dx mA) : ∃ od, h.get? dx = some od /\ ∀ name, PySem.W.lookIn name od = some (mA name) := by
 obtain ⟨o, es, ep, ho, hd, hk, _, hm⟩ := n
 refine ⟨o, ho, fun name => ?_⟩
 have e := hm name
 unfold nsFind findBy at e
 rw [<- Array.find?_toList] at e
 unfold PySem.W.lookIn
 rw [hd]
 dsimp only
 split
 ·rename_i y q
  rw [q] at e
  exact congrArg some e
 ·rename_i q
  rw [q] at e
  have a : es.toList.any (·.refKey) = false := by
   rw [List.any_eq_false]
   intro y hy
   obtain ⟨z, t, hkey⟩ := hk y (Array.mem_toList_iff.mp hy)
   simp [DictEntry.refKey, hkey]
  have a' : ¬ es.toList.any (·.refKey) = true := by rw [a]; exact Bool.false_ne_true
  rw [if_neg a']
  exact congrArg some e
theorem ObjM.look {h : Heap} {x dx C : Addr} {mA : Str -> Option Value} (I : ObjM h x dx C mA) : ∃ od, PySem.W.InstAt h x (PySem.W.instObj C dx) C (some od) /\ ∀ name, PySem.W.lookIn name od = some (mA name) :=
 let ⟨od, ho, hl⟩ := Bm I.ns
 ⟨od, ⟨I.obj, rfl, rfl, ho⟩, hl⟩
section
variable {prog : Program} {w : World} {A : Around} {E : Value -> Shared -> Prop} {s : Shared} {K : W.Frag} {x dx C f : Addr} {mA : Str -> Option Value} {name : Str} {v : Value}
theorem Du {expr : Bool} {Q : Value -> Shared -> Prop} (X : K.In s.heap) (I : ObjM s.heap x dx C mA) (hg : PySem.W.plainGet K C name = true) (hh : PySem.W.hasDictIn K C = true)
 (ha : PySem.W.findIn K (.ref C) name = some none) (hv : mA name = some v) (hv' : PySem.W.handedIn v = true) (h : Q v { s with toks := s.toks + 1 }) :
 wpAny (model prog w) A (getAttr (.ref x) name expr) Q E s := by
 obtain ⟨od, J, hl⟩ := I.look
 exact PySem.W.get_value X J (PySem.W.plainGet_of hg).1 (PySem.W.findObj_own hh ha rfl (by rw [hl, hv])) hv' h
theorem Cn {pl : Sem Bool} {Q : Value × List Value -> Shared -> Prop} (X : K.In s.heap) (I : ObjM s.heap x dx C mA) (hg : PySem.W.plainGet K C name = true)
 (hf : PySem.W.findIn K (.ref C) name = some (some (.ref f))) (ht : PySem.W.isFn K (.ref f) = true) (hv : mA name = none) (h : Q (.ref f, [.ref x]) s) :
 wpAny (model prog w) A (getMethod (.ref x) name pl) Q E s := by
 obtain ⟨od, J, hl⟩ := I.look
 exact PySem.W.method_fn X J (PySem.W.plainGet_of hg).1 (PySem.W.plainGet_of hg).2 hf (beq_iff_eq.mp ht) (by show (PySem.W.lookIn name od).map (·.isSome) = some false; rw [hl, hv]; rfl) h
theorem Dp {ns : List Str} {Q : Unit -> Shared -> Prop} (X : K.In s.heap) (I : ObjM s.heap x dx C mA)
 (hs : PySem.W.findIn K (.ref C) "__setattr__" = some (some (.builtin "object.__setattr__"))) (hp : PySem.W.plainOver K C = true) (ht : PySem.W.takerIn K C name = some none) (hh : PySem.W.hasDictIn K C = true)
 (hw : PySem.Within mA ns) (hsz : ns.length <= sizeLine)
 (h : ∀ h', ObjM h' x dx C (fun y => if y = name then some v else mA y) -> Heap.SameBut dx s.heap h' -> Q () { s with heap := h', toks := s.toks + 2 }) :
 wpAny (model prog w) A (setAttr (.ref x) name v) Q E s := by
 obtain ⟨od, J, hl⟩ := I.look
 refine PySem.W.set_plain X J hs (PySem.W.osa_open (s := { s with toks := s.toks + 1 }) (r := none) X J hp ht fun b => ?_)
 obtain ⟨cd, hc, hd'⟩ := PySem.W.any_some hh
 have hx : s.heap.get? x = some ⟨.ref C, some dx, .plain, #[]⟩ := I.obj
 refine wpAny_bind (wpAny_pure (wpAny_bind (wpAny_bind (wpAny_loadPart hx (wpAny_bind (PySem.W.Looks.here (s := { s with toks := s.toks + 1 }) (PySem.W.looks_clsIn X hc) ?_))))))
 rw [hd']
 refine wpAny_pure (a := some dx) (wpAny_bind (wpAny_pure (wpAny_bind ?_)))
 refine wpAny_nsSet1 (s := { s with toks := s.toks + 1 }) I.ns fun h' hn2 hs2 => ?_
 obtain ⟨oD, esD, epD, hoD, hdD, hcD⟩ := hn2.count (PySem.Within.cons name v hw)
 refine wpAny_bind (wpAny_lookBehind hoD (by rw [hdD]; exact pastItsLine_dict (Nat.le_trans hcD (by rw [List.length_cons]; omega))) ?_)
 exact wpAny_pure (h _ ⟨(hs2.2 _ (Ne.symm I.ne)).trans I.obj, hn2, I.ne⟩ hs2)
theorem BA {R : Result -> Shared -> Prop} {vs : List Value} {kw : List (Str × Value)} (X : K.In s.heap) (hm : PySem.W.makesIn K C = true)
 (hi : PySem.W.findIn K (.ref C) "__init__" = some (some (.ref f))) (hf : PySem.W.typeIn K (.ref f) = some (.type "function"))
 (h : codeAny (model prog w) (A.under (.builtin "type.__call__" ⟨.ref C :: vs, kw⟩)) (.call (.ref f) ⟨.ref (s.heap.objs.size + 1) :: vs, kw⟩) (PySem.W.InitBack (s.heap.objs.size + 1) R)
  { s with heap := (s.heap.push PySem.W.emptyDict).push (PySem.W.instObj C s.heap.objs.size) }) :
 codeAny (model prog w) A (.call (.ref C) ⟨vs, kw⟩) R s := by
 obtain ⟨hh, g, d, t, os⟩ := s
 exact PySem.W.make_core (PySem.W.makes_of X hm) (PySem.W.looks_findIn X hi) (fun self => PySem.W.bind_fn X self hf) (.inl rfl) h
end
def gs (f : Str) (v : V) : List (Str × V) -> List (Str × V)
 | [] => [(f, v)]
 | (g, x) :: r => if g = f then (g, v) :: r else (g, x) :: gs f v r
theorem rb (f g : Str) (v : V) : ∀ fs : List (Str × V), (gs f v fs).lookup g = if g = f then some v else fs.lookup g
 | [] => by
  show List.lookup g [(f, v)] = _
  by_cases h : g = f
  ·have hb : (g == f) = true := beq_iff_eq.mpr h
   simp only [List.lookup, hb, if_pos h]
  ·have hb : (g == f) = false := beq_eq_false_iff_ne.mpr h
   simp only [List.lookup, hb, if_neg h]
 | (k, x) :: r => by
  have ih := rb f g v r
  rw [show gs f v ((k, x) :: r) = (if k = f then (k, v) :: r else (k, x) :: gs f v r) from rfl]
  by_cases hk : k = f
  ·rw [if_pos hk]
   by_cases h : g = k
   ·have hb : (g == k) = true := beq_iff_eq.mpr h
    simp only [List.lookup, hb, if_pos (h.trans hk)]
   ·have hb : (g == k) = false := beq_eq_false_iff_ne.mpr h
    simp only [List.lookup, hb, if_neg (fun e : g = f => h (e.trans hk.symm))]
  ·rw [if_neg hk]
   by_cases h : g = k
   ·have hb : (g == k) = true := beq_iff_eq.mpr h
    simp only [List.lookup, hb, if_neg (fun e : g = f => hk (h.symm.trans e))]
   ·have hb : (g == k) = false := beq_eq_false_iff_ne.mpr h
    simp only [List.lookup, hb]
    exact ih
theorem qg (f : Str) (v : V) : ∀ fs : List (Str × V), f ∈ (gs f v fs).map (·.1) /\ ∀ g, g ∈ fs.map (·.1) -> g ∈ (gs f v fs).map (·.1)
 | [] => ⟨by simp [gs], fun g h => by simp at h⟩
 | (k, x) :: r => by
  obtain ⟨i1, i2⟩ := qg f v r
  rw [show gs f v ((k, x) :: r) = (if k = f then (k, v) :: r else (k, x) :: gs f v r) from rfl]
  by_cases hk : k = f
  ·rw [if_pos hk]
   subst hk
   exact ⟨by simp, fun g h => by simpa using h⟩
  ·rw [if_neg hk]
   refine ⟨?_, fun g h => ?_⟩
   ·rw [List.map_cons]
    exact List.mem_cons_of_mem _ i1
   ·rw [List.map_cons] at h ⊢
    rcases List.mem_cons.mp h with e | e
    ·exact List.mem_cons.mpr (.inl e)
    ·exact List.mem_cons_of_mem _ (i2 g e)
theorem rl (f : Str) (v : V) : ∀ fs : List (Str × V), (gs f v fs).length <= fs.length + 1
 | [] => by simp [gs]
 | (k, x) :: r => by
  have ih := rl f v r
  rw [show gs f v ((k, x) :: r) = (if k = f then (k, v) :: r else (k, x) :: gs f v r) from rfl]
  by_cases hk : k = f
  ·rw [if_pos hk, List.length_cons, List.length_cons]; omega
  ·rw [if_neg hk, List.length_cons, List.length_cons]; omega
theorem RelO.some_of {v : V} {o : Option Value} (r : RelO (some v) o) : ∃ u, o = some u /\ RelV v u := by
 cases o with
 | none => exact (show False from r).elim
 | some u => exact ⟨u, rfl, r⟩
theorem RelO.none_of {o : Option Value} (r : RelO none o) : o = none := by
 cases o with
 | none => rfl
 | some u => exact (show False from r).elim
theorem Bn {v : V} {u : Value} (r : RelV v u) : PySem.W.handedIn u = true := by
 cases v with
 | non => cases (show u = Value.none from r); rfl
 | bl b => cases (show u = Value.bool b from r); rfl
 | int i => obtain ⟨t, e⟩ := (show ∃ t, u = Value.int i t from r); cases e; rfl
 | str x => obtain ⟨t, e⟩ := (show ∃ t, u = Value.str x t from r); cases e; rfl
 | byt b => obtain ⟨t, e⟩ := (show ∃ t, u = Value.bytes b t from r); cases e; rfl
 | flt b => obtain ⟨t, e⟩ := (show ∃ t, u = Value.float b t from r); cases e; rfl
 | ref a => cases (show u = Value.ref a from r); rfl
 | ty n => cases (show u = Value.type n from r); rfl
section
variable {P : Program} {w : World} {H H' : Hp} {h h' : Heap} {a C dx : Addr} {fs fs' : List (Str × V)}
theorem se (hok : HOk P w H h) (e : H a = some (.ins C dx fs)) : ∃ mA, ObjM h a dx C mA /\ (∀ f, RelO (fs.lookup f) (mA f)) /\ PySem.Within mA (fs.map (·.1)) /\ fs.length <= 1000 /\ H dx = some (.own a) := by
 obtain ⟨d, z, ne, ob, mA, n, r, q⟩ := (show ObjOk P w H h a (.ins C dx fs) from hok a _ e)
 exact ⟨mA, ⟨ob, n, ne⟩, r, q, z, d⟩
end
structure Cls (K : W.Frag) (C : Addr) : Prop where
 pg : PySem.W.plainGet K C Str.empty = true
 hd : PySem.W.hasDictIn K C = true
 po : PySem.W.plainOver K C = true
 sa : PySem.W.findIn K (.ref C) "__setattr__" = some (some (.builtin "object.__setattr__"))
theorem Cls.get {K : W.Frag} {C : Addr} (c : Cls K C) (f : Str) : PySem.W.plainGet K C f = true := c.pg
def NoAttr (K : W.Frag) (C : Addr) (f : Str) : Prop := PySem.W.findIn K (.ref C) f = some none
theorem NoAttr.taker {K : W.Frag} {C : Addr} {f : Str} (n : NoAttr K C f) : PySem.W.takerIn K C f = some none := by
 unfold PySem.W.takerIn
 rw [show PySem.W.findIn K (.ref C) f = some none from n]
 rfl
structure kj (K : W.Frag) (C : Addr) (m : Str) (f : Addr) : Prop where
 at_ : PySem.W.findIn K (.ref C) m = some (some (.ref f))
 fn : PySem.W.isFn K (.ref f) = true
 kp : PySem.W.keepIn K (.ref f) = true
section
variable {X : Cx} {pins : List (Addr × Obj)} {σ : St} {H : Hp} {s : Shared} {a C dx : Addr} {fs : List (Str × V)} {f : Str} {v : V} {A : Around} {E : Value -> Shared -> Prop}
theorem yT {b : Bool} {Q : Value -> Shared -> Prop} (I : Inv X pins σ H s) (e : H a = some (.ins C dx fs)) (c : Cls X.K C) (n : NoAttr X.K C f) (l : fs.lookup f = some v)
 (h : ∀ u s', Inv X pins σ H s' -> RelV v u -> Q u s') : wpAny (model X.prog X.w) A (getAttr (.ref a) f b) Q E s := by
 obtain ⟨mA, O, r, _, _, _⟩ := se I.hok e
 obtain ⟨u, hu, ru⟩ := RelO.some_of (v := v) (o := mA f) (by rw [<- l]; exact r f)
 exact Du I.kIn O (c.get f) c.hd n hu (Bn ru) (h u _ (I.tok _) ru)
theorem sY {m : Str} {g : Addr} {pl : Sem Bool} {Q : Value × List Value -> Shared -> Prop} (I : Inv X pins σ H s) (e : H a = some (.ins C dx fs)) (c : Cls X.K C) (k : kj X.K C m g) (l : fs.lookup m = none)
 (h : Q (.ref g, [.ref a]) s) : wpAny (model X.prog X.w) A (getMethod (.ref a) m pl) Q E s := by
 obtain ⟨mA, O, r, _, _, _⟩ := se I.hok e
 have hn : mA m = none := RelO.none_of (by rw [<- l]; exact r m)
 exact Cn I.kIn O (c.get m) k.at_ k.fn hn h
theorem yF {y : V} {u : Value} {Q : Unit -> Shared -> Prop} (I : Inv X pins σ H s) (e : H a = some (.ins C dx fs)) (c : Cls X.K C) (n : NoAttr X.K C f) (hl : fs.length < 1000) (ry : RelV y u)
 (h : ∀ s', Inv X pins σ (upd H a (.ins C dx (gs f y fs))) s' -> Q () s') : wpAny (model X.prog X.w) A (setAttr (.ref a) f u) Q E s := by
 obtain ⟨mA, O, r, wi, _, ho⟩ := se I.hok e
 have hz : (fs.map (·.1)).length <= sizeLine := by rw [List.length_map, sizeLine_eq]; omega
 refine Dp I.kIn O c.sa c.po n.taker c.hd wi hz fun h' O' sb => h _ ?_
 have hd : ∃ o, h'.get? dx = some o := let ⟨o, _, _, e', _⟩ := O'.ns; ⟨o, e'⟩
 refine I.write (x := a) (e := dx) (by rw [e]; exact True.intro) (.inr ho) (fun b q hb z => (sb.2 b hb).trans z) hd ?_
 refine ⟨by rw [ar O.ne]; exact ho, ?_, O.ne, O'.obj, _, O'.ns, fun g => ?_, fun g hg => ?_⟩
 ·have := rl f y fs; omega
 ·show RelO ((gs f y fs).lookup g) (if g = f then some u else mA g)
  rw [rb]
  by_cases q : g = f
  ·rw [if_pos q, if_pos q]; exact ry
  ·rw [if_neg q, if_neg q]; exact r g
 ·by_cases q : g = f
  ·rw [q]; exact (qg f y fs).1
  ·refine (qg f y fs).2 g (wi g fun z => hg ?_)
   show (if g = f then some u else mA g) = none
   rw [if_neg q]; exact z
theorem Inv.made (I : Inv X pins σ H s) : Inv X pins σ (upd (upd H s.heap.objs.size (.own (s.heap.objs.size + 1))) (s.heap.objs.size + 1) (.ins C s.heap.objs.size []))
 { s with heap := (s.heap.push PySem.W.emptyDict).push (PySem.W.instObj C s.heap.objs.size) } := by
 have e1 : (s.heap.push PySem.W.emptyDict).get? s.heap.objs.size = some PySem.W.emptyDict := Heap.get?_push_size s.heap rfl
 have e2 : ((s.heap.push PySem.W.emptyDict).push (PySem.W.instObj C s.heap.objs.size)).get? (s.heap.objs.size + 1) = some (PySem.W.instObj C s.heap.objs.size) := by
  have := Heap.get?_push_size (s.heap.push PySem.W.emptyDict) (o := PySem.W.instObj C s.heap.objs.size) rfl
  rwa [Heap.size_push] at this
 have e3 : (s.heap.push PySem.W.emptyDict).Ns s.heap.objs.size (fun _ => none) := ⟨PySem.W.emptyDict, #[], _, e1, rfl, (fun e he => absurd he (by simp)), fun _ => rfl⟩
 have I1 := I.laid (a := s.heap.objs.size) (o := .own (s.heap.objs.size + 1)) (h' := s.heap.push PySem.W.emptyDict) (t' := s.toks) (fun b u q => Heap.get?_push_of_some _ q) (Nat.le_refl _) ⟨_, e1⟩
 refine I1.laid (a := s.heap.objs.size + 1) (o := .ins C s.heap.objs.size []) (t' := s.toks) (fun b u q => Heap.get?_push_of_some _ q) (Nat.le_of_eq (Heap.size_push _ _)) ?_
 have ne : s.heap.objs.size ≠ s.heap.objs.size + 1 := Nat.ne_of_lt (Nat.lt_succ_self _)
 refine ⟨by rw [ar ne, ae], Nat.zero_le _, ne, e2, fun _ => none, (Heap.Ns1.of_empty e3).at fun o q => Heap.get?_push_of_some _ q, fun _ => True.intro, fun y hy => absurd rfl hy⟩
theorem Ek {prog : Program} {w : World} {env : Env} {e : Expr} {f : Str} {pos : Pos} {s : Shared} {Q : Value -> Shared -> Prop} (hb : attributeBase e f env (eval e env) = eval e env)
 (h : wpAny (model prog w) A (eval e env) (fun o s₁ => wpAny (model prog w) A (getAttr o f true) Q E s₁) E s) : wpAny (model prog w) A (eval (.Attribute e f pos) env) Q E s :=
 Attribute_any_ h (by rw [arm_eval_Attribute, hb])
end
section
variable {X : Cx} {o e value : Expr} {f : Str} {pos pos' tpos : Pos} {ta tv : TE}
end
section
variable {X : Cx} {pins : List (Addr × Obj)} {σ : St} {H : Hp} {s : Shared} {A : Around} {E : Value -> Shared -> Prop} {Q : Value -> Shared -> Prop} {c : Value} {b : Bool}
inductive nR (K : W.Frag) (H : Hp) : V -> Value -> Prop where
 | non : nR K H .non (.type "NoneType")
 | bl (x : Bool) : nR K H (.bl x) (.type "bool")
 | int (i : Int) : nR K H (.int i) (.type "int")
 | str (x : Str) : nR K H (.str x) (.type "str")
 | flt (x : UInt64) : nR K H (.flt x) (.type "float")
 | lst {a : Addr} {xs : List V} (e : H a = some (.lst xs)) : nR K H (.ref a) (.type "list")
 | frz {a : Addr} {o : Obj} {xs : List V} (e : H a = some (.frz o (.lst xs))) : nR K H (.ref a) (.type "list")
 | tup {a : Addr} {xs : List V} (e : H a = some (.tup xs)) : nR K H (.ref a) (.type "tuple")
 | dK {a : Addr} {kvs : List (Key × V)} (e : H a = some (.dK kvs)) : nR K H (.ref a) (.type "dict")
 | dT {a : Addr} {kvs : List (List Key × V)} (e : H a = some (.dT kvs)) : nR K H (.ref a) (.type "dict")
 | ins {a C dx : Addr} {fs : List (Str × V)} (e : H a = some (.ins C dx fs)) (cl : Cls K C) (ha : PySem.W.findIn K (.ref C) "__class__" = some (some (.builtin "object.__class__")))
  (hn : PySem.W.specialIn K (.builtin "object.__class__") "__get__" = some (some (.builtin "getset_descriptor.__get__"))) (htk : PySem.W.takesIn K (.builtin "object.__class__") = some true)
  (hm : PySem.W.mroIn K C (.type "object") = some true) : nR K H (.ref a) (.ref C)
theorem AH {x : V} {u t : Value} (I : Inv X pins σ H s) (rx : RelV x u) (ty : nR X.K H x t) (e : PySem.W.kitOne X.K t c = some b) (h : ∀ tk, Q (.bool b) { s with toks := tk }) :
 wpAny (model X.prog X.w) A (call (.builtin "isinstance") [u, c]) Q E s := by
 cases ty with
 | non => cases (show u = Value.none from rx); exact PySem.W.kia_one PySem.W.kitx_none I.kIn True.intro e (fun z => nomatch z) h
 | bl y => cases (show u = Value.bool y from rx); exact PySem.W.kia_one PySem.W.kitx_bool I.kIn True.intro e (fun z => nomatch z) h
 | int i => obtain ⟨t, q⟩ := (show ∃ t, u = Value.int i t from rx); cases q; exact PySem.W.kia_one PySem.W.kitx_int I.kIn True.intro e (fun z => nomatch z) h
 | str y => obtain ⟨t, q⟩ := (show ∃ t, u = Value.str y t from rx); cases q; exact PySem.W.kia_one PySem.W.kitx_str I.kIn True.intro e (fun z => nomatch z) h
 | flt y => obtain ⟨t, q⟩ := (show ∃ t, u = Value.float y t from rx); cases q; exact PySem.W.kia_one PySem.W.kitx_float I.kIn True.intro e (fun z => nomatch z) h
 | @lst a xs ea =>
  cases (show u = Value.ref a from rx)
  obtain ⟨_, _, n, _, h1⟩ := (show ObjOk X.prog X.w H s.heap a (.lst xs) from I.hok a _ ea)
  exact PySem.W.kia_one PySem.W.kitx_list I.kIn ⟨_, h1, rfl⟩ e (fun z => nomatch z) h
 | @frz a ob xs ea =>
  cases (show u = Value.ref a from rx)
  obtain ⟨_, _, _, n, _, h1⟩ := (show ObjOk X.prog X.w H s.heap a (.frz ob (.lst xs)) from I.hok a _ ea)
  exact PySem.W.kia_one PySem.W.kitx_list I.kIn ⟨_, h1, rfl⟩ e (fun z => nomatch z) h
 | @tup a xs ea =>
  cases (show u = Value.ref a from rx)
  obtain ⟨_, _, _, p⟩ := (show ObjOk X.prog X.w H s.heap a (.tup xs) from I.hok a _ ea)
  obtain ⟨o, h1, h2, _⟩ := p
  exact PySem.W.kia_one PySem.W.kitx_tuple I.kIn ⟨o, h1, h2⟩ e (fun z => nomatch z) h
 | @dK a kvs ea =>
  cases (show u = Value.ref a from rx)
  obtain ⟨_, _, vs, _, p⟩ := (show ObjOk X.prog X.w H s.heap a (.dK kvs) from I.hok a _ ea)
  obtain ⟨o, es, ep, h1, h2, _⟩ := p
  exact PySem.W.kia_one PySem.W.kitx_dict I.kIn ⟨o, h1, h2.1⟩ e (fun z => nomatch z) h
 | @dT a kvs ea =>
  cases (show u = Value.ref a from rx)
  obtain ⟨_, _, xs, _, o, es, ep, h1, h2, _⟩ := (show ObjOk X.prog X.w H s.heap a (.dT kvs) from I.hok a _ ea)
  exact PySem.W.kia_one PySem.W.kitx_dict I.kIn ⟨o, h1, h2.1⟩ e (fun z => nomatch z) h
 | @ins a C dx fs ea cl ha hn htk hm =>
  cases (show u = Value.ref a from rx)
  obtain ⟨mA, O, _⟩ := se I.hok ea
  obtain ⟨od, J, _⟩ := O.look
  exact PySem.W.kia_one (PySem.W.kitx_own (cl.get _) cl.hd ha hn htk hm) I.kIn J e (fun z => nomatch z) h
end
end L2
namespace L2
open PySem PySem.Spec PyProof.Rows
structure Room (k : Nat) (A : Around) : Prop where
 hd : A.handled = none
 dp : A.depth + 3 * k + 5 < recursionLimit
 un : A.units + 16 * k + 200 < cLine
theorem Room.mono {j k : Nat} {A : Around} (r : Room k A) (h : j <= k) : Room j A := ⟨r.hd, by have := r.dp; omega, by have := r.un; omega⟩
theorem Room.deeper {k : Nat} {A : Around} (r : Room (k + 1) A) (env : Env) : Room k (A.deeper env) :=
 ⟨r.hd, by have := r.dp; show A.depth + 1 + 3 * k + 5 < _; omega, by have := r.un; show A.units + 3 + 16 * k + 200 < _; omega⟩
theorem zu {A : Around} {C : Addr} {us : List Value} {kw : List (Str × Value)} : (A.under (.builtin "type.__call__" ⟨.ref C :: us, kw⟩)).depth = A.depth + 1 := by
 first | rfl | simp [Around.under, Code.weight, Code.isCreation, Code.isGuard, Code.isCaller, Code.frames, Code.isFrame, guardIds]
theorem zb {A : Around} {C : Addr} {us : List Value} {kw : List (Str × Value)} : (A.under (.builtin "type.__call__" ⟨.ref C :: us, kw⟩)).units = A.units + 1 := by
 first | rfl | simp [Around.under, Code.cUnits, Code.frames, Code.isFrame]
theorem Room.make {k : Nat} {A : Around} (r : Room (k + 1) A) (C : Addr) (us : List Value) (kw : List (Str × Value)) : Room k (A.under (.builtin "type.__call__" ⟨.ref C :: us, kw⟩)) :=
 ⟨r.hd, by have := r.dp; rw [zu]; omega, by have := r.un; rw [zb]; omega⟩
theorem Room.depth {k : Nat} {A : Around} (r : Room k A) : A.depth < recursionLimit := by have := r.dp; omega
def Co : TA := fun _ H Q => Q [] H
def Df (ta : TE) (tr : TA) : TA := fun σ H Q => ta σ H fun x H1 => tr σ H1 fun xs H2 => Q (x :: xs) H2
section
variable {X : Cx} {e : Expr} {es : List Expr} {te : TE} {t : TA} {pos : Pos}
theorem FP : PA X [] Co := fun _ _ _ _ H Q I h => Calls.spliced_nil ⟨[], H, I, .nil, h⟩
theorem Er (ha : PE X e te) (hr : PA X es t) (hs : starEach (e :: es) X.env = (false, eval e X.env) :: starEach es X.env := by rfl) : PA X (e :: es) (Df te t) := by
 intro pos pins s σ H Q I h
 rw [hs]
 show wpAny _ _ (spliced ((false, eval e X.env) :: backTo pos (starEach es X.env))) _ _ s
 refine Calls.spliced_cons (thn (ha pins s σ H _ I h) fun u s1 ⟨x, H1, I1, r1, q1⟩ => ?_)
 exact thn (hr pos pins s1 σ H1 _ I1 q1) fun us s2 ⟨xs, H2, I2, r2, q2⟩ => ⟨x :: xs, H2, I2, .cons r1 r2, q2⟩
def Hl (t : TA) : TE := fun σ H Q => t σ H fun xs H1 => xs.length <= sizeLine /\ ∀ p, H1 p = none -> Q (.ref p) (upd H1 p (.tup xs))
def Go (t : TA) : TE := fun σ H Q => t σ H fun xs H1 => xs.length <= sizeLine /\ ∀ p, H1 p = none -> Q (.ref p) (upd H1 p (.lst xs))
theorem cR {x1} (h : PA X es t) : PE X (.Tuple es x1 pos) (Hl t) := by
 intro pins s σ H Q I hq
 refine wpAny_Tuple_spliced (thn (h pos pins s σ H _ I hq) fun us s1 ⟨xs, H1, I1, r, z, q⟩ => ⟨by rw [<- r.length]; exact z, ?_⟩)
 have hf : H1 s1.heap.objs.size = none := I1.hok.fresh (Nat.le_refl _)
 refine ⟨.ref s1.heap.objs.size, upd H1 s1.heap.objs.size (.tup xs), I1.laid (t' := s1.toks) (fun b u e => Heap.get?_push_of_some _ e) (Nat.le_refl _) ?_, rfl, q _ hf⟩
 exact ⟨z, us, r, ⟨_, Heap.get?_push_size _ rfl, rfl, _, rfl⟩⟩
theorem bU (h : PA X es t) : PE X (.List es pos) (Go t) := by
 intro pins s σ H Q I hq
 refine wpAny_List_spliced (thn (h pos pins s σ H _ I hq) fun us s1 ⟨xs, H1, I1, r, z, q⟩ => ⟨by rw [<- r.length]; exact z, ?_⟩)
 have hf : H1 s1.heap.objs.size = none := I1.hok.fresh (Nat.le_refl _)
 refine ⟨.ref s1.heap.objs.size, upd H1 s1.heap.objs.size (.lst xs), I1.laid (t' := s1.toks) (fun b u e => Heap.get?_push_of_some _ e) (Nat.le_refl _) ?_, rfl, q _ hf⟩
 exact ⟨z, us, 0, r, Heap.get?_push_size _ rfl⟩
end
abbrev Sp := List V -> Hp -> VK -> XK -> Prop
abbrev CXT := List Env -> Hp -> Shared -> XK -> Value -> Shared -> Prop
structure Env0 (P : Program) (w : World) (K : W.Frag) (mg : Str -> Option Value) (base : Heap) (A : Around) (outer : List Env) (s : Shared) (H : Hp) : Prop where
 frames : A.frames = some outer
 mod : Mod K mg base
 bs : ∀ b o, base.get? b = some o -> s.heap.get? b = some o /\ H b = none
 bsz : base.objs.size <= s.heap.objs.size
 funs : s.heap.FunFrames base outer
 frf : ∀ b ∈ frs outer, H b = none
 hok : HOk P w H s.heap
 bare : AllBare s.gens
def CE (outer : List Env) (P : Program) (w : World) (H : Hp) (s : Shared) (Q : VK) (u : Value) (s' : Shared) : Prop :=
 ∃ v H', s'.os = s.os /\ AllBare s'.gens /\ Un (frs outer) [] H H' s.heap s'.heap /\ HOk P w H' s'.heap /\ RelV v u /\ Q v H'
def CR (CX : CXT) (outer : List Env) (P : Program) (w : World) (H : Hp) (s : Shared) (Q : VK) (E : XK) (r : Result) (s' : Shared) : Prop :=
 match r with
 | .ok (.ret u) => CE outer P w H s Q u s'
 | .ok _ => False
 | .error e => CX outer H s E e s'
structure bQ (P : Program) (w : World) (K : W.Frag) (mg : Str -> Option Value) (base : Heap) (CX : CXT) (k : Nat) (f : Addr) (fd : FuncData) (ps : List Str) (sp : Sp) : Prop where
 len : ∀ vs H Q E, sp vs H Q E -> vs.length = ps.length
 run : ∀ (A : Around) (outer : List Env) (s : Shared) (H : Hp) (args : Args) (us : List Value) (vs : List V) (Q : VK) (E : XK), Room k A -> Env0 P w K mg base A outer s H -> BindsTo s fd args (ps.zip us) -> Vals vs us -> sp vs H Q E ->
  codeAny (model P w) A (.call (.ref f) args) (CR CX outer P w H s Q E) s
theorem Env0.make {P : Program} {w : World} {K : W.Frag} {mg : Str -> Option Value} {base : Heap} {A : Around} {outer : List Env} {s : Shared} {H : Hp} (e : Env0 P w K mg base A outer s H) (C : Addr) (us : List Value) (kw : List (Str × Value)) :
 Env0 P w K mg base (A.under (.builtin "type.__call__" ⟨.ref C :: us, kw⟩)) outer s H := ⟨by first | exact e.frames | (simpa [Around.under, Code.envs, Code.isFrame, pushEnvs] using e.frames), e.mod, e.bs, e.bsz, e.funs, e.frf, e.hok, e.bare⟩
section
variable {X : Cx} {pins : List (Addr × Obj)} {σ : St} {H : Hp} {s s' : Shared}
theorem Inv.env0 (I : Inv X pins σ H s) : Env0 X.prog X.w X.K X.mg X.base X.A X.stack s H :=
 ⟨I.ok.frames, I.ok.mod, I.bs, Nat.le_trans I.ok.bsz I.sz, I.stack, I.stkFree, I.hok, I.bare⟩
theorem Inv.after {Q : VK} {u : Value} (I : Inv X pins σ H s) (h : CE X.stack X.prog X.w H s Q u s') : EP X pins σ Q u s' := by
 obtain ⟨v, H', os, bare, un, hok, r, q⟩ := h
 obtain ⟨hh, g, d, t, os'⟩ := s'
 obtain rfl : os' = s.os := os
 exact ⟨v, H', I.call (h' := hh) (g' := g) (d' := d) (t' := t) (ch := []) un hok bare (fun b z => absurd z (by simp)), r, q⟩
end
def Binds (K : W.Frag) (fd : FuncData) (ps : List Str) (ds : List Value) : Prop :=
 ∀ (s : Shared) (us : List Value), K.In s.heap -> (us ++ ds).length = ps.length -> BindsTo s fd ⟨us, []⟩ (ps.zip (us ++ ds))
theorem Binds.all {K : W.Frag} {fd : FuncData} {ps : List Str} (h : ∀ us : List Value, us.length = ps.length -> bindArgs fd ⟨us, []⟩ = pure (ps.zip us)) : Binds K fd ps [] := fun s us _ hl => by
 rw [List.append_nil] at hl ⊢
 exact .of_eq (h us hl)
section
variable {X : Cx} {CX : CXT} {k : Nat} {f C : Addr} {fd : FuncData} {ps : List Str} {sp : Sp} {dvs : List V} {ds : List Value} {E : XK} {x m : Str} {p pos apos : Pos} {e o : Expr} {es : List Expr} {ta : TE} {t : TA}
structure Mk (K : W.Frag) (C f : Addr) : Prop where
 makes : PySem.W.makesIn K C = true
 init : PySem.W.findIn K (.ref C) "__init__" = some (some (.ref f))
 fn : PySem.W.isFn K (.ref f) = true
 kp : PySem.W.keepIn K (.ref C) = true
end
section
variable {X : Cx} {CX : CXT} {k : Nat} {f C : Addr} {fd : FuncData} {ps ks : List Str} {sp : Sp} {E : XK} {x m : Str} {p pos apos kpos : Pos} {e o : Expr} {es : List Expr} {kws : List Keyword} {te ta : TE} {t tk : TA} {nm : Option Str}
variable {g : List Value -> List Value -> List Value} {gV : List V -> List V -> List V}
end
structure aM (N P : List Str) (sc : Scope) : Prop where
 kind : sc.kind = .function
 co : sc.isCoroutine = false
 gen : sc.isGenerator = false
 nd : N.Nodup
 pre : N.take P.length = P
 par : ∀ x ∈ P, sc.names.lookup x = some .local \/ sc.names.lookup x = some .cell
 nofree : ∀ y ∈ sc.names, y.2 ≠ .free
theorem vc {kindOf : Str -> Option NameKind} {x : Str} : ∀ {binds : List (Str × Value)} {m : Str -> Option Value}, (∀ v, (x, v) ∉ binds) -> bindL kindOf binds m x = m x
 | [], _, _ => rfl
 | (n, v) :: r, m, h => by
  unfold bindL
  rw [vc fun w hw => h w (List.mem_cons_of_mem _ hw)]
  split
  ·have : x ≠ n := by rintro rfl; exact h v List.mem_cons_self
   simp [this]
  ·rfl
theorem uq {kindOf : Str -> Option NameKind} {x : Str} : ∀ {binds : List (Str × Value)} {m : Str -> Option Value}, (∀ v, (x, v) ∉ binds) -> bindC kindOf binds m x = m x
 | [], _, _ => rfl
 | (n, v) :: r, m, h => by
  unfold bindC
  rw [uq fun w hw => h w (List.mem_cons_of_mem _ hw)]
  split
  ·rfl
  ·have : x ≠ n := by rintro rfl; exact h v List.mem_cons_self
   simp [this]
theorem vf {kindOf : Str -> Option NameKind} {x : Str} {v : Value} : ∀ {P : List Str} {vs : List Value} {i : Nat} {m : Str -> Option Value}, P.Nodup -> P[i]? = some x -> vs[i]? = some v -> kindOf x = some .local ->
 bindL kindOf (P.zip vs) m x = some v
 | [], _, _, _, _, h, _, _ => by simp at h
 | _ :: _, [], _, _, _, _, h, _ => by simp at h
 | p :: P, w :: vs, 0, m, nd, h1, h2, hk => by
  simp at h1 h2; subst h1; subst h2
  show bindL kindOf ((p, w) :: P.zip vs) m p = _
  unfold bindL
  rw [vc fun v hv => (List.nodup_cons.mp nd).1 (List.of_mem_zip hv).1, if_pos hk]
  simp
 | p :: P, w :: vs, i + 1, m, nd, h1, h2, hk => by
  show bindL kindOf ((p, w) :: P.zip vs) m x = _
  unfold bindL
  exact vf (i := i) (List.nodup_cons.mp nd).2 (by simpa using h1) (by simpa using h2) hk
theorem uP {kindOf : Str -> Option NameKind} {x : Str} {v : Value} : ∀ {P : List Str} {vs : List Value} {i : Nat} {m : Str -> Option Value}, P.Nodup -> P[i]? = some x -> vs[i]? = some v -> kindOf x ≠ some .local ->
 bindC kindOf (P.zip vs) m x = some v
 | [], _, _, _, _, h, _, _ => by simp at h
 | _ :: _, [], _, _, _, _, h, _ => by simp at h
 | p :: P, w :: vs, 0, m, nd, h1, h2, hk => by
  simp at h1 h2; subst h1; subst h2
  show bindC kindOf ((p, w) :: P.zip vs) m p = _
  unfold bindC
  rw [uq fun v hv => (List.nodup_cons.mp nd).1 (List.of_mem_zip hv).1, if_neg hk]
  simp
 | p :: P, w :: vs, i + 1, m, nd, h1, h2, hk => by
  show bindC kindOf ((p, w) :: P.zip vs) m x = _
  unfold bindC
  exact uP (i := i) (List.nodup_cons.mp nd).2 (by simpa using h1) (by simpa using h2) hk
def start (N : List Str) (vs : List V) : St := vs.map some ++ List.replicate (N.length - vs.length) none
def fz (CX : CXT) (P : Program) (w : World) (K : W.Frag) (mg : Str -> Option Value) (base : Heap) (N : List Str) (qual : Str) (scope : Scope) (f : Addr) (cd : Value) (A : Around) (outer : List Env) (s : Shared) (H : Hp) (E : XK) : Cx where
 prog := P
 w := w
 K := K
 mg := mg
 base := base
 A := A.deeper (envOfC qual scope s.heap.objs.size f cd)
 N := N
 s₀ := s
 H₀ := H
 env := envOfC qual scope s.heap.objs.size f cd
 outer := outer
 stack := envOfC qual scope s.heap.objs.size f cd :: outer
 ex := []
 calm := true
 fn := fun _ => true
 pn := []
 xe := fun e s' => wpAny (model P w) (A.deeper (envOfC qual scope s.heap.objs.size f cd)) (leaving (envOfC qual scope s.heap.objs.size f cd) e) (fun _ s'' => CX outer H s E e s'') (fun e' s'' => CX outer H s E e' s'') s'
theorem yr {sc : Scope} {n : Nat} {x : Str} (h : sc.names.lookup x = some .cell) : ∃ c, (cellsFrom n sc.names []).lookup x = some c := by
 have q := PySem.W.cellsFrom_some sc.names n [] (.inl h)
 exact Option.isSome_iff_exists.mp q
theorem uF {CX : CXT} {P : Program} {w : World} {K : W.Frag} {mg : Str -> Option Value} {base : Heap} {N ps : List Str} {qual : Str} {scope : Scope} {f : Addr} {cd : Value} {A : Around} {outer : List Env} {s s1 : Shared} {H : Hp} {E : XK} {us : List Value} {vs : List V}
 (S : aM N ps scope) (hd : A.handled = none) (e0 : Env0 P w K mg base A outer s H) (hl : vs.length = ps.length) (r : Vals vs us)
 (x : InCallC s s.heap.objs.size (bindL (envOfC qual scope s.heap.objs.size f cd).kindOf (ps.zip us) fun _ => none) (cellsFrom (s.heap.objs.size + 1) scope.names []) (bindC (envOfC qual scope s.heap.objs.size f cd).kindOf (ps.zip us) fun _ => none) s1) :
 Inv (fz CX P w K mg base N qual scope f cd A outer s H E) [] (start N vs) H s1 := by
 have hpl : ps.length <= N.length := by have := congrArg List.length S.pre; rw [List.length_take] at this; omega
 obtain ⟨h1, tk, rfl, hk⟩ := x.done
 have noA : ∀ b : Addr, b ∉ (fz CX P w K mg base N qual scope f cd A outer s H E).ex := fun b z => absurd (show b ∈ ([] : List Addr) from z) (by simp)
 refine ⟨⟨e0.mod, S.kind, rfl, rfl, Nat.le_refl _, fun y z c h1 h2 => ?_, fun y hy => ?_, fun y c _ h => ?_, fun _ => hd, Around.frames_deeper e0.frames, .inr ⟨rfl, rfl⟩, fun b z => absurd z (noA b), e0.bs, e0.bsz, fun b _ _ => noA b, fun b z => absurd z (noA b), e0.funs, e0.frf⟩,
  rfl, e0.bare, Un.kept hk, ⟨_, x.toInCall.ns, fun i y v h1 h2 h3 => ?_⟩, fun y c h => ⟨_, x.cell y c h⟩, e0.hok.fresh (Nat.le_refl _), fun y c h => ?_, fun p hp => absurd (show p ∈ ([] : List (Addr × Obj)) from hp) (by simp), e0.hok.kept hk, ?_⟩
 ·exact name_of_addr x.apart (PySem.mem_of_lookup h1) (PySem.mem_of_lookup h2)
 ·have hy : scope.names.lookup y = some .cell \/ scope.names.lookup y = some .free := hy
  rcases hy with hy | hy
  ·exact yr hy
  ·exact absurd rfl (S.nofree _ (PySem.mem_of_lookup hy))
 ·exact Nat.le_of_lt (x.above y c (PySem.mem_of_lookup h))
 ·have hi : i < vs.length := by
   unfold start at h2
   by_cases hi : i < vs.length
   ·exact hi
   ·rw [List.getElem?_append_right (by simpa using hi)] at h2
    rw [List.getElem?_replicate] at h2
    split at h2 <;> cases h2
  have ha : vs[i]? = some v := by
   unfold start at h2
   rw [List.getElem?_append_left (by simpa using hi), List.getElem?_map] at h2
   cases e : vs[i]? with
   | none => rw [e] at h2; cases h2
   | some a => rw [e] at h2; cases h2; rfl
  obtain ⟨u, hu, rv⟩ := r.get ha
  have hp : ps[i]? = some y := by
   rw [<- S.pre, List.getElem?_take_of_lt (by omega)]; exact h1
  have ndP : ps.Nodup := by rw [<- S.pre]; exact S.nd.sublist (List.take_sublist _ _)
  refine ⟨u, rv, ?_⟩
  rcases S.par y (List.mem_of_getElem? hp) with k | k
  ·exact .inl ⟨k, vf ndP hp hu k⟩
  ·obtain ⟨c, e⟩ := yr (n := s.heap.objs.size + 1) k
   refine .inr ⟨.inl k, c, e, ?_⟩
   have q := x.cell y c e
   rw [uP ndP hp hu (by show scope.names.lookup y ≠ _; rw [k]; decide)] at q
   exact q
 ·exact e0.hok.fresh (Nat.le_of_lt (x.above y c (PySem.mem_of_lookup h)))
 ·unfold start
  show _ = N.length
  rw [List.length_append, List.length_map, List.length_replicate]
  omega
theorem Hf {CX : CXT} {P : Program} {w : World} {K : W.Frag} {mg : Str -> Option Value} {base : Heap} {k : Nat} {f : Addr} {name qual : Str} {params : Arguments} {body : List Stmt} {scope : Scope} {dV kV doc pm cdv ct oc : Value} {an od : Option Addr}
 {osl : Array (Option Value)} {N ps : List Str} {sp : Sp} (lk : K.lookup f = some ⟨oc, od, .func (PySem.W.fnOf name qual params body scope dV kV doc pm an cdv ct), osl⟩) (hcd : PySem.W.codeIn K cdv qual = true) (S : aM N ps scope)
 (len : ∀ vs H Q E, sp vs H Q E -> vs.length = ps.length)
 (hbody : ∀ (A : Around) (outer : List Env) (s : Shared) (H : Hp) (vs : List V) (Q : VK) (E : XK), Room k (A.deeper (envOfC qual scope s.heap.objs.size f cdv)) -> sp vs H Q E ->
  ∃ t, PSs (fz CX P w K mg base N qual scope f cdv A outer s H E) body t /\ t { nx := fun _ H' => Q .non H', rt := Q } (start N vs) H) :
 bQ P w K mg base CX (k + 1) f (PySem.W.fnOf name qual params body scope dV kV doc pm an cdv ct) ps sp := by
 refine ⟨len, fun A outer s H args us vs Q E hr e0 hb r hsp => ?_⟩
 have hl := len _ _ _ _ hsp
 have KX : K.In s.heap := e0.mod.kin.keeps fun b o e => (e0.bs b o e).1
 have lim : s.heap.NoLimit := e0.mod.nolimit.keeps fun b o e => (e0.bs b o e).1
 have hkind : ∀ y ∈ ps.zip us, scope.names.lookup y.1 = some .local \/ (scope.names.lookup y.1 = some .cell /\ ((cellsFrom (s.heap.objs.size + 1) scope.names []).lookup y.1).isSome = true) := fun ⟨n, v⟩ hy => by
  rcases S.par n (List.of_mem_zip hy).1 with q | q
  ·exact .inl q
  ·exact .inr ⟨q, PySem.W.cellsFrom_some _ _ _ (.inl q)⟩
 refine codeAny_call_function hr.depth (KX _ _ lk) rfl S.co S.gen rfl (PySem.W.codeRec_of KX hcd) (hb _ _ _ _ ?_)
 refine wpAny_newFunctionEnv_cells S.kind hkind fun env he s1 x => ?_
 subst he
 refine ⟨lim.keeps x.toInCall.keep, codeAny_func ?_⟩
 obtain ⟨t, ht, hq⟩ := hbody A outer s H vs Q E (hr.deeper _) hsp
 have I : Inv (fz CX P w K mg base N qual scope f cdv A outer s H E) [] (start N vs) H s1 := uF S hr.hd e0 hl r x
 refine wpAny_mono (ht [] s1 (start N vs) H _ I hq) (fun fl s' hs => ?_) fun e s' hs => hs
 have fin : ∀ {σ' : St} {H' : Hp} {v : V} {u : Value}, Inv (fz CX P w K mg base N qual scope f cdv A outer s H E) [] σ' H' s' -> RelV v u -> Q v H' -> CE outer P w H s Q u s' :=
  fun {σ' H' v u} J rv q => ⟨v, H', J.os, J.bare, J.base, J.hok, rv, q⟩
 cases fl with
 | ret u =>
  obtain ⟨v, σ', H', J, rv, q⟩ := hs
  exact fin J rv q
 | next =>
  obtain ⟨σ', H', J, q⟩ := hs
  exact fin (v := V.non) (u := Value.none) J rfl q
 | brk =>
  obtain ⟨_, _, _, q⟩ := hs
  exact False.elim q
 | cont =>
  obtain ⟨_, _, _, q⟩ := hs
  exact False.elim q
end L2
namespace L2
open PySem PySem.Spec PyProof.Rows
section
variable {X : Cx} {x : Str} {p pos : Pos} {e : Expr} {es : List Expr} {t : TA} {id T : String} {r : List V -> Hp -> VK -> Prop}
def tCB (r : List V -> Hp -> VK -> Prop) (t : TA) : TE := fun σ H Q => t σ H fun vs H1 => r vs H1 Q
theorem aG (hc : CallR X (.builtin id) r) (hg : Gl X x) (hm : X.mg x = none) (hv : bootBuiltins x = some (.builtin id)) (ha : PA X (e :: es) t) (hn : x ≠ "__name__" := by decide) (hdb : (x == ("__debug__" : Str)) = false := by decide)
 (he : starEach (e :: es) X.env = (false, eval e X.env) :: starEach es X.env := by rfl) (hpl : (backTo pos (starEach es X.env)).any (·.1) = false := by rfl) : PE X (.Call (.Name x p) (e :: es) [] pos) (tCB r t) := by
 intro pins s σ H Q I h
 refine wpAny_Call_Name_kw (lJ I hg hm hv ?_ hn hdb)
 exact PyProof.Rows.callWith_builtin1 (thn (ha pos pins s σ H _ I h) fun us s1 ⟨vs, H1, I1, r1, q1⟩ => hc pins s1 σ H1 vs us Q I1 r1 q1) he hpl
theorem gS (hc : CallR X (.type T) r) (hg : Gl X x) (hm : X.mg x = none) (hv : bootBuiltins x = some (.type T)) (ha : PA X (e :: es) t) (hn : x ≠ "__name__" := by decide) (hdb : (x == ("__debug__" : Str)) = false := by decide)
 (he : starEach (e :: es) X.env = (false, eval e X.env) :: starEach es X.env := by rfl) (hpl : (backTo pos (starEach es X.env)).any (·.1) = false := by rfl) : PE X (.Call (.Name x p) (e :: es) [] pos) (tCB r t) := by
 intro pins s σ H Q I h
 refine wpAny_Call_Name_kw (lJ I hg hm hv ?_ hn hdb)
 exact PyProof.Rows.callWith_type1 (thn (ha pos pins s σ H _ I h) fun us s1 ⟨vs, H1, I1, r1, q1⟩ => hc pins s1 σ H1 vs us Q I1 r1 q1) he hpl
end
end L2
namespace HT
open PySem PyProof.Rows
section
open PySem.SeqAt
open PySem.AutoSeq1 (wpAny_loadPart')
open PySem.MeetsSeq PySem.MeetsSeq2 PySem.MeetsSeq3
end
section
variable {prog : Program} {w : World} {A : Around} {E : Value -> Shared -> Prop} {s : Shared}
def sIx (n d : Nat) : Option Int -> Nat
 | none => d
 | some v => if v < 0 then (v + (n : Int)).toNat else min v.toNat n
theorem sIx_none (n d : Nat) : sIx n d none = d := rfl
theorem sIx_nat (n d k : Nat) : sIx n d (some (k : Int)) = min k n := by
 show (if (k : Int) < 0 then ((k : Int) + (n : Int)).toNat else min (k : Int).toNat n) = min k n
 rw [if_neg (by omega), Int.toNat_natCast]
end
end HT
namespace L2
open PySem PySem.Spec PyProof.Rows
abbrev TO := St -> Hp -> (Option Int -> Hp -> Prop) -> Prop
def PO (X : Cx) (e : Option Expr) (t : TO) : Prop :=
 ∀ (pins : List (Addr × Obj)) (s : Shared) (σ : St) (H : Hp) (Q : Option Int -> Hp -> Prop), Inv X pins σ H s -> t σ H Q ->
  wpAny (model X.prog X.w) X.A (evalPart e X.env) (fun u s' => ∃ o H', Inv X pins σ H' s' /\ IsPart u o /\ Q o H') X.xe s
def zy : TO := fun _ H Q => Q none H
def EL (t : TE) : TO := fun σ H Q => t σ H fun x H1 => ∃ i, x = .int i /\ Q (some i) H1
section
variable {X : Cx} {e : Expr} {te : TE} {lo hi : Option Expr} {tl th : TO} {pos p2 : Pos}
theorem vQ : PO X none zy := by
 intro pins s σ H Q I h
 rw [evalPart_none]
 exact wpAny_pure ⟨none, H, I, .none, h⟩
theorem vS (h : PE X e te) : PO X (some e) (EL te) := by
 intro pins s σ H Q I hw
 rw [evalPart_some]
 refine thn (h pins s σ H _ I hw) fun u s1 ⟨x, H1, I1, r1, q1⟩ => ?_
 obtain ⟨i, rfl, q⟩ := q1
 obtain ⟨t, rfl⟩ := r1
 exact ⟨some i, H1, I1, .int i t, q⟩
def SlR (X : Cx) (r : V -> Option Int -> Option Int -> Hp -> VK -> Prop) : Prop :=
 ∀ (pins : List (Addr × Obj)) (s : Shared) (σ : St) (H : Hp) (x : V) (v vl vu : Value) (lo hi : Option Int) (sl : Addr) (Q : VK), Inv X pins σ H s -> RelV x v -> s.heap.IsSliceOf sl vl vu .none -> IsPart vl lo -> IsPart vu hi -> r x lo hi H Q ->
  ∃ T id, typeLookup (.type T) "__getitem__" = pure (some (.builtin id)) /\ s.TypeIs v T /\ wpAny (model X.prog X.w) X.A (getItem v (.ref sl)) (EP X pins σ Q) X.xe s
def tSl (r : V -> Option Int -> Option Int -> Hp -> VK -> Prop) (te : TE) (tl th : TO) : TE := fun σ H Q => te σ H fun x H1 => tl σ H1 fun l H2 => th σ H2 fun u H3 => r x l u H3 Q
theorem sD {r : V -> Option Int -> Option Int -> Hp -> VK -> Prop} (hr : SlR X r) (he : PE X e te) (hl : PO X lo tl) (hu : PO X hi th) : PE X (.Subscript e (.Slice lo hi none p2) pos) (tSl r te tl th) := by
 intro pins s σ H Q I h
 refine Subscript_ (thn (he pins s σ H _ I h) fun v s1 ⟨x, H1, I1, r1, q1⟩ => ?_)
 refine wpAny_Slice (thn (hl pins s1 σ H1 _ I1 q1) fun vl s2 ⟨l, H2, I2, pl, q2⟩ => thn (hu pins s2 σ H2 _ I2 q2) fun vu s3 ⟨u, H3, I3, pu, q3⟩ => ?_)
 rw [evalPart_none]
 refine wpAny_pure ?_
 have I4 : Inv X pins σ H3 { s3 with heap := s3.heap.push { cls := .type "slice", data := .fields #[vl, vu, .none] } } := I3.kept (t' := s3.toks) fun b ob q => Heap.get?_push_of_some _ q
 obtain ⟨T, id, hT, ht, hg⟩ := hr pins { s3 with heap := s3.heap.push { cls := .type "slice", data := .fields #[vl, vu, .none] } } σ H3 x v vl vu l u s3.heap.objs.size Q I4 r1 (Heap.IsSliceOf.new ..) pl pu q3
 show wpAny (model X.prog X.w) X.A (subscriptTail e (.Slice lo hi none p2) v (.ref s3.heap.objs.size)) (EP X pins σ Q) X.xe { s3 with heap := s3.heap.push { cls := .type "slice", data := .fields #[vl, vu, .none] } }
 exact tail_any (ops := [.ref s3.heap.objs.size, v]) ht hT hg (by with_unfolding_all rfl)
def rz (xs : List V) (lo hi : Option Int) : List V := (xs.drop (HT.sIx xs.length 0 lo)).take (HT.sIx xs.length xs.length hi - HT.sIx xs.length 0 lo)
theorem wO (xs : List V) (lo hi : Option Int) : (rz xs lo hi).length <= xs.length := by
 unfold rz
 rw [List.length_take, List.length_drop]
 omega
end
end L2
namespace L2
open PySem PySem.Spec PyProof.Rows
def ixN (n : Nat) (i : Int) : Option Nat := if 0 <= i then (if i < n then some i.toNat else none) else if -(n : Int) <= i then some (i + n).toNat else none
def atI {α : Type} (xs : List α) (i : Int) : Option α := (ixN xs.length i).bind fun j => xs[j]?
theorem zz {n : Nat} {i : Int} {j : Nat} (h : ixN n i = some j) : seqIndex? i n = some j /\ j < n /\ -(n : Int) <= i /\ i < n := by
 unfold ixN at h
 by_cases h0 : 0 <= i
 ·rw [if_pos h0] at h
  by_cases h1 : i < n
  ·rw [if_pos h1] at h
   have e : i.toNat = j := Option.some.inj h
   exact ⟨by rw [seqIndex_of h0 h1, e], by omega, by omega, h1⟩
  ·rw [if_neg h1] at h; cases h
 ·rw [if_neg h0] at h
  by_cases h1 : -(n : Int) <= i
  ·rw [if_pos h1] at h
   have e : (i + n).toNat = j := Option.some.inj h
   exact ⟨by rw [seqIndex_neg (by omega) h1, e], by omega, h1, by omega⟩
  ·rw [if_neg h1] at h; cases h
theorem vC {α : Type} {xs : List α} {i : Int} {v : α} (h : atI xs i = some v) : ∃ j, seqIndex? i xs.length = some j /\ xs[j]? = some v /\ j < xs.length /\ -(xs.length : Int) <= i /\ i < xs.length := by
 unfold atI at h
 cases e : ixN xs.length i with
 | none => rw [e] at h; cases h
 | some j =>
  rw [e] at h
  obtain ⟨h1, h2, h3, h4⟩ := zz e
  exact ⟨j, h1, h, h2, h3, h4⟩
theorem aE {α : Type} {xs : List α} {j : Nat} {v : α} (h : xs[j]? = some v) : atI xs (j : Int) = some v := by
 have hj : j < xs.length := (List.getElem?_eq_some_iff.mp h).1
 have e : ixN xs.length (j : Int) = some j := by
  unfold ixN
  rw [if_pos (by omega), if_pos (by omega)]; simp
 unfold atI; rw [e]; exact h
theorem pC {α : Type} (xs : List α) (v : α) : atI (xs ++ [v]) (-1) = some v := by
 have hl : (xs ++ [v]).length = xs.length + 1 := by simp
 have e : ixN (xs ++ [v]).length (-1) = some xs.length := by
  unfold ixN
  rw [hl, if_neg (by decide), if_pos (by omega)]
  congr 1
  omega
 unfold atI
 rw [e]
 show (xs ++ [v])[xs.length]? = some v
 simp
def zT (b : Expr) : Prop := ∀ o i, subscripted b false o i = operate [o, i] (getItem o i)
def IxR (X : Cx) (r : R2) : Prop :=
 ∀ (value slice : Expr) (pins : List (Addr × Obj)) (s : Shared) (σ : St) (H : Hp) (x y : V) (v u : Value) (Q : VK), Inv X pins σ H s -> RelV x v -> RelV y u -> r x y H Q ->
  subscripted slice false v u = operate [v, u] (getItem v u) -> wpAny (model X.prog X.w) X.A (subscriptTail value slice v u) (EP X pins σ Q) X.xe s
def MtR (X : Cx) (id : String) (r : V -> List V -> Hp -> VK -> Prop) : Prop :=
 ∀ (pins : List (Addr × Obj)) (s : Shared) (σ : St) (H : Hp) (x : V) (xs : List V) (v : Value) (us : List Value) (Q : VK), Inv X pins σ H s -> RelV x v -> Vals xs us -> r x xs H Q ->
  wpAny (model X.prog X.w) X.A (call (.builtin id) (v :: us)) (EP X pins σ Q) X.xe s
section
variable {X : Cx} {a b : Expr} {ta tb : TE} {pos : Pos}
theorem IxR.or {r r' : R2} (h : IxR X r) (h' : IxR X r') : IxR X (fun x y H Q => r x y H Q \/ r' x y H Q) := by
 intro value slice pins s σ H x y v u Q I rx ry q hs
 rcases q with q | q
 ·exact h value slice pins s σ H x y v u Q I rx ry q hs
 ·exact h' value slice pins s σ H x y v u Q I rx ry q hs
theorem aK {r : R2} (hr : IxR X r) (ha : PE X a ta) (hb : PE X b tb) (hs : zT b) : PE X (.Subscript a b pos) (tOp r ta tb) := by
 intro pins s σ H Q I h
 exact Subscript_ (Ga ha hb I h fun v u s2 x y H2 I2 rx ry q => hr a b pins s2 σ H2 x y v u Q I2 rx ry q (hs _ _))
def GJ (K : W.Frag) : R2 := fun x y H Q => ∃ p xs i v, x = .ref p /\ y = .int i /\ SqL K H p xs /\ atI xs i = some v /\ Q v H
def GS (K : W.Frag) : R2 := fun x y H Q => ∃ p xs i v, x = .ref p /\ y = .int i /\ SqT K H p xs /\ atI xs i = some v /\ Q v H
def GR : R2 := fun x y H Q => ∃ z i c, x = .str z /\ y = .int i /\ z.length <= sizeLine /\ atI z.cps.toList i = some c /\ Q (.str ⟨#[c]⟩) H
theorem z_ : IxR X (GJ X.K) := by
 intro value slice pins s σ H x y v u Q I rx ry h hs
 obtain ⟨p, xs, i, z, rfl, rfl, hq, he, q⟩ := h
 cases rx
 obtain ⟨t, rfl⟩ := ry
 obtain ⟨its, r, pl, hz⟩ := I.list hq
 obtain ⟨j, h1, h2, h3, h4, h5⟩ := vC he
 obtain ⟨w, ew, rw'⟩ := r.get h2
 have hl := r.length
 have hn := qe
 have fin : EP X pins σ Q w s := ⟨z, H, I, rw', q⟩
 by_cases h0 : 0 <= i
 ·have hj : i.toNat = j := by
   rw [seqIndex_of h0 h5] at h1
   exact Option.some.inj h1
  exact item_listR pl.isList h0 (by omega) (by rw [hj]; simpa using ew) fin hs
 ·have hj : (i + (its.toArray.size : Int)).toNat = j := by
   rw [seqIndex_neg (by omega) h4] at h1
   rw [List.size_toArray, <- hl]
   exact Option.some.inj h1
  exact subscriptTail_builtinR (x := w) pl.isList.typeIs slot_list_getitem.lookup
   (wpAny_getItem_list_neg (Q := fun r s' => r = w /\ EP X pins σ Q r s') pl.isList (by omega) (by rw [List.size_toArray] <;> omega) (by omega) (by rw [hj]; simpa using ew) ⟨rfl, fin⟩) hs
theorem Gj : IxR X (GS X.K) := by
 intro value slice pins s σ H x y v u Q I rx ry h hs
 obtain ⟨p, xs, i, z, rfl, rfl, hq, he, q⟩ := h
 cases rx
 obtain ⟨t, rfl⟩ := ry
 obtain ⟨its, r, pl, hz⟩ := I.tuple hq
 obtain ⟨j, h1, h2, h3, h4, h5⟩ := vC he
 obtain ⟨w, ew, rw'⟩ := r.get h2
 have hl := r.length
 have hn := qe
 have fin : EP X pins σ Q w s := ⟨z, H, I, rw', q⟩
 exact subscriptTail_builtinR (x := w) pl.typeIs slot_tuple_getitem.lookup
  (getItem_tuple (j := j) (Q := fun r s' => r = w /\ EP X pins σ Q r s') pl (by omega) (by omega) (by rw [List.size_toArray, <- hl]; exact h1) (by simpa using ew) ⟨rfl, fin⟩) hs
theorem EX : IxR X GR := by
 intro value slice pins s σ H x y v u Q I rx ry h hs
 obtain ⟨z, i, c, rfl, rfl, hz, he, q⟩ := h
 obtain ⟨t, rfl⟩ := rx
 obtain ⟨t', rfl⟩ := ry
 obtain ⟨j, h1, h2, h3, h4, h5⟩ := vC he
 have hl : z.cps.toList.length = z.length := by simp [Str.length]
 rw [hl] at h1 h4 h5
 have hn := qe
 exact tail_any (typeIs_str s z t) slot_str_getitem.lookup (getItem_str (c := c) (by
  have e1 : decide (i < -(2 ^ 63 : Int)) = false := decide_eq_false (by omega)
  have e2 : decide (i ≥ 2 ^ 63) = false := decide_eq_false (by omega)
  rw [e1, e2, Bool.or_false]) (by rw [h1]; simpa using h2) ⟨.str ⟨#[c]⟩, H, I.tok _, ⟨_, rfl⟩, q⟩) hs
def rIx (K : W.Frag) : R2 := fun x y H Q => GJ K x y H Q \/ GS K x y H Q \/ GR x y H Q
theorem Fo : IxR X (rIx X.K) := z_.or (Gj.or EX)
theorem yP (its : List Value) (n j : Nat) (u : Value) : Obj.mapSeq (·.setIfInBounds j u) { cls := .type "list", data := .seq its.toArray n } = { cls := .type "list", data := .seq (its.set j u).toArray n } := by
 simp [Obj.mapSeq]
theorem Inv.lst {pins : List (Addr × Obj)} {σ : St} {H : Hp} {s : Shared} {p : Addr} {xs : List V} (I : Inv X pins σ H s) (h : H p = some (.lst xs)) :
 ∃ (its : List Value) (n : Nat), Vals xs its /\ s.heap.get? p = some { cls := .type "list", data := .seq its.toArray n } /\ xs.length <= sizeLine := by
 obtain ⟨z, its, n, r, e⟩ := I.hok p _ h
 exact ⟨its, n, r, e, z⟩
theorem Inv.lstUpd {pins : List (Addr × Obj)} {σ : St} {H : Hp} {s : Shared} {p : Addr} {xs ys : List V} {its its' : List Value} {n n' : Nat} {f : Obj -> Obj} (I : Inv X pins σ H s) (h : H p = some (.lst xs))
 (ho : s.heap.get? p = some { cls := .type "list", data := .seq its.toArray n }) (hf : f { cls := .type "list", data := .seq its.toArray n } = { cls := .type "list", data := .seq its'.toArray n' }) (r : Vals ys its') (hz : ys.length <= sizeLine) (t : Nat) :
 Inv X pins σ (upd H p (.lst ys)) { s with heap := s.heap.update p f, toks := t } := by
 have e : (s.heap.update p f).get? p = some { cls := .type "list", data := .seq its'.toArray n' } := by
  rw [Heap.get?_update_self f ho (by rw [hf] <;> rfl), hf]
 refine I.write (x := p) (e := p) (by rw [h]; trivial) (.inl rfl) (fun b u hb q => (Heap.get?_update_other _ _ (Ne.symm hb)).trans q) ⟨_, e⟩ ?_
 exact ⟨hz, its', n', r, e⟩
def EU : V -> V -> V -> Hp -> (Hp -> Prop) -> Prop := fun o i v H Q => ∃ p xs k j, o = .ref p /\ i = .int k /\ H p = some (.lst xs) /\ ixN xs.length k = some j /\ Q (upd H p (.lst (xs.set j v)))
theorem oU : Gu X EU := by
 intro pins s σ H o i v ov iv u Q I ro ri rv h
 obtain ⟨p, xs, k, j, rfl, rfl, hp, hj, q⟩ := h
 cases ro
 obtain ⟨t, rfl⟩ := ri
 obtain ⟨its, n, r, ho, hz⟩ := I.lst hp
 obtain ⟨h1, h2, h3, h4⟩ := zz hj
 have hl := r.length
 have hn := qe
 have I' : Inv X pins σ (upd H p (.lst (xs.set j v))) { s with heap := s.heap.update p (Obj.mapSeq (·.setIfInBounds j u)) } :=
  I.lstUpd hp ho (yP its n j u) (r.set rv j) (by rw [List.length_set]; exact hz) s.toks
 by_cases h0 : 0 <= k
 ·have hk : k.toNat = j := by
   rw [seqIndex_of h0 h4] at h1
   exact Option.some.inj h1
  exact PySem.W.ki_setAt ho h0 (by omega) (by rw [List.size_toArray, <- hl]; exact h4) (by rw [hk]; exact ⟨_, I', q⟩)
 ·have hk : (k + (its.toArray.size : Int)).toNat = j := by
   rw [seqIndex_neg (by omega) h3] at h1
   rw [List.size_toArray, <- hl]
   exact Option.some.inj h1
  exact PySem.W.ki_setBack ho (by omega) (by rw [List.size_toArray, <- hl]; exact h3) (by omega) (by rw [hk]; exact ⟨_, I', q⟩)
theorem vo (lo hi : Option Int) (n : Nat) : (sliceBounds lo hi none n).1 = ((HT.sIx n 0 lo : Nat) : Int) /\ (sliceBounds lo hi none n).2.1 = ((HT.sIx n n hi : Nat) : Int) /\ (sliceBounds lo hi none n).2.2 = 1 := by
 refine ⟨?_, ?_, rfl⟩
 ·cases lo with
  | none => simp [sliceBounds, HT.sIx]
  | some i =>
   simp only [sliceBounds, HT.sIx, Option.getD_none, show (1 : Int) > 0 by decide, if_true]
   by_cases h : i < 0
   ·simp only [h, if_true] <;> omega
   ·simp only [h, if_false] <;> omega
 ·cases hi with
  | none => simp [sliceBounds, HT.sIx]
  | some i =>
   simp only [sliceBounds, HT.sIx, Option.getD_none, show (1 : Int) > 0 by decide, if_true]
   by_cases h : i < 0
   ·simp only [h, if_true] <;> omega
   ·simp only [h, if_false] <;> omega
theorem tU (its : List Value) (lo hi : Option Int) : slicePick its.toArray lo hi none = ((its.drop (HT.sIx its.length 0 lo)).take (HT.sIx its.length its.length hi - HT.sIx its.length 0 lo)).toArray := by
 obtain ⟨h1, h2, h3⟩ := vo lo hi its.toArray.size
 unfold slicePick
 rw [h1, h2, h3]
 simp only [sliceRange_one, pick_run, List.size_toArray] <;> rfl
def Hb (K : W.Frag) : V -> Option Int -> Option Int -> Hp -> VK -> Prop := fun x lo hi H Q => ∃ a xs, x = .ref a /\ SqL K H a xs /\ ∀ p, H p = none -> Q (.ref p) (upd H p (.lst (rz xs lo hi)))
theorem Dt : SlR X (Hb X.K) := by
 intro pins s σ H x v vl vu lo hi sl Q I rx hs pl pu h
 obtain ⟨a, xs, rfl, hx, q⟩ := h
 cases rx
 obtain ⟨its, r, ht, hz⟩ := I.list hx
 have hlen := r.length
 refine ⟨"list", _, slot_list_getitem.lookup, ht.isList.typeIs, ?_⟩
 refine wpAny_getItem_list_slice ht.isList hs pl pu .none (by simp) ?_ (by rw [List.size_toArray] <;> omega)
 rw [tU, <- hlen]
 refine ⟨.ref s.heap.objs.size, _, I.laid (t' := s.toks) (o := .lst (rz xs lo hi)) (fun b ob q => Heap.get?_push_of_some _ q) (Nat.le_refl _) ?_, rfl, q _ (I.hok.fresh (Nat.le_refl _))⟩
 exact ⟨Nat.le_trans (wO xs lo hi) hz, _, 0, (r.drop (HT.sIx xs.length 0 lo)).take (HT.sIx xs.length xs.length hi - HT.sIx xs.length 0 lo), Heap.get?_push_size _ rfl⟩
def cy : V -> Bool
 | .non => true
 | .bl _ => true
 | .int _ => true
 | .str _ => true
 | _ => false
def eqV : V -> V -> Bool
 | .non, .non => true
 | .bl a, .bl b => a == b
 | .bl a, .int b => (if a then 1 else 0) == b
 | .int a, .bl b => a == (if b then 1 else 0)
 | .int a, .int b => a == b
 | .str a, .str b => a == b
 | _, _ => false
theorem yV {A : Around} {s : Shared} {y x : V} {u v : Value} (ry : RelV y u) (rx : RelV x v) (fy : cy y = true) (fx : cy x = true) : SeqAt.EqAt A s u v (eqV y x) := by
 cases y with
 | non =>
  cases ry
  cases x with
  | non => cases rx; exact SeqAt.EqAt.same _
  | bl b => cases rx; exact SeqAt.EqAt.none_bool b
  | int b => obtain ⟨t, rfl⟩ := rx; exact SeqAt.EqAt.none_int b t
  | str b => obtain ⟨t, rfl⟩ := rx; exact SeqAt.EqAt.none_str b t
  | _ => exact absurd (show false = true from fx) Bool.false_ne_true
 | bl a =>
  cases ry
  cases x with
  | non => cases rx; exact SeqAt.EqAt.bool_none a
  | bl b => cases rx; exact SeqAt.EqAt.bool_bool a b
  | int b => obtain ⟨t, rfl⟩ := rx; exact SeqAt.EqAt.bool_int a b t
  | str b => obtain ⟨t, rfl⟩ := rx; exact SeqAt.EqAt.bool_str a b t
  | _ => exact absurd (show false = true from fx) Bool.false_ne_true
 | int a =>
  obtain ⟨t', rfl⟩ := ry
  cases x with
  | non => cases rx; exact SeqAt.EqAt.int_none a t'
  | bl b => cases rx; exact SeqAt.EqAt.int_bool a t' b
  | int b => obtain ⟨t, rfl⟩ := rx; exact SeqAt.EqAt.int_int a t' b t
  | str b => obtain ⟨t, rfl⟩ := rx; exact SeqAt.EqAt.int_str a t' b t
  | _ => exact absurd (show false = true from fx) Bool.false_ne_true
 | str a =>
  obtain ⟨t', rfl⟩ := ry
  cases x with
  | non => cases rx; exact SeqAt.EqAt.str_none a t'
  | bl b => cases rx; exact SeqAt.EqAt.str_bool a t' b
  | int b => obtain ⟨t, rfl⟩ := rx; exact SeqAt.EqAt.str_int a t' b t
  | str b => obtain ⟨t, rfl⟩ := rx; exact SeqAt.EqAt.str_str a t' b t
  | _ => exact absurd (show false = true from fx) Bool.false_ne_true
 | _ => exact absurd (show false = true from fy) Bool.false_ne_true
def eqU (x : V) (u : Value) : Bool := match u with
 | .none => eqV .non x
 | .bool b => eqV (.bl b) x
 | .int i _ => eqV (.int i) x
 | .str z _ => eqV (.str z) x
 | _ => false
theorem B5 {x y : V} {u : Value} (r : RelV y u) (f : cy y = true) : eqU x u = eqV y x := by
 cases y with
 | non => cases r; rfl
 | bl b => cases r; rfl
 | int i => obtain ⟨t, rfl⟩ := r; rfl
 | str z => obtain ⟨t, rfl⟩ := r; rfl
 | _ => exact absurd (show false = true from f) Bool.false_ne_true
theorem pb {x : V} : ∀ {xs : List V} {us : List Value}, Vals xs us -> xs.all cy = true -> us.any (eqU x) = xs.any fun y => eqV y x
 | _, _, .nil, _ => rfl
 | y :: xs, u :: us, .cons r t, f => by
  rw [List.all_cons, Bool.and_eq_true] at f
  rw [List.any_cons, List.any_cons, B5 r f.1, pb t f.2]
theorem lq {A : Around} {s : Shared} {x : V} {v : Value} (rx : RelV x v) (fx : cy x = true) : ∀ {xs : List V} {us : List Value}, Vals xs us -> xs.all cy = true -> ∀ u ∈ us, SeqAt.EqAt A s u v (eqU x u)
 | _, _, .nil, _ => fun u hu => by cases hu
 | y :: xs, u :: us, .cons r t, f => fun u' hu => by
  rw [List.all_cons, Bool.and_eq_true] at f
  rcases List.mem_cons.mp hu with rfl | hu
  ·rw [B5 r f.1]; exact yV r rx f.1 fx
  ·exact lq rx fx t f.2 u' hu
def inV (x : V) (xs : List V) : Bool := xs.any fun y => eqV y x
def rIn (K : W.Frag) (neg : Bool) : R2 := fun x y H Q => ∃ p xs, y = .ref p /\ (SqL K H p xs \/ SqT K H p xs) /\ cy x = true /\ xs.all cy = true /\ Q (.bl (if neg then !inV x xs else inV x xs)) H
theorem AV : OpR X (compareOp .In) (rIn X.K false) := by
 intro pins s σ H x y v u Q I rx ry h
 obtain ⟨p, xs, rfl, hq, fx, fs, q⟩ := h
 cases ry
 rcases hq with hq | hq
 ·obtain ⟨its, r, pl, hz⟩ := I.list hq
  refine SeqAt.in_listAt (eqU x) pl.isList (fun w hw => lq rx fx r fs w (by simpa using hw)) ⟨.bl _, H, I, rfl, ?_⟩
  rw [show its.toArray.any (eqU x) = its.any (eqU x) by simp, pb r fs]
  exact q
 ·obtain ⟨its, r, pl, hz⟩ := I.tuple hq
  refine SeqAt.in_tupleAt (eqU x) pl (fun w hw => lq rx fx r fs w (by simpa using hw)) ⟨.bl _, H, I, rfl, ?_⟩
  rw [show its.toArray.any (eqU x) = its.any (eqU x) by simp, pb r fs]
  exact q
theorem vn : OpR X (compareOp .NotIn) (rIn X.K true) := by
 intro pins s σ H x y v u Q I rx ry h
 obtain ⟨p, xs, rfl, hq, fx, fs, q⟩ := h
 cases ry
 rcases hq with hq | hq
 ·obtain ⟨its, r, pl, hz⟩ := I.list hq
  refine SeqAt.notIn_listAt (eqU x) pl.isList (fun w hw => lq rx fx r fs w (by simpa using hw)) ⟨.bl _, H, I, rfl, ?_⟩
  rw [show its.toArray.any (eqU x) = its.any (eqU x) by simp, pb r fs]
  exact q
 ·obtain ⟨its, r, pl, hz⟩ := I.tuple hq
  refine SeqAt.notIn_tupleAt (eqU x) pl (fun w hw => lq rx fx r fs w (by simpa using hw)) ⟨.bl _, H, I, rfl, ?_⟩
  rw [show its.toArray.any (eqU x) = its.any (eqU x) by simp, pb r fs]
  exact q
theorem CallR.or {f : Value} {r r' : List V -> Hp -> VK -> Prop} (h : CallR X f r) (h' : CallR X f r') : CallR X f (fun xs H Q => r xs H Q \/ r' xs H Q) := by
 intro pins s σ H xs us Q I rs q
 rcases q with q | q
 ·exact h pins s σ H xs us Q I rs q
 ·exact h' pins s σ H xs us Q I rs q
theorem vZ : CallR X (.type "list") (fun xs H Q => ∃ p ys, xs = [.ref p] /\ (SqL X.K H p ys \/ SqT X.K H p ys) /\ ∀ l, H l = none -> Q (.ref l) (upd H l (.lst ys))) := by
 intro pins s σ H xs us Q I r h
 obtain ⟨p, ys, rfl, hq, q⟩ := h
 obtain ⟨u, rfl, rx⟩ := iD r
 cases rx
 have fin : ∀ (its : List Value), Vals ys its -> ys.length <= sizeLine -> ∀ (h' : Heap) (c' : Nat), (∀ b o', s.heap.get? b = some o' -> h'.get? b = some o') ->
  h'.get? s.heap.objs.size = some { cls := .type "list", dict := none, data := .seq its.toArray c', slots := #[] } -> EP X pins σ Q (.ref s.heap.objs.size) { s with heap := h' } := fun its r' hz h' c' kp e =>
  ⟨.ref s.heap.objs.size, _, I.laid (t' := s.toks) kp (Nat.le_refl _) (show ObjOk X.prog X.w _ h' _ (.lst ys) from ⟨hz, its, c', r', e⟩), rfl, q _ (I.hok.fresh (Nat.le_refl _))⟩
 rcases hq with hq | hq
 ·obtain ⟨its, r', pl, hz⟩ := I.list hq
  have hlen := r'.length
  obtain ⟨o, ho, hc, n, hd⟩ := pl.isList
  exact call_list_seq p (.inl rfl) ho hc hd (fun h' c' kp e => fin its r' hz h' c' kp e) (by simp only [List.size_toArray] <;> omega)
 ·obtain ⟨its, r', pl, hz⟩ := I.tuple hq
  have hlen := r'.length
  obtain ⟨o, ho, hc, n, hd⟩ := pl
  exact call_list_seq p (.inr rfl) ho hc hd (fun h' c' kp e => fin its r' hz h' c' kp e) (by simp only [List.size_toArray] <;> omega)
def tyV (K : W.Frag) (T : String) (x : V) (H : Hp) : Prop := match x with
 | .str _ => T = "str"
 | .int _ => T = "int"
 | .ref p => (T = "list" /\ ∃ xs, SqL K H p xs) \/ (T = "tuple" /\ ∃ o, K.lookup p = some o /\ o.cls = .type "tuple" /\ o.dict = none) \/
  (T = "dict" /\ ((∃ kvs, H p = some (.dK kvs)) \/ ∃ kvs, H p = some (.dT kvs))) \/ (T = "set" /\ ∃ S n, H p = some (.set S n))
 | _ => False
theorem Gb {pins : List (Addr × Obj)} {σ : St} {H : Hp} {s : Shared} {T : String} {x : V} {v : Value} (I : Inv X pins σ H s) (r : RelV x v) (ty : tyV X.K T x H) :
 s.TypeIs v T /\ ∀ a, v = .ref a -> ∃ ob, s.heap.get? a = some ob /\ ob.dict = none := by
 cases x with
 | str z =>
  obtain ⟨t, rfl⟩ := r
  cases (show T = "str" from ty)
  exact ⟨typeIs_str s z t, fun _ e => nomatch e⟩
 | int i =>
  obtain ⟨t, rfl⟩ := r
  cases (show T = "int" from ty)
  exact ⟨typeIs_int s i t, fun _ e => nomatch e⟩
 | ref p =>
  cases r
  rcases ty with ⟨rfl, xs, hq⟩ | ⟨rfl, o, hk, hc, hd⟩ | ⟨rfl, hk⟩ | ⟨rfl, S, n, hk⟩
  ·obtain ⟨its, _, pl, _⟩ := I.list hq
   refine ⟨pl.isList.typeIs, fun a e => ?_⟩
   cases e
   obtain ⟨o, n, e, c, hd, _⟩ := pl
   exact ⟨o, e, hd⟩
  ·refine ⟨⟨o, I.kIn p o hk, hc⟩, fun a e => ?_⟩
   cases e
   exact ⟨o, I.kIn _ o hk, hd⟩
  ·have z : ∃ o, s.heap.get? p = some o /\ o.ExactDict := by
    rcases hk with ⟨kvs, hk⟩ | ⟨kvs, hk⟩
    ·obtain ⟨_, _, _, _, o, _, _, e, ex, _⟩ := I.hok p _ hk
     exact ⟨o, e, ex⟩
    ·obtain ⟨_, _, _, _, o, _, _, e, ex, _⟩ := I.hok p _ hk
     exact ⟨o, e, ex⟩
   obtain ⟨o, e, ex⟩ := z
   refine ⟨⟨o, e, ex.1⟩, fun a e2 => ?_⟩
   cases e2
   exact ⟨o, e, ex.2.1⟩
  ·obtain ⟨o, _, _, _, e, ex, _⟩ := I.hok p _ hk
   refine ⟨⟨o, e, ex.1⟩, fun a e2 => ?_⟩
   cases e2
   exact ⟨o, e, ex.2.1⟩
 | _ => exact False.elim ty
def tBM (K : W.Frag) (T : String) (r : V -> List V -> Hp -> VK -> Prop) (to : TE) (t : TA) : TE := fun σ H Q => to σ H fun x H1 => tyV K T x H1 /\ t σ H1 fun xs H2 => r x xs H2 Q
variable {o e : Expr} {es : List Expr} {to : TE} {t : TA} {name : Str} {apos cpos : Pos} {T id : String} {r : V -> List V -> Hp -> VK -> Prop}
theorem Hm (pa : PlainAttrs T) (slot : Slot T name id) (hty : typeOf (.builtin id) = pure (.type "method_descriptor")) (hm : MtR X id r) (ho : PE X o to) (ha : PA X (e :: es) t)
 (hbase : attributeBase o name X.env (eval o X.env) = eval o X.env := by rfl)
 (hfew : ((backTo cpos (starEach (e :: es) X.env)).all (fun x => !x.1) && (backToKw cpos (keywordEach [] X.env)).all (fun x => x.1.isSome)
  && decide ((e :: es).length + ([] : List Keyword).length + (if ([] : List Keyword).isEmpty then 0 else 1) < 30)) = true := by rfl)
 (hline : (apos.endLine == cpos.line) = true := by rfl) (hs : starEach (e :: es) X.env = (false, eval e X.env) :: starEach es X.env := by rfl) (hplain : (backTo cpos (starEach es X.env)).any (·.1) = false := by rfl) :
 PE X (.Call (.Attribute o name apos) (e :: es) [] cpos) (tBM X.K T r to t) := by
 intro pins s σ H Q I h
 refine wpAny_Call_method_late hbase hfew hline rfl (thn (ho pins s σ H _ I h) fun v s1 ⟨x, H1, I1, r1, ty, q1⟩ => ?_)
 obtain ⟨h1, h2⟩ := Gb I1 r1 ty
 refine ⟨T, id, pa, slot, hty, h1, h2, ?_⟩
 have hA := ha cpos pins s1 σ H1 _ I1 q1
 rw [hs] at hA ⊢
 refine Calls.callWith_builtin (by show (false || (backTo cpos (starEach es X.env)).any (·.1)) = false; rw [hplain] <;> rfl) (Calls.evalArgs_plain ?_)
 exact thn hA fun us s2 ⟨vs, H2, I2, r2, q2⟩ => hm pins s2 σ H2 x vs v us Q I2 r1 r2 q2
end
end L2
namespace L2
open PySem PySem.Spec PyProof.Rows
def MtM (X : Cx) (id : String) (r : V -> List V -> Hp -> VK -> Prop) : Prop :=
 ∀ (pins : List (Addr × Obj)) (s : Shared) (σ : St) (H : Hp) (x : V) (xs : List V) (v : Value) (us : List Value) (Q : VK), Inv X pins σ H s -> RelV x v -> Vals xs us -> r x xs H Q ->
  wpAny (model X.prog X.w) X.A (call (.builtin id) (v :: us)) (EP X pins σ Q) X.xe s
theorem Vals.one : ∀ {x : V} {us : List Value}, Vals [x] us -> ∃ u, us = [u] /\ RelV x u
 | _, _, .cons r .nil => ⟨_, rfl, r⟩
theorem Vals.dropLast {xs : List V} {us : List Value} (h : Vals xs us) : Vals xs.dropLast us.dropLast := by
 induction h with
 | nil => exact .nil
 | cons r t ih =>
  cases t with
  | nil => exact .nil
  | cons q t' => exact .cons r ih
section
variable {X : Cx} {pins : List (Addr × Obj)} {σ : St} {H : Hp} {s : Shared} {l b : Addr} {xs ys zs : List V}
theorem Inv.lset {its its' : List Value} {n : Nat} {f : Array Value -> Array Value} {t' : Nat} (I : Inv X pins σ H s) (hH : H l = some (.lst xs))
 (e : s.heap.get? l = some { cls := .type "list", data := .seq its.toArray n }) (hf : f its.toArray = its'.toArray) (hv : Vals ys its') (hz : ys.length <= sizeLine) :
 Inv X pins σ (upd H l (.lst ys)) { s with heap := s.heap.update l (Obj.mapSeq f), toks := t' } := by
 have q := PySem.IsL.update e f
 rw [hf] at q
 refine I.write (x := l) (e := l) (by rw [hH]; exact trivial) (.inl rfl) (fun b' u hb hu => (Heap.get?_update_other s.heap (Obj.mapSeq f) (Ne.symm hb)).trans hu) ⟨_, q⟩ ?_
 exact ⟨hz, its', _, hv, q⟩
theorem Inv.lnew {its : List Value} {t' : Nat} (I : Inv X pins σ H s) (hv : Vals ys its) (hz : ys.length <= sizeLine) :
 Inv X pins σ (upd H s.heap.objs.size (.lst ys)) { s with heap := s.heap.push { cls := .type "list", data := .seq its.toArray }, toks := t' } :=
 I.laid (fun _ _ q => Heap.get?_push_of_some _ q) (Nat.le_refl _) ⟨hz, its, 0, hv, Heap.get?_push_size _ rfl⟩
theorem Inv.fresh (I : Inv X pins σ H s) : H s.heap.objs.size = none := I.hok.fresh (Nat.le_refl _)
theorem Inv.lstM (I : Inv X pins σ H s) (hH : H l = some (.lst xs)) : xs.length <= sizeLine /\ ∃ (its : List Value) (n : Nat), Vals xs its /\ xs.length = its.length /\ s.heap.get? l = some { cls := .type "list", data := .seq its.toArray n } := by
 obtain ⟨z, its, n, r, e⟩ := I.hok l _ hH
 exact ⟨z, its, n, r, r.length, e⟩
theorem BW {n : Nat} (h : n <= sizeLine) : Builtin.List.listTooLong n = false := by
 unfold Builtin.List.listTooLong
 exact decide_eq_false (by omega)
end
section
variable {X : Cx}
def Ay : V -> List V -> Hp -> VK -> Prop := fun x vs H Q => ∃ l xs y, x = .ref l /\ vs = [y] /\ H l = some (.lst xs) /\ xs.length < sizeLine /\ Q .non (upd H l (.lst (xs ++ [y])))
theorem eZ : MtM X "list.append" Ay := by
 intro pins s σ H x vs v us Q I rx rv h
 obtain ⟨l, xs, y, rfl, rfl, hH, hz, q⟩ := h
 cases rx
 obtain ⟨u, rfl, ru⟩ := rv.one
 obtain ⟨z, its, n, r, hl, e⟩ := I.lstM hH
 refine call_meets F.slot_list_append ⟨_, e, rfl⟩ F.entry_list_append (F.args_list_append_2 _ _) (PySem.list_append l its.toArray n u (by rw [List.size_toArray]; omega)) ⟨e, ?_⟩
 refine ⟨.non, _, I.lset (its' := its ++ [u]) hH e (by simp) (r.append (.cons ru .nil)) ?_, rfl, q⟩
 rw [List.length_append, List.length_singleton]
 omega
def DD : V -> List V -> Hp -> VK -> Prop := fun x vs H Q => ∃ l b xs zs, x = .ref l /\ vs = [.ref b] /\ H l = some (.lst xs) /\ H b = some (.lst zs) /\ xs.length + zs.length <= sizeLine /\ Q .non (upd H l (.lst (xs ++ zs)))
theorem Gn : MtM X "list.extend" DD := by
 intro pins s σ H x vs v us Q I rx rv h
 obtain ⟨l, b, xs, zs, rfl, rfl, hH, hB, hz, q⟩ := h
 cases rx
 obtain ⟨u, rfl, ru⟩ := rv.one
 cases ru
 obtain ⟨z, its, n, r, hl, e⟩ := I.lstM hH
 obtain ⟨z2, its2, n2, r2, hl2, e2⟩ := I.lstM hB
 have hsz : its.toArray.size + its2.toArray.size <= sizeLine := by rw [List.size_toArray, List.size_toArray]; omega
 have hlong : ¬ (!its.toArray.isEmpty && Builtin.List.listTooLong (its.toArray.size + its2.toArray.size)) = true := by
  rw [BW hsz, Bool.and_false]
  exact Bool.false_ne_true
 refine call_meets F.slot_list_extend ⟨_, e, rfl⟩ F.entry_list_extend (F.args_list_extend_2 _ _)
  (AutoSeq1.list_extend_list_list_0 l its.toArray n b its2.toArray n2 hlong (by rw [List.size_toArray]; omega) (by omega)) ⟨e, e2, ?_⟩
 refine ⟨.non, _, I.lset (its' := its ++ its2) hH e (by simp) (r.append r2) ?_, rfl, q⟩
 rw [List.length_append]
 omega
def Hs : R2 := fun x y H Q => ∃ l b xs zs, x = .ref l /\ y = .ref b /\ H l = some (.lst xs) /\ H b = some (.lst zs) /\ xs.length + zs.length <= sizeLine /\ ∀ p, H p = none -> Q (.ref p) (upd H p (.lst (xs ++ zs)))
theorem F1 : OpR X (binaryOp .Add) Hs := by
 intro pins s σ H x y v u Q I rx ry h
 obtain ⟨l, b, xs, zs, rfl, rfl, hH, hB, hz, q⟩ := h
 cases rx
 cases ry
 obtain ⟨z, its, n, r, hl, e⟩ := I.lstM hH
 obtain ⟨z2, its2, n2, r2, hl2, e2⟩ := I.lstM hB
 refine PySem.P.add_list e e2 ?_ (by rw [List.size_toArray, List.size_toArray]; omega)
 have ea : its.toArray ++ its2.toArray = (its ++ its2).toArray := by simp
 rw [ea]
 exact ⟨.ref _, _, I.lnew (t' := s.toks) (r.append r2) (by rw [List.length_append]; omega), rfl, q _ I.fresh⟩
end
section
variable {prog : Program} {w : World} {A : Around} {E : Value -> Shared -> Prop} {s : Shared}
end
section
variable {X : Cx}
end
end L2
namespace Att
open PySem PySem.W PySem.Calls PyProof.Rows
theorem rD {P : Params} {h : Heap} : ∀ (ns : List Int) (vs : List Value), WellAll P h vs (ns.map WData.int) -> IntsAre vs ns := by
 intro ns
 induction ns with
 | nil =>
  intro vs w
  rw [List.map_nil] at w
  cases w
  exact .nil
 | cons n ns ih =>
  intro vs w
  rw [List.map_cons] at w
  cases w with
  | cons a b =>
   cases a
   exact .cons _ _ (ih _ b)
theorem Bi {l : OpenLaw} {n : Nat} (hn : l.most = some n) {P : Params} {h : Heap} {args : List WData} {vals : List Value}
 (hpre : l.row.toRowW.claim.pre args = true) (hwl : WellAll P h vals args) :
 ∃ a vs ns, vals = [Value.ref a] /\ args = [WData.list (ns.map WData.int)] /\ h.get? a = some { cls := .type "list", data := .seq vs.toArray } /\ IntsAre vs ns /\ ns.length <= n := by
 have hsh : WShape.hasAll [] args [.list .int] = true := (pre_splitW hpre).1
 have hc : l.pre.holds [] { args := args } = true := (pre_splitW hpre).2
 obtain ⟨d, r, rfl, h1, h2⟩ := hasAllW_cons hsh
 obtain rfl := hasAllW_nil h2
 obtain ⟨xs, rfl, h3⟩ := hasW_list h1
 obtain ⟨ns, rfl⟩ := items_int h3
 have hlen : ns.length <= n := by
  unfold OpenLaw.pre at hc
  have h4 : (WTm.not (.lt (.lit (.int (n : Int))) (.len (.arg 0)))).holds [] { args := [.list (ns.map .int)] } = true := by
   have h4 := (holds_andW hc).1
   rw [hn] at h4
   exact h4
  have h5 := condW_of h4 (w_not (w_lt w_lit (w_len_list (w_arg rfl))))
  rw [List.length_map] at h5
  refine Nat.le_of_not_lt fun q => ?_
  have q' : (n : Int) < ((ns.length : Nat) : Int) := by omega
  first
   | (rw [decide_eq_true q'] at h5; exact absurd h5 (by decide))
   | (simp at h5; omega)
 cases hwl with
 | cons w1 w2 =>
  cases w2
  cases w1 with
  | list ho hall => exact ⟨_, _, ns, rfl, rfl, ho, rD ns _ hall, hlen⟩
theorem Bo (l : OpenLaw) (args : List WData) : l.row.toRowW.claim.post args (.bool true) args = true :=
 postW_of (r := l.row.toRowW) (X := (true == true))
  (show WShape.has [] (.bool true) .bool = true by first | rfl | decide | simp [WShape.has, WShape.arms, WShape.armsAll])
  (show (WTm.eq .res (.lit (.bool true))).value [] { args := args, res := some (.bool true), after := args } = some (.bool (true == true)) from w_eq_bool (w_res rfl) w_lit) rfl
theorem attach_call {l : OpenLaw} {n : Nat} {q : Program} {loose : List Str} {XP : (Str -> Option Value) -> Heap -> Prop} {YP : World -> Heap -> Prop} {d : DefRec}
 (hn : l.most = some n) (hdf : d.params.defaults = [])
 (call : ∀ (w : World) (s₀ s₁ : Shared) (mg mb : Str -> Option Value) (fa : Addr) (o : Obj) (pm cd doc : Value) (a : Addr) (vs : List Value) (ns : List Int),
  Ground q loose [] XP w s₀ mg mb s₁.heap -> YP w s₁.heap ->
  s₁.heap.get? fa = some o -> o.data = .func (docDef d.name d.params d.body d.scope pm cd doc) -> s₁.heap.CodeRec cd d.name -> mg d.name = some (.ref fa) ->
  s₁.heap.get? a = some { cls := .type "list", data := .seq vs.toArray } -> IntsAre vs ns -> ns.length <= n -> s₁.gens = #[] ->
  codeAny (model l.prog w) callerA (.call (.ref fa) ⟨[.ref a], []⟩) (fun r s' => r = .ok (.ret (.bool true)) /\ OldK s₁.heap s'.heap /\ s'.os = s₁.os /\ AllBare s'.gens) s₁) :
 WalkO q loose XP YP l.row.toRowW d [] (fun f vs => PySem.call f vs) := by
 intro w s₀ s₁ mg mb G Y fa o pm cd doc dV kV ho hd hcd hD hmg hg args vals as hpre hlay hrd hwl hlo
 obtain rfl : dV = .none := Dflts.none hD hdf
 obtain rfl : kV = .none := Dflts.noKw hD
 obtain ⟨a, vs, ns, rfl, rfl, hobj, hints, hlen⟩ := Bi hn hpre hwl
 refine enter_call (codeAny_mono (call w s₀ s₁ mg mb fa o pm cd doc a vs ns G Y ho (fd_plain hd) hcd hmg hobj hints hlen hg) fun r s' hq => ?_)
 obtain ⟨rfl, h2, h3, h4⟩ := hq
 exact ⟨.inl ⟨.bool true, .bool true, [], rfl, fun _ => rfl, .bool true, Bo l _, fun _ => ⟨List.Pairwise.nil, fun _ hm => (nomatch hm)⟩⟩, h2, h3, h4⟩
section
variable {prog : Program} {w : World} {A : Around} {E : Value -> Shared -> Prop} {s : Shared} {K : Frag}
end
end Att
namespace L2
open PySem PySem.Spec PyProof.Rows
theorem ur : ∀ {vs : List Value} {ns : List Int}, IntsAre vs ns -> Vals (ns.map V.int) vs
 | _, _, .nil => .nil
 | _, _, .cons n t h => .cons ⟨t, rfl⟩ (ur h)
def Bf (H : Hp) : Prop := ∀ b, H b = none \/ ∃ o xs, H b = some (.frz o (.lst xs))
theorem By {P : Program} {w : World} {K : W.Frag} {mg mb : Str -> Option Value} {CX : CXT} {k : Nat} {fa a : Addr} {fd : FuncData} {x : Str} {sp : Sp} {s₁ : Shared} {vs : List Value} {ns : List Int}
 (KX : K.In s₁.heap) (hns : s₁.heap.Ns mainGlobals mg) (hb : s₁.heap.Ns builtinsNs mb) (hbb : ∀ x : Str, x ≠ "__name__" -> mb x = bootBuiltins x) (hlim : s₁.heap.NoLimit) (hg : s₁.gens = #[])
 (ha : s₁.heap.get? a = some { cls := .type "list", data := .seq vs.toArray }) (hi : IntsAre vs ns) (hl : ns.length <= sizeLine) (hr : Room k callerA)
 (F : ∀ base : Heap, K.In base -> base.Ns mainGlobals mg -> bQ P w K mg base CX k fa fd [x] sp) (hbind : ∀ (s : Shared) (u : Value), BindsTo s fd ⟨[u], []⟩ [(x, u)])
 (hsp : ∀ H : Hp, Bf H -> SqL K H a (ns.map V.int) -> sp [.ref a] H (fun v _ => v = .bl true) fun _ _ _ => False)
 (hCX : ∀ H e s', CX [] H s₁ (fun _ _ _ => False) e s' -> False) :
 codeAny (model P w) callerA (.call (.ref fa) ⟨[.ref a], []⟩) (fun r s' => r = .ok (.ret (.bool true)) /\ OldK s₁.heap s'.heap /\ s'.os = s₁.os /\ AllBare s'.gens) s₁ := by
 have rv := ur hi
 have lenV := hi.length
 have core : ∀ H : Hp, Bf H -> SqL K H a (ns.map V.int) -> HOk P w H s₁.heap -> (∀ b, H b ≠ none -> b = a) -> (H a ≠ none -> K.lookup a = none) ->
  codeAny (model P w) callerA (.call (.ref fa) ⟨[.ref a], []⟩) (fun r s' => r = .ok (.ret (.bool true)) /\ OldK s₁.heap s'.heap /\ s'.os = s₁.os /\ AllBare s'.gens) s₁ := by
  intro H hO hS hok hA hK
  have base_of : ∀ {b : Addr} {o : Obj}, s₁.heap.get? b = some o -> H b = none -> (wy s₁.heap H).get? b = some o := fun e n => BJ e n
  have noA : ∀ {b : Addr} {o : Obj} {es : Array DictEntry} {ep : Nat}, s₁.heap.get? b = some o -> o.data = .dict es ep -> H b = none := fun {b o es ep} e d => by
   cases q : H b with
   | none => rfl
   | some u =>
    have e' : b = a := hA b (by rw [q]; simp)
    subst e'
    rw [ha] at e; cases e
    have d' : Data.seq vs.toArray _ = Data.dict es ep := d
    cases d'
  have nsK : ∀ {b : Addr} {m : Str -> Option Value}, s₁.heap.Ns b m -> (wy s₁.heap H).Ns b m := fun {b m} ⟨o, es, ep, e, d, r⟩ => ⟨o, es, ep, base_of e (noA e d), d, r⟩
  have hKb : K.In (wy s₁.heap H) := fun b o e => base_of (KX b o e) (by
   cases q : H b with
   | none => rfl
   | some u =>
    have e' : b = a := hA b (by rw [q]; simp)
    subst e'
    rw [hK (by rw [q]; simp)] at e; cases e)
  have hM : Mod K mg (wy s₁.heap H) := ⟨hKb, nsK hns, ⟨mb, nsK hb, hbb⟩, let ⟨mc, h1, h2⟩ := hlim; ⟨mc, nsK h1, h2⟩⟩
  have e0 : Env0 P w K mg (wy s₁.heap H) callerA [] s₁ H := ⟨rfl, hM, fun b o e => Dq e, Nat.le_of_eq (Be _ _), trivial, fun b hb => absurd (show b ∈ ([] : List Addr) from hb) (by simp), hok, .of_eq hg⟩
  refine codeAny_mono ((F _ hKb (nsK hns)).run callerA [] s₁ H ⟨[.ref a], []⟩ [.ref a] [.ref a] _ _ hr e0 (hbind s₁ (.ref a)) (.cons rfl .nil) (hsp H hO hS)) fun r s' h => ?_
  cases r with
  | error e => exact (hCX H e s' h).elim
  | ok fl =>
   cases fl with
   | next => exact False.elim h
   | brk => exact False.elim h
   | cont => exact False.elim h
   | ret u =>
    obtain ⟨v, H', os, bare, un, hok', r', q⟩ := h
    have q' : v = .bl true := q
    subst q'
    obtain rfl : u = Value.bool true := r'
    refine ⟨rfl, OldK.of_keep fun b o e => ?_, os, bare⟩
    cases q : H b with
    | none => exact un.keep b o e q (by intro z; exact absurd (show b ∈ ([] : List Addr) from z) (by simp)) (by simp)
    | some u =>
     rcases hO b with z | ⟨ob, xs, z⟩
     ·rw [q] at z; cases z
     ·have z2 := un.frzs b ob _ z
      obtain ⟨e1, _⟩ := hok b _ z
      obtain ⟨e2, _⟩ := hok' b _ z2
      rw [e] at e1; cases e1
      exact e2
 cases hk : K.lookup a with
 | some o =>
  have e := KX a o hk
  rw [ha] at e
  cases e
  refine core (fun _ => none) (fun _ => .inl rfl) (.inr ⟨_, vs.toArray, _, hk, rfl, rfl, rfl, by rw [List.size_toArray, lenV]; exact hl, by simpa using rv⟩) (fun b u z => by have z' : (none : Option HO) = some u := z; cases z') (fun b z => absurd rfl z) fun z => absurd rfl z
 | none =>
  refine core (fun b => if b = a then some (.frz { cls := .type "list", data := .seq vs.toArray } (.lst (ns.map V.int))) else none) (fun b => ?_) (.inl (.inr ⟨{ cls := .type "list", data := .seq vs.toArray }, if_pos rfl⟩)) (fun b u z => ?_) (fun b z => ?_) fun _ => hk
  ·by_cases hb : b = a
   ·exact .inr ⟨_, _, if_pos hb⟩
   ·exact .inl (if_neg hb)
  ·by_cases hb : b = a
   ·have z' := (if_pos hb).symm.trans z
    cases z'
    subst hb
    exact ⟨ha, by rw [List.length_map]; exact hl, vs, _, rv, ha⟩
   ·have z' := (if_neg hb).symm.trans z
    cases z'
  ·by_cases hb : b = a
   ·exact hb
   ·exact absurd (if_neg hb) z
end L2
namespace L2
open PySem PySem.Spec PyProof.Rows
theorem Ds {l : PySem.W.OpenLaw} {n k : Nat} {q : Program} {loose : List Str} {XP : (Str -> Option Value) -> Heap -> Prop} {YP : World -> Heap -> Prop} {d : DefRec} {K : Params -> W.Frag} {CX : World -> CXT} {sp : World -> Sp} {x : Str}
 (hn : l.most = some n) (hn2 : n <= sizeLine) (hdf : d.params.defaults = []) (hr : Room k callerA)
 (hY : ∀ (w : World) (h : Heap), YP w h -> (K w.params).In h)
 (F : ∀ (w : World) (mg : Str -> Option Value) (fa : Addr) (h : Heap), (K w.params).In h -> h.Ns mainGlobals mg -> mg d.name = some (.ref fa) ->
  ∃ fd : FuncData, (∀ (s : Shared) (u : Value), BindsTo s fd ⟨[u], []⟩ [(x, u)]) /\
   ∀ base : Heap, (K w.params).In base -> base.Ns mainGlobals mg -> bQ l.prog w (K w.params) mg base (CX w) k fa fd [x] (sp w))
 (hsp : ∀ (w : World) (H : Hp) (a : Addr) (ns : List Int), ns.length <= n -> Bf H -> SqL (K w.params) H a (ns.map V.int) -> sp w [.ref a] H (fun v _ => v = .bl true) fun _ _ _ => False)
 (hCX : ∀ (w : World) (H : Hp) (s : Shared) (e : Value) (s' : Shared), CX w [] H s (fun _ _ _ => False) e s' -> False) :
 PySem.W.WalkO q loose XP YP l.row.toRowW d [] (fun f vs => PySem.call f vs) := by
 refine Att.attach_call hn hdf fun w s₀ s₁ mg mb fa o pm cd doc a vs ns G Y ho hd hcd hmg hobj hints hlen hg => ?_
 have KX := hY w _ Y
 obtain ⟨fd, hb, hF⟩ := F w mg fa _ KX G.T.g hmg
 exact By KX G.T.g G.T.b G.T.builtins G.T.nolimit hg hobj hints (Nat.le_trans hlen hn2) hr hF hb (fun H hO hS => hsp w H a ns hlen hO hS) fun H e s' => hCX w H s₁ e s'
end L2
namespace L2
open PySem PySem.Spec PyProof.Rows
abbrev CX0 : CXT := fun _ _ _ _ _ _ => False
structure Fun (K : W.Frag) (x qual : Str) (st : Stmt) (f : Addr) (fd : FuncData) : Prop where
 ex : ∃ (oc : Value) (od : Option Addr) (kV doc pm : Value) (an : Option Addr) (cdv ct : Value) (osl : Array (Option Value)),
  fd = PySem.W.fnOf x qual (aL st) (aC st) (ai st) .none kV doc pm an cdv ct /\ K.lookup f = some ⟨oc, od, .func fd, osl⟩ /\ PySem.W.codeIn K cdv qual = true
 kp : PySem.W.keepIn K (.ref f) = true
section
variable {P : Program} {w : World} {K : W.Frag} {mg : Str -> Option Value} {base : Heap}
theorem Fun.binds {x qual : Str} {st : Stmt} {f : Addr} {fd : FuncData} {ps : List Str} (F : Fun K x qual st f fd)
 (h : ∀ (kV doc pm : Value) (an : Option Addr) (cdv ct : Value) (us : List Value), us.length = ps.length -> bindArgs (PySem.W.fnOf x qual (aL st) (aC st) (ai st) .none kV doc pm an cdv ct) ⟨us, []⟩ = pure (ps.zip us)) : Binds K fd ps [] := by
 obtain ⟨oc, od, kV, doc, pm, an, cdv, ct, osl, rfl, lk, hcd⟩ := F.ex
 exact .all (h kV doc pm an cdv ct)
theorem yC {x qual : Str} {st : Stmt} {f : Addr} {oc : Value} {od an : Option Addr} {osl : Array (Option Value)} {kV doc pm cdv ct : Value} (l : K.lookup f = some ⟨oc, od, .func (PySem.W.fnOf x qual (aL st) (aC st) (ai st) .none kV doc pm an cdv ct), osl⟩)
 (c : PySem.W.codeIn K cdv qual = true) (k : PySem.W.keepIn K (.ref f) = true) : Fun K x qual st f (PySem.W.fnOf x qual (aL st) (aC st) (ai st) .none kV doc pm an cdv ct) := ⟨⟨oc, od, kV, doc, pm, an, cdv, ct, osl, rfl, l, c⟩, k⟩
end
section
variable {X : Cx}
end
theorem yu {A B : Prop} (h : B) : if false = true then A else B := by
 rw [if_neg Bool.false_ne_true]
 exact h
theorem E7 {A B : Prop} (h : A) : if true = true then A else B := by
 rw [if_pos rfl]
 exact h
def Same (H H' : Hp) : Prop := ∀ b o, H b = some o -> H' b = some o
theorem Same.refl (H : Hp) : Same H H := fun _ _ h => h
theorem Same.trans {H H1 H2 : Hp} (a : Same H H1) (b : Same H1 H2) : Same H H2 := fun c o h => b c o (a c o h)
theorem Same.free {H H' : Hp} (e : Same H H') {l : Addr} (h : H' l = Option.none) : H l = Option.none := by
 cases q : H l with
 | none => rfl
 | some o =>
  rw [e l o q] at h
  cases h
end L2
namespace L2
open PySem PySem.Spec PyProof.Rows
def qD : HO -> Bool
 | .dT _ => false
 | .frz _ u => qD u
 | _ => true
def NoT (H : Hp) : Prop := ∀ a o, H a = some o -> qD o = true
def qH : HO -> Bool
 | .lst _ => true
 | .tup _ => true
 | .dK _ => true
 | .rng _ _ => true
 | _ => false
structure Gc (H G H' : Hp) : Prop where
 a : Same H G
 b : Same G H'
 c : ∀ p o, G p = some o -> H p = some o \/ qH o = true
section
variable {P : Program} {w : World} {H G H' : Hp} {h h' : Heap} {a : Addr} {o : HO}
theorem ObjOk.gc (n : qD o = true) (x0 : ObjOk P w H h a o) (x : ObjOk P w H' h' a o) : ObjOk P w H h' a o := by
 induction o with
 | ins C dx fs => exact ⟨x0.1, x.2⟩
 | dT kvs => cases n
 | frz ob u ih => exact ⟨x.1, ih n x0.2 x.2⟩
 | _ => exact x
theorem ObjOk.plain (n : qH o = true) (x : ObjOk P w H' h' a o) : ObjOk P w H h' a o := by
 cases o with
 | lst xs => exact x
 | tup xs => exact x
 | dK kvs => exact x
 | rng lo hi => exact x
 | _ => cases n
theorem HOk.gc (n : NoT H) (x0 : HOk P w H h) (x : HOk P w H' h') (g : Gc H G H') : HOk P w G h' := fun a o e => by
 rcases g.c a o e with q | q
 ·refine (((x0 a o q).gc (n a o q) (x a o (g.b a o e)))).stay (fun _ _ _ z => z) (fun b z => g.a _ _ z) fun b xs z => g.a _ _ z
 ·exact (x a o (g.b a o e)).plain q
theorem Un.gc {fs ex : List Addr} (u : Un fs ex H H' h h') (g : Gc H G H') : Un fs ex H G h h' :=
 ⟨u.keep, u.slot, fun b o q n hx => g.b.free (u.free b o q n hx), u.there, fun b xs q => g.a _ _ q, fun b o x q => g.a _ _ q, fun b ps q => ⟨#[], by rw [Array.append_empty]; exact g.a _ _ q⟩⟩
theorem Gc.refl : Gc H H H := ⟨Same.refl H, Same.refl H, fun _ _ e => .inl e⟩
theorem Gc.none (s : Same H H') : Gc H H H' := ⟨Same.refl H, s, fun _ _ e => .inl e⟩
theorem al {p : Addr} (o : HO) (hp : H p = Option.none) : Same H (upd H p o) := fun b u e => by rw [ar (au e hp)]; exact e
theorem Gc.one {p : Addr} (s : Same H H') (hp : H p = Option.none) (e : H' p = some o) (n : qH o = true) : Gc H (upd H p o) H' :=
 ⟨al o hp, fun b u z => by
  by_cases hb : b = p
  ·subst hb; rw [ae] at z; cases z; exact e
  ·rw [ar hb] at z; exact s b u z, fun b u z => by
  by_cases hb : b = p
  ·subst hb; rw [ae] at z; cases z; exact .inr n
  ·rw [ar hb] at z; exact .inl z⟩
theorem NoT.upd {p : Addr} (n : NoT H) (d : qD o = true) : NoT (upd H p o) := fun b u z => by
 by_cases hb : b = p
 ·subst hb; rw [ae] at z; cases z; exact d
 ·rw [ar hb] at z; exact n b u z
end
theorem Inv.gc {X : Cx} {pins pins' : List (Addr × Obj)} {σ σ' : St} {H G H' : Hp} {s s' : Shared} (n : NoT H) (I : Inv X pins σ H s) (J : Inv X pins' σ' H' s') (g : Gc H G H') : Inv X pins' σ' G s' :=
 ⟨J.ok, J.os, J.bare, ⟨J.base.keep, J.base.slot, fun b o q z hx => g.b.free (J.base.free b o q z hx), J.base.there, fun b xs q => g.a _ _ (I.base.tups b xs q), fun b o x q => g.a _ _ (I.base.frzs b o x q), fun b ps q => let ⟨m, e⟩ := I.base.tbls b ps q; ⟨m, g.a _ _ e⟩⟩,
  J.loc, J.cell, g.b.free J.free, fun x c e => g.b.free (J.freeC x c e), fun p hp => let ⟨e, z, r⟩ := J.pin p hp; ⟨e, g.b.free z, r⟩, HOk.gc n I.hok J.hok g, J.len⟩
def tGc (t : TE) : TE := fun σ H Q => NoT H /\ t σ H fun v H' => ∃ G, Gc H G H' /\ Q v G
theorem EC {X : Cx} {e : Expr} {t : TE} (h : PE X e t) : PE X e (tGc t) := fun pins s σ H Q I ⟨n, q⟩ =>
 thn (h pins s σ H _ I q) fun u s1 ⟨v, H1, I1, r, G, g, q1⟩ => ⟨v, G, I.gc n I1 g, r, q1⟩
def GB (t : TT) : TT := fun σ H Q => NoT H /\ t σ H fun v H' => ∃ G, Gc H G H' /\ Q v G
theorem ut {X : Cx} {e : Expr} {t : TT} (h : PT X e t) : PT X e (GB t) := fun pins s σ H Q I ⟨n, q⟩ =>
 thn (h pins s σ H _ I q) fun u s1 ⟨H1, I1, G, g, q1⟩ => ⟨G, I.gc n I1 g, q1⟩
end L2
namespace L2
open PySem PySem.Spec PyProof.Rows
theorem ObjOk.at_ {P : Program} {w : World} {H : Hp} {h : Heap} {a : Addr} {o : HO} (x : ObjOk P w H h a o) : ∃ ob, h.get? a = some ob := by
 cases o with
 | lst xs => obtain ⟨_, _, _, _, e⟩ := x; exact ⟨_, e⟩
 | tup xs => obtain ⟨_, _, _, ob, e, _⟩ := x; exact ⟨_, e⟩
 | dK kvs => obtain ⟨_, _, _, _, o, _, _, e, _⟩ := x; exact ⟨_, e⟩
 | dT kvs => obtain ⟨_, _, _, _, o, _, _, e, _⟩ := x; exact ⟨_, e⟩
 | set S n => obtain ⟨o, _, _, _, e, _⟩ := x; exact ⟨_, e⟩
 | ins C dx fs => obtain ⟨_, _, _, e, _⟩ := x; exact ⟨_, e⟩
 | own y => obtain ⟨_, e⟩ := x; exact ⟨_, e⟩
 | xd fs => obtain ⟨_, ⟨_, _, _, e, _⟩, _⟩ := x; exact ⟨_, e⟩
 | rng lo hi => obtain ⟨_, _, _, e⟩ := x; exact ⟨_, e⟩
 | frz ob u => obtain ⟨e, _⟩ := x; exact ⟨_, e⟩
 | tbl ps => exact ⟨_, (show h.get? a = some _ from x)⟩
 | met f y => exact ⟨_, (show h.get? a = some _ from x)⟩
 | ext φ => obtain ⟨_, ⟨_, e⟩, _⟩ := x; exact ⟨_, e⟩
theorem HOk.none_of {P : Program} {w : World} {H : Hp} {h : Heap} {a : Addr} (x : HOk P w H h) (e : h.get? a = none) : H a = none := by
 cases q : H a with
 | none => rfl
 | some u =>
  obtain ⟨ob, z⟩ := (x a u q).at_
  rw [e] at z; cases z
def hid (h : Heap) (l : List Env) (rs : List Addr) : Heap := PySem.W.hideAll h (frs l ++ rs)
theorem nX {h : Heap} {l : List Env} {rs : List Addr} {b : Addr} {o : Obj} (e : h.get? b = some o) (h1 : b ∉ frs l) (h2 : b ∉ rs) : (hid h l rs).get? b = some o :=
 PySem.W.hideAll_get _ e fun z => (List.mem_append.mp z).elim h1 h2
theorem yz {h : Heap} {l : List Env} {rs : List Addr} {b : Addr} {o : Obj} (e : (hid h l rs).get? b = some o) : h.get? b = some o := PySem.W.of_hideAll _ e
theorem vK {h : Heap} {l : List Env} {rs : List Addr} {b : Addr} (e : b ∈ rs) : (hid h l rs).get? b = none := PySem.W.hideAll_none _ (List.mem_append_right _ e)
theorem nI {h base : Heap} {l : List Env} {rs : List Addr} (e : h.FunFrames base l) : h.FunFrames (hid h l rs) l :=
 PySem.W.funFrames_hide e fun _ he _ ha => List.mem_append_left _ (List.mem_filterMap.mpr ⟨_, he, ha⟩)
def Fly (l : List Env) (rs : List Addr) (e : Addr) (cls : Value) (h : Heap) : Prop := e ∈ rs /\ ∃ a0, Heap.FlyingW (hid h l rs) l e cls a0 h
def XE (P : Program) (w : World) : CXT := fun outer H s E ev s' => ∃ (e : Addr) (C : Value) (rs : List Addr) (H' : Hp), ev = .ref e /\ s'.os = s.os /\ AllBare s'.gens /\ Un (frs outer) [] H H' s.heap s'.heap /\
 HOk P w H' s'.heap /\ (∀ b ∈ rs, s.heap.get? b = none /\ H' b = none) /\ Fly outer rs e C s'.heap /\ E C none H'
section
variable {X : Cx} {pins : List (Addr × Obj)} {σ : St} {H : Hp} {s : Shared} {h' : Heap} {rs : List Addr}
theorem Inv.s0_none (I : Inv X pins σ H s) (hex : X.ex = []) {b : Addr} (e : s.heap.get? b = none) : X.s₀.heap.get? b = none := by
 cases q : X.s₀.heap.get? b with
 | none => rfl
 | some o =>
  obtain ⟨o', z⟩ := I.base.there b o q (by rw [hex]; simp)
  rw [e] at z; cases z
theorem Inv.noteUn (I : Inv X pins σ H s) (hex : X.ex = []) (hrs : ∀ b ∈ rs, X.s₀.heap.get? b = none)
 (stay : ∀ b o, s.heap.get? b = some o -> b ∉ frs X.stack -> b ∉ rs -> h'.get? b = some o) (up : s.heap.UpToSlots h') : Un X.fs [] X.H₀ H X.s₀.heap h' := by
 have B := I.base
 rw [hex] at B
 have nrs : ∀ b o, X.s₀.heap.get? b = some o -> b ∉ rs := fun b o e z => by rw [hrs b z] at e; cases e
 have nst : ∀ b o, X.s₀.heap.get? b = some o -> b ∉ X.fs -> b ∉ frs X.stack := fun b o e hb z => by
  rcases List.mem_cons.mp (I.stkSub b z) with q | q
  ·exact absurd (Nat.lt_of_lt_of_le (Heap.lt_size e) I.ok.above) (by rw [q]; exact Nat.lt_irrefl _)
  ·exact hb q
 refine ⟨fun b o q n hb hx => stay b o (B.keep b o q n hb hx) (nst b o q hb) (nrs b o q), fun b o q n hb hx => ?_, fun b o q n hx => B.free b o q n hx, fun b o q hx => ?_, B.tups, B.frzs, B.tbls⟩
 ·obtain ⟨sl, e1⟩ := B.slot b o q n hb hx
  obtain ⟨_, o', ho', hd⟩ := I.funs.mem hb
  rw [e1] at ho'; cases ho'
  obtain ⟨sl', e2⟩ := up b _ e1 hd
  exact ⟨sl', e2⟩
 ·obtain ⟨o', e1⟩ := B.there b o q hx
  by_cases hb : b ∈ frs X.stack
  ·obtain ⟨_, o2, ho2, hd⟩ := I.stack.mem hb
   obtain ⟨sl', e2⟩ := up b _ ho2 hd
   exact ⟨_, e2⟩
  ·exact ⟨o', stay b o' e1 hb (nrs b o q)⟩
theorem Inv.noteOk (I : Inv X pins σ H s) (hrs : ∀ b ∈ rs, H b = none) (stay : ∀ b o, s.heap.get? b = some o -> b ∉ frs X.stack -> b ∉ rs -> h'.get? b = some o) : HOk X.prog X.w H h' := fun a o e =>
 (I.hok a o e).stay (fun b u hb q => stay b u q (fun z => by
  have n := I.stkFree b z
  rcases hb with r | r
  ·rw [r, e] at n; cases n
  ·rw [r] at n; cases n) fun z => by
  have n := hrs b z
  rcases hb with r | r
  ·rw [r, e] at n; cases n
  ·rw [r] at n; cases n) (fun _ q => q) fun _ _ q => q
theorem zP {base : Heap} {l : List Env} {h h1 : Heap} {T : Addr} {oT : Obj} {ts : Array Value} (hl : h.FunFrames base l) (up : h.UpToSlots h1) (e : (hid h l rs).get? T = none) (hT : h1.get? T = some oT) (hd : oT.data = .fields ts) : h.get? T = none \/ T ∈ rs := by
 by_cases hr : T ∈ rs
 ·exact .inr hr
 ·refine .inl ?_
  cases q : h.get? T with
  | none => rfl
  | some o =>
   by_cases hf : T ∈ frs l
   ·obtain ⟨_, o2, ho2, hnf⟩ := hl.mem hf
    rw [q] at ho2; cases ho2
    obtain ⟨sl, e2⟩ := up T o q hnf
    rw [hT] at e2; cases e2
    exact absurd hd (hnf ts)
   ·rw [nX q hf hr] at e; cases e
end
section
variable {P : Program} {w : World} {K : W.Frag} {mg : Str -> Option Value} {base : Heap} {N : List Str} {qual : Str} {scope : Scope} {f : Addr} {cd : Value} {A : Around} {outer : List Env} {s₀ : Shared} {H₀ : Hp} {E : XK}
theorem yX {pins : List (Addr × Obj)} {σ : St} {H : Hp} {s : Shared} {h' : Heap} {e : Addr} {cls : Value} {args : List Value}
 (I : Inv (fz (XE P w) P w K mg base N qual scope f cd A outer s₀ H₀ E) pins σ H s) (hx : Heap.MadeExcOf s.heap h' e cls args) (q : E cls none H) :
 (fz (XE P w) P w K mg base N qual scope f cd A outer s₀ H₀ E).xe (.ref e) { s with heap := h' } := by
 show wpAny (model P w) (A.deeper (envOfC qual scope s₀.heap.objs.size f cd)) (leaving (envOfC qual scope s₀.heap.objs.size f cd) (.ref e)) (fun _ s'' => XE P w outer H₀ s₀ E (.ref e) s'') (fun e' s'' => XE P w outer H₀ s₀ E e' s'') { s with heap := h' }
 have hst : s.heap.FunFrames base (envOfC qual scope s₀.heap.objs.size f cd :: outer) := I.stack
 refine wpAny_leaves_madeW (base := hid s.heap (envOfC qual scope s₀.heap.objs.size f cd :: outer) []) (h := s.heap) I.ok.frames rfl (fun b o z => yz z) (nI hst) hx fun h'' t fl tup tn up => ?_
 obtain ⟨f1, f2, f3, oe, vs, T, oT, ts, he, hc, hd, h1, hnT, hTe, hT, hdT, h3⟩ := fl
 have up' : s.heap.UpToSlots h'' := (Heap.UpToSlots.of_keeps hx.keeps).trans up
 have nT : s.heap.get? T = none := (zP hst up' hnT hT hdT).elim id fun z => nomatch z
 have stay : ∀ b o, s.heap.get? b = some o -> b ∉ frs (envOfC qual scope s₀.heap.objs.size f cd :: outer) -> b ∉ [e, T] -> h''.get? b = some o := fun b o z hb _ => f1 b o (nX z hb fun y => nomatch y)
 have n0 : ∀ b ∈ [e, T], s.heap.get? b = none := fun b hb => by
  rcases List.mem_cons.mp hb with r | r
  ·rw [r]; exact hx.new
  ·rw [List.mem_singleton.mp r]; exact nT
 have n1 : ∀ b ∈ [e, T], s₀.heap.get? b = none := fun b hb => I.s0_none rfl (n0 b hb)
 have n2 : ∀ b ∈ [e, T], H b = none := fun b hb => I.hok.none_of (n0 b hb)
 refine ⟨e, cls, [e, T], H, rfl, I.os, I.bare, I.noteUn rfl n1 stay up', I.noteOk n2 stay, fun b hb => ⟨n1 b hb, n2 b hb⟩, ⟨.head _, .ref t, ?_⟩, q⟩
 exact ⟨fun b o z => yz z, vK (.head _), nI f3, oe, vs, T, oT, ts, he, hc, hd, h1, vK (.tail _ (.head _)), hTe, hT, hdT, h3⟩
abbrev XKs := St -> XK
def fj (CX : CXT) (X : Cx) (E : XKs) : Prop := ∀ (pins : List (Addr × Obj)) (σ : St) (H : Hp) (s : Shared) (e : Value) (s' : Shared), Inv X pins σ H s -> CX X.stack H s (E σ) e s' -> X.xe e s'
def BZ (X : Cx) (E : XKs) : Prop := ∀ (pins : List (Addr × Obj)) (σ : St) (H : Hp) (s : Shared) (h' : Heap) (e : Addr) (cls : Value) (args : List Value), Inv X pins σ H s -> Heap.MadeExcOf s.heap h' e cls args -> E σ cls none H -> X.xe (.ref e) { s with heap := h' }
theorem dE : BZ (fz (XE P w) P w K mg base N qual scope f cd A outer s₀ H₀ E) (fun _ => E) := fun _ _ _ _ _ _ _ _ I hx q => yX I hx q
theorem bb : fj (XE P w) (fz (XE P w) P w K mg base N qual scope f cd A outer s₀ H₀ E) (fun _ => E) := by
 intro pins σ H s ev s' I hq
 obtain ⟨e, C, rs, H', rfl, os, bare, un, hok, hrs, ⟨her, a0, fl⟩, q⟩ := hq
 have J : Inv (fz (XE P w) P w K mg base N qual scope f cd A outer s₀ H₀ E) pins σ H' s' := I.call' os un hok bare (fun b z => nomatch z)
 show wpAny (model P w) (A.deeper (envOfC qual scope s₀.heap.objs.size f cd)) (leaving (envOfC qual scope s₀.heap.objs.size f cd) (.ref e)) (fun _ s'' => XE P w outer H₀ s₀ E (.ref e) s'') (fun e' s'' => XE P w outer H₀ s₀ E e' s'') s'
 have hst : s'.heap.FunFrames base (envOfC qual scope s₀.heap.objs.size f cd :: outer) := J.stack
 refine wpAny_leaves_onW (base := hid s'.heap (envOfC qual scope s₀.heap.objs.size f cd :: outer) rs) I.ok.frames rfl fl fun h'' fl' up => ?_
 obtain ⟨f1, f2, f3, oe, vs, T, oT, ts, he, hc, hd, h1, hnT, hTe, hT, hdT, h3⟩ := fl'
 have nT := zP hst up hnT hT hdT
 have stay : ∀ b o, s'.heap.get? b = some o -> b ∉ frs (envOfC qual scope s₀.heap.objs.size f cd :: outer) -> b ∉ T :: rs -> h''.get? b = some o := fun b o z hb hr => f1 b o (nX z hb fun y => hr (.tail _ y))
 have n1 : ∀ b ∈ T :: rs, s₀.heap.get? b = none := fun b hb => by
  rcases List.mem_cons.mp hb with r | r
  ·rw [r]
   rcases nT with z | z
   ·exact J.s0_none rfl z
   ·exact I.s0_none rfl (hrs T z).1
  ·exact I.s0_none rfl (hrs b r).1
 have n2 : ∀ b ∈ T :: rs, H' b = none := fun b hb => by
  rcases List.mem_cons.mp hb with r | r
  ·rw [r]
   rcases nT with z | z
   ·exact hok.none_of z
   ·exact (hrs T z).2
  ·exact (hrs b r).2
 refine ⟨e, C, T :: rs, H', rfl, J.os, J.bare, J.noteUn rfl n1 stay up, J.noteOk n2 stay, fun b hb => ⟨n1 b hb, n2 b hb⟩, ⟨.tail _ her, a0, ?_⟩, q⟩
 exact ⟨fun b o z => yz z, vK (.tail _ her), nI f3, oe, vs, T, oT, ts, he, hc, hd, h1, vK (.head _), hTe, hT, hdT, h3⟩
end
def y_ (sp : Sp) (dvs : List V) (E : XKs) (t : TA) : TE := fun σ H Q => t σ H fun vs H1 => sp (vs ++ dvs) H1 Q (E σ)
section
variable {X : Cx} {CX : CXT} {k : Nat} {f C : Addr} {fd : FuncData} {ps : List Str} {sp : Sp} {dvs : List V} {ds : List Value} {E : XKs} {x m : Str} {p pos apos : Pos} {e o : Expr} {es : List Expr} {ta : TE} {t : TA}
theorem wu {pins : List (Addr × Obj)} {σ : St} {H : Hp} {s : Shared} {Q : VK} {us : List Value} {vs : List V} (F : bQ X.prog X.w X.K X.mg X.base CX k f fd ps sp) (hr : Room k X.A) (hb : Binds X.K fd ps ds) (hd : Vals dvs ds) (hx : fj CX X E)
 (I : Inv X pins σ H s) (r : Vals vs us) (h : sp (vs ++ dvs) H Q (E σ)) : wpAny (model X.prog X.w) X.A (call (.ref f) us) (EP X pins σ Q) X.xe s := by
 have r2 : Vals (vs ++ dvs) (us ++ ds) := r.append hd
 have hl : (us ++ ds).length = ps.length := by rw [<- r2.length]; exact F.len _ _ _ _ h
 refine wpAny_call (codeAny_mono (F.run X.A X.stack s H ⟨us, []⟩ (us ++ ds) (vs ++ dvs) Q (E σ) hr I.env0 (hb s us I.kIn hl) r2 h) fun r s' hq => ?_)
 cases r with
 | error e => exact hx pins σ H s e s' I hq
 | ok fl =>
  cases fl with
  | ret u => exact I.after hq
  | next => exact False.elim hq
  | brk => exact False.elim hq
  | cont => exact False.elim hq
theorem aN (F : bQ X.prog X.w X.K X.mg X.base CX k f fd ps sp) (hr : Room k X.A) (hg : Gl X x) (hm : X.mg x = some (.ref f)) (hk : PySem.W.keepIn X.K (.ref f) = true) (hb : Binds X.K fd ps ds) (hd : Vals dvs ds) (hx : fj CX X E)
 (ha : PA X (e :: es) t) (hdb : (x == ("__debug__" : Str)) = false := by decide) (he : starEach (e :: es) X.env = (false, eval e X.env) :: starEach es X.env := by rfl) (hpl : (backTo pos (starEach es X.env)).any (·.1) = false := by rfl) :
 PE X (.Call (.Name x p) (e :: es) [] pos) (y_ sp dvs E t) := by
 intro pins s σ H Q I h
 refine wpAny_Call_Name_kw (jT I hg hm ?_ hdb)
 refine PySem.W.callWith_K (h₀ := X.base) I.ok.mod.kin hk (thn (ha pos pins s σ H _ I h) fun us s1 ⟨vs, H1, I1, r, q⟩ => ⟨I1.kIn, ?_⟩) he hpl
 exact wu F hr hb hd hx I1 r q
end
section
variable {P : Program} {w : World} {K : W.Frag} {mg : Str -> Option Value} {base : Heap}
theorem Fun.okX {x qual : Str} {st : Stmt} {f : Addr} {fd : FuncData} {N ps : List Str} {k : Nat} {sp : Sp} (F : Fun K x qual st f fd) (S : aM N ps (ai st)) (len : ∀ vs H Q E, sp vs H Q E -> vs.length = ps.length)
 (hbody : ∀ (cdv : Value) (A : Around) (outer : List Env) (s : Shared) (H : Hp) (vs : List V) (Q : VK) (E : XK), Room k (A.deeper (envOfC qual (ai st) s.heap.objs.size f cdv)) -> sp vs H Q E ->
  ∃ t, PSs (fz (XE P w) P w K mg base N qual (ai st) f cdv A outer s H E) (aC st) t /\ t { nx := fun _ H' => Q .non H', rt := Q } (start N vs) H) : bQ P w K mg base (XE P w) (k + 1) f fd ps sp := by
 obtain ⟨oc, od, kV, doc, pm, an, cdv, ct, osl, rfl, lk, hcd⟩ := F.ex
 exact Hf lk hcd S len fun A outer s H vs Q E hr hsp => hbody cdv A outer s H vs Q E hr hsp
end
theorem DQ {K : W.Frag} {h : Heap} {C : Addr} {bmB : List Value} {newId : String} (X : K.In h) (q : PySem.W.excIn K C bmB newId = true) :
 ∃ bm N nm qn bs hdct sn sub ab col dd k0 k1 k2 k3 k5 mN, h.get? C = some (excClassObj nm qn C N bs bm hdct sn sub ab col dd k0 k1 k2 k3 k5 newId) /\ h.Ns N mN /\ mN "__init__" = none /\ OwnTail h bmB bm := by
 unfold PySem.W.excIn at q
 split at q
 ·rename_i dd cd sl ho
  split at q
  ·rename_i C' bm k0 k1 k2 k3 n k5 hm hs
   simp only [Bool.and_eq_true, beq_iff_eq, Bool.not_eq_true'] at q
   obtain ⟨⟨⟨⟨⟨rfl, rfl⟩, hdel⟩, ht⟩, hok⟩, hni⟩ := q
   obtain ⟨nm, bs, mro, ns, qn, hd, sn, sub, ab, col, del⟩ := cd
   dsimp only at hm hdel hok hni
   subst hm hdel
   have hsl : sl = #[k0, k1, k2, k3, some (.builtin n), k5] := by
    obtain ⟨l⟩ := sl
    simp only at hs
    rw [hs]
   subst hsl
   exact ⟨bm, ns, nm, qn, bs, hd, sn, sub, ab, col, dd, k0, k1, k2, k3, k5, _, X _ _ ho, .of_isNs (PySem.W.isNs_of_in X hok), PySem.W.nsMap_none_of_in X hok hni, PySem.W.tail_of_in X ht⟩
  ·cases q
 ·cases q
def CV (C : Addr) (E : XKs) (t : TA) : TS := fun _ σ H => t σ H fun vs H1 => vs.length <= sizeLine /\ E σ (.ref C) none H1
theorem cL {X : Cx} {x : Str} {C : Addr} {bmB : List Value} {B newId initId : String} {E : XKs} {e : Expr} {es : List Expr} {t : TA} {np cpos pos : Pos} (O : PySem.W.excIn X.K C bmB newId = true) (FB : ExcBaseFacts B newId initId bmB)
 (hc : X.calm = true) (hg : Gl X x) (hm : X.mg x = some (.ref C)) (hx : BZ X E) (ha : PA X (e :: es) t) (hdb : (x == ("__debug__" : Str)) = false := by decide)
 (he : starEach (e :: es) X.env = (false, eval e X.env) :: starEach es X.env := by rfl) (hpl : (backTo cpos (starEach es X.env)).any (·.1) = false := by rfl) :
 PS X (.Raise (some (.Call (.Name x np) (e :: es) [] cpos)) none pos) (CV C E t) := by
 intro pins s σ H D I h
 obtain ⟨tl, N, nm, q, bs, hdct, sn, sub, ab, col, dd, k0, k1, k2, k3, k5, mN, hC, hN, hni, T⟩ := DQ I.mod.kin O
 refine wpAny_Raise_call_subT (C := C) (nm := nm) (q := q) (N := N) (bs := bs) (bm := tl) (hdct := hdct) (sn := sn) (sub := sub) (ab := ab) (col := col) (dd := dd) (k0 := k0) (k1 := k1) (k2 := k2) (k3 := k3) (k5 := k5)
  FB (mN := mN) (T.hasType FB.hasBase) (I.ok.hd hc) (by rw [he]; show (false || (backTo cpos (starEach es X.env)).any (·.1)) = false; rw [hpl]; rfl) hni (jT I hg hm ⟨rfl, ?_⟩ hdb)
 have hA := ha cpos pins s σ H _ I h
 rw [he] at hA ⊢
 refine Calls.evalArgs_plain (thn hA fun us s1 ⟨vs, H1, I1, r, hz, q1⟩ => ⟨rfl, by rw [<- r.length]; exact hz, I1.bk _ _ hC, hN.keeps I1.bk, T.keeps I1.bk, fun h' e' hm' => ?_⟩)
 exact hx pins σ H1 s1 h' e' (.ref C) us I1 hm' q1
end L2
namespace L2
open PySem PySem.Spec PyProof.Rows
section
variable {X : Cx} {pins : List (Addr × Obj)} {σ : St} {H : Hp} {s : Shared} {h' : Heap} {rs : List Addr}
theorem Inv.noted {t' : Nat} (I : Inv X pins σ H s) (hrs : ∀ b ∈ rs, X.s₀.heap.get? b = none /\ H b = none) (hpin : ∀ p ∈ X.pn ++ pins, p.1 ∉ rs)
 (stay : ∀ b o, s.heap.get? b = some o -> b ∉ frs X.stack -> b ∉ rs -> h'.get? b = some o) (up : s.heap.UpToSlots h') : Inv X pins σ H { s with heap := h', toks := t' } := by
 have B := I.base
 have cellK : ∀ c v, s.heap.IsCell c v -> h'.IsCell c v := fun c v ⟨o, ho, hd⟩ => by
  obtain ⟨sl, e⟩ := up c o ho fun vs q => by rw [hd] at q; cases q
  exact ⟨_, e, hd⟩
 have nrs : ∀ b o, X.s₀.heap.get? b = some o -> b ∉ rs := fun b o e z => by rw [(hrs b z).1] at e; cases e
 have nst : ∀ b o, X.s₀.heap.get? b = some o -> b ∉ X.fs -> b ∉ frs X.stack := fun b o e hb z => by
  rcases List.mem_cons.mp (I.stkSub b z) with q | q
  ·exact absurd (Nat.lt_of_lt_of_le (Heap.lt_size e) I.ok.above) (by rw [q]; exact Nat.lt_irrefl _)
  ·exact hb q
 refine ⟨I.ok, I.os, I.bare, ⟨fun b o q n hb hx => stay b o (B.keep b o q n hb hx) (nst b o q hb) (nrs b o q), fun b o q n hb hx => ?_, fun b o q n hx => B.free b o q n hx, fun b o q hx => ?_, B.tups, B.frzs, B.tbls⟩, ?_, fun x c e => ?_, I.free, I.freeC, fun p hp => ?_, I.noteOk (fun b hb => (hrs b hb).2) stay, I.len⟩
 ·obtain ⟨sl, e1⟩ := B.slot b o q n hb hx
  obtain ⟨_, o', ho', hd⟩ := I.funs.mem hb
  rw [e1] at ho'; cases ho'
  obtain ⟨sl', e2⟩ := up b _ e1 hd
  exact ⟨sl', e2⟩
 ·obtain ⟨o', e1⟩ := B.there b o q hx
  by_cases hb : b ∈ frs X.stack
  ·obtain ⟨_, o2, ho2, hd⟩ := I.stack.mem hb
   obtain ⟨sl', e2⟩ := up b _ ho2 hd
   exact ⟨_, e2⟩
  ·exact ⟨o', stay b o' e1 hb (nrs b o q)⟩
 ·obtain ⟨m, hn, hl⟩ := I.loc
  refine ⟨m, up.ns hn, fun i x v e1 e2 e3 => ?_⟩
  obtain ⟨u, r, l⟩ := hl i x v e1 e2 e3
  refine ⟨u, r, ?_⟩
  rcases l with l | ⟨k, c, e, z⟩
  ·exact .inl l
  ·exact .inr ⟨k, c, e, cellK c _ z⟩
 ·obtain ⟨v, z⟩ := I.cell x c e
  exact ⟨v, cellK c v z⟩
 ·obtain ⟨e, n, ne, nf, d⟩ := I.pin p hp
  exact ⟨stay p.1 p.2 e (fun z => (List.mem_cons.mp (I.stkSub _ z)).elim ne nf) (hpin p hp), n, ne, nf, d⟩
theorem Inv.track {a : Addr} {o : HO} (I : Inv X pins σ H s) (hn : H a = none) (h0 : X.s₀.heap.get? a = none) (hL : a ≠ X.env.locals) (hc : ∀ x c, X.env.cells.lookup x = some c -> c ≠ a) (hp : ∀ p ∈ X.pn ++ pins, p.1 ≠ a)
 (new : ObjOk X.prog X.w (upd H a o) s.heap a o) : Inv X pins σ (upd H a o) s := by
 have B := I.base
 refine ⟨I.ok, I.os, I.bare, ⟨B.keep, B.slot, fun b ob q n hx => ?_, B.there, fun b xs q => ?_, fun b ob xs q => ?_, fun b ps q => ?_⟩, I.loc, I.cell, ?_, fun x c e => ?_, fun p hp' => ?_, fun b u e => ?_, I.len⟩
 ·have : b ≠ a := fun z => by rw [z, h0] at q; cases q
  rw [ar this]; exact B.free b ob q n hx
 ·have e := B.tups b xs q
  rw [ar (au e hn)]; exact e
 ·have e := B.frzs b ob xs q
  rw [ar (au e hn)]; exact e
 ·obtain ⟨m, e⟩ := B.tbls b ps q
  exact ⟨m, by rw [ar (au e hn)]; exact e⟩
 ·rw [ar (Ne.symm hL)]; exact I.free
 ·rw [ar (hc x c e)]; exact I.freeC x c e
 ·obtain ⟨e, n, ne, nf, d⟩ := I.pin p hp'
  exact ⟨e, by rw [ar (hp p hp')]; exact n, ne, nf, d⟩
 ·by_cases hb : b = a
  ·subst hb
   rw [ae] at e
   cases e
   exact new
  ·rw [ar hb] at e
   refine (I.hok b u e).stay (fun c v _ q => q) (fun c q => ?_) fun c xs q => ?_
   ·rw [ar (au q hn)]; exact q
   ·rw [ar (au q hn)]; exact q
theorem Cx.Ok.re (ok : X.Ok) (A' : Around) (hf : A'.frames = X.A.frames) (cm : Bool) (hh : cm = true -> A'.handled = none) (pn : List (Addr × Obj)) (xe : Value -> Shared -> Prop) : ({ X with A := A', calm := cm, pn := pn, xe := xe } : Cx).Ok :=
 ⟨ok.mod, ok.kind, ok.glob, ok.blt, ok.above, ok.inj, ok.has, ok.cab, hh, hf.trans ok.frames, ok.stk, ok.exf, ok.bs, ok.bsz, ok.noex, ok.exfs, ok.funs, ok.frf⟩
theorem Inv.toPn (I : Inv X pins σ H s) (xe : Value -> Shared -> Prop) : Inv { X with pn := X.pn ++ pins, xe := xe } [] σ H s :=
 ⟨I.ok.re X.A rfl X.calm I.ok.hd _ _, I.os, I.bare, I.base, I.loc, I.cell, I.free, I.freeC, fun p hp => I.pin p (by rw [List.append_nil] at hp; exact hp), I.hok, I.len⟩
theorem Inv.ofPn {xe : Value -> Shared -> Prop} {pins' : List (Addr × Obj)} (ok : X.Ok) (I : Inv { X with pn := X.pn ++ pins, xe := xe } pins' σ H s) : Inv X pins σ H s :=
 ⟨ok, I.os, I.bare, I.base, I.loc, I.cell, I.free, I.freeC, fun p hp => I.pin p (List.mem_append_left _ hp), I.hok, I.len⟩
abbrev Cx.caught (X : Cx) (e : Addr) : Cx := { X with A := X.A.mark (some (.ref e)), calm := false, pn := X.pn, xe := fun _ _ => False }
theorem Inv.toCaught (I : Inv X pins σ H s) (e : Addr) : Inv (X.caught e) pins σ H s :=
 ⟨I.ok.re (X.A.mark (some (.ref e))) rfl false (fun z => nomatch z) _ _, I.os, I.bare, I.base, I.loc, I.cell, I.free, I.freeC, I.pin, I.hok, I.len⟩
theorem Inv.ofCaught {e : Addr} (ok : X.Ok) (I : Inv (X.caught e) pins σ H s) : Inv X pins σ H s :=
 ⟨ok, I.os, I.bare, I.base, I.loc, I.cell, I.free, I.freeC, I.pin, I.hok, I.len⟩
theorem md {M : Model} {A : Around} {E : Value -> Shared -> Prop} {i : Nat} {n : Str} {pos : Pos} {Q : Unit -> Shared -> Prop} (I : Inv X pins σ H s) (hN : X.N.Nodup) (hi : X.N[i]? = some n) (hk : X.env.kindOf n = some .local)
 (h : ∀ s', Inv X pins (σ.set i none) H s' -> Q () s') : wpAny M A (do bindName X.env n .none; unbindBehindTheSuite X.env n pos) Q E s := by
 obtain ⟨m, hn, hl⟩ := id I.loc
 have hcls : (X.env.scope.kind == .class || (X.env.scope.kind == .module && X.env.locals != X.env.globals)) = false := by rw [I.ok.kind]; rfl
 have cne := I.cne
 refine wpAny_nameGoes_keeps hk hn hcls fun h' v hn' hs => ?_
 obtain ⟨oL, _, _, hoL, _⟩ := id hn
 refine h _ ⟨I.ok, I.os, I.bare, ⟨fun b o e n hb hx => ?_, fun b o e n hb hx => ?_, I.base.free, fun b o e hx => ?_, I.base.tups, I.base.frzs, I.base.tbls⟩, ⟨_, hn', fun j y v' e1 e2 e3 => ?_⟩, fun y c e => ?_, I.free, I.freeC, fun p hp => ?_, fun b ob e => ?_, by simpa using I.len⟩
 ·exact (hs.2 b (Nat.ne_of_lt (Nat.lt_of_lt_of_le (Heap.lt_size e) I.ok.above))).trans (I.base.keep b o e n hb hx)
 ·obtain ⟨sl, e1⟩ := I.base.slot b o e n hb hx
  exact ⟨sl, (hs.2 b (Nat.ne_of_lt (Nat.lt_of_lt_of_le (Heap.lt_size e) I.ok.above))).trans e1⟩
 ·obtain ⟨o', e1⟩ := I.base.there b o e hx
  exact ⟨o', (hs.2 b (Nat.ne_of_lt (Nat.lt_of_lt_of_le (Heap.lt_size e) I.ok.above))).trans e1⟩
 ·by_cases hj : j = i
  ·subst hj
   rw [List.getElem?_set] at e2
   simp at e2
  ·rw [List.getElem?_set_ne (Ne.symm hj)] at e2
   obtain ⟨u', r', q⟩ := hl j y v' e1 e2 e3
   refine ⟨u', r', ?_⟩
   rcases q with ⟨k, e⟩ | ⟨k, c, e, z⟩
   ·refine .inl ⟨k, ?_⟩
    have : y ≠ n := fun e => hj (tT hN e1 (e ▸ hi))
    simp [this, e]
   ·exact .inr ⟨k, c, e, z.sameBut hs (cne y c e)⟩
 ·obtain ⟨w', z⟩ := I.cell y c e
  exact ⟨w', z.sameBut hs (cne y c e)⟩
 ·obtain ⟨e, n, ne, nf, d⟩ := I.pin p hp
  exact ⟨(hs.2 p.1 ne).trans e, n, ne, nf, d⟩
 ·refine (I.hok b ob e).stay (fun c w' hc q => (hs.2 c ?_).trans q) (fun _ q => q) fun _ _ q => q
  rintro rfl
  rcases hc with rfl | hc
  ·rw [I.free] at e; cases e
  ·rw [I.free] at hc; cases hc
end
theorem vp {M : Model} {A : Around} {E : Value -> Shared -> Prop} {s : Shared} {K : W.Frag} {e C D : Addr} {oe : Obj} {Q : Bool -> Shared -> Prop} (X : K.In s.heap) (he : s.heap.get? e = some oe) (hcls : oe.cls = .ref C)
 (hx : PySem.W.exmOne K (.ref C) (.ref D) = some true) (h : Q true s) : wpAny M A (excMatches (.ref e) (.ref D)) Q E s :=
 (PySem.W.exm_one (M := M) X (hcls ▸ (PySem.W.Looks.ld he).andThen .now) hx).here h
def jC (C : Value) (e : Addr) : HO := HO.ext fun h => ∃ o vs, h.get? e = some o /\ o.cls = C /\ o.data = .fields vs
def GO (K : W.Frag) (CH : Addr) (i : Nat) (tb : XKs -> TS) (th : TS) : TS := fun D σ H =>
 tb (fun σ' C _ H' => ∃ Ce, C = .ref Ce /\ PySem.W.exmOne K (.ref Ce) (.ref CH) = some true /\ ∀ e, H' e = none ->
  th { nx := fun σ2 H2 => D.nx (σ2.set i none) H2, rt := D.rt, bk := fun σ2 H2 => D.bk (σ2.set i none) H2, ct := fun σ2 H2 => D.ct (σ2.set i none) H2 } (σ'.set i (some (.ref e))) (upd H' e (jC (.ref Ce) e))) D σ H
theorem Da {X : Cx} {CH : Addr} {i : Nat} {n x : Str} {np hpos pos : Pos} {body suite : List Stmt} {b₀ : Stmt} {tb : XKs -> TS} {th : TS} (hN : X.N.Nodup) (hi : X.N[i]? = some n) (hk : X.env.kindOf n = some .local)
 (hg : Gl X x) (hm : X.mg x = some (.ref CH))
 (hex : X.ex = []) (hst : X.stack = X.env :: X.outer) (hfr : X.env.frame = some X.env.locals)
 (hb : ∀ (pn : List (Addr × Obj)) (Ee : Value -> Shared -> Prop) (Ex : XKs), fj (XE X.prog X.w) { X with pn := pn, xe := Ee } Ex -> PSs { X with pn := pn, xe := Ee } body (tb Ex))
 (hh : ∀ e : Addr, PSs (X.caught e) (b₀ :: suite) th) (hdb : (x == ("__debug__" : Str)) = false := by decide) :
 PS X (.Try body [.ExceptHandler (some (.Name x np)) (some n) (b₀ :: suite) hpos] [] [] pos) (GO X.K CH i tb th) := by
 intro pins s σ H D I h
 refine wpAny_Try_except ?_
 have ok := I.ok
 refine wpAny_mono (hb (X.pn ++ pins) _ _ ?hP [] s σ H D (I.toPn _) h) (fun f s1 hf => ?_) (fun _ _ z => z)
 case hP =>
  intro pins' σ' H1 s1 ev s1' I1 hq
  obtain ⟨e, C, rs, H', rfl, os, bare, un, hok, hrs, ⟨her, a0, fl⟩, ⟨Ce, rfl, hmro, hth⟩⟩ := hq
  have J1 := I1.call' os un hok bare (fun b z => nomatch z)
  have J : Inv X pins σ' H' s1' := J1.ofPn ok
  have I0 : Inv X pins σ' H1 s1 := I1.ofPn ok
  have hn0 : ∀ b ∈ rs, X.s₀.heap.get? b = none /\ H' b = none := fun b hb => by
   refine ⟨?_, (hrs b hb).2⟩
   cases q : X.s₀.heap.get? b with
   | none => rfl
   | some o =>
    obtain ⟨o', z⟩ := I0.base.there b o q (by rw [hex]; simp)
    rw [(hrs b hb).1] at z; cases z
  have hpin : ∀ p ∈ X.pn ++ pins, p.1 ∉ rs := fun p hp z => by
   have := (I0.pin p hp).1
   rw [(hrs _ z).1] at this; cases this
  have hstk : s1'.heap.FunFrames X.base (X.env :: X.outer) := by rw [<- hst]; exact J.stack
  rw [show X.stack = X.env :: X.outer from hst] at fl
  have hfrm : X.A.frames = some (X.env :: X.outer) := by rw [<- hst]; exact ok.frames
  show wpAny (model X.prog X.w) X.A (noteFrame (.ref e) X.env) _ _ s1'
  refine wpAny_looks_onW (base := hid s1'.heap (X.env :: X.outer) rs) hfrm hfr fl fun h₄ held up4 => ?_
  refine wpAny_landsW held fun h₅ fl5 up5 => ?_
  have nin : ∀ b, b ∉ frs X.stack -> b ∉ frs (X.env :: X.outer) := fun b hb => by rw [<- hst]; exact hb
  have stay5 : ∀ b o, s1'.heap.get? b = some o -> b ∉ frs X.stack -> b ∉ rs -> h₅.get? b = some o := fun b o z hb hr => fl5.1 b o (nX z (nin b hb) hr)
  have I5 : Inv X pins σ' H' { s1' with heap := h₅, toks := s1'.toks } := J.noted hn0 hpin stay5 (up4.trans up5)
  obtain ⟨ob, hob, hobc⟩ := fl5.there
  refine wpAny_handleBy_cons (codeAny_handlers_test (jT (X := X.caught e) (I5.toCaught e) hg hm (vp I5.kIn hob hobc hmro ?_) hdb)) (by intro q; cases q)
  refine codeAny_handlers_suite_as (lands_againW fl5 fun h₆ fl6 up6 => ?_)
  have stay6 : ∀ b o, s1'.heap.get? b = some o -> b ∉ frs X.stack -> b ∉ rs -> h₆.get? b = some o := fun b o z hb hr => fl6.1 b o (nX z (nin b hb) hr)
  have I6 : Inv X pins σ' H' { s1' with heap := h₆, toks := s1'.toks } := J.noted hn0 hpin stay6 ((up4.trans up5).trans up6)
  have e1 : s1.heap.get? e = none := (hrs e her).1
  obtain ⟨oe, vs, hoe, hoec, hoed, _⟩ := fl6.first
  have I6' : Inv X pins σ' (upd H' e (jC (.ref Ce) e)) { s1' with heap := h₆, toks := s1'.toks } := by
   refine I6.track (hrs e her).2 (hn0 e her).1 ?_ ?_ (fun p hp z => hpin p hp (by rw [z]; exact her)) ?_
   ·intro z
    obtain ⟨m, ⟨oL, _, _, hoL, _⟩, _⟩ := I0.loc
    rw [<- z, e1] at hoL; cases hoL
   ·intro x c hc z
    obtain ⟨v, o, ho, _⟩ := I0.cell x c hc
    rw [z, e1] at ho; cases ho
   ·exact ⟨⟨oe, vs, hoe, hoec, hoed⟩, ⟨oe, hoe⟩, fun h1 h2 ⟨o, ws, a1, a2, a3⟩ k => ⟨o, ws, k o a1, a2, a3⟩⟩
  refine sX (X := X.caught e) (I6'.toCaught e) hN hi (Or.inl hk) (v := .ref e) rfl (fun s7 I7 => ?_) (.inr hk)
  refine wpAny_mono (hh e pins s7 _ _ _ I7 (hth e (hrs e her).2)) (fun f s8 hf => ?_) (fun _ _ z => z.elim)
  show wpAny (model X.prog X.w) X.A (do bindName X.env n .none; unbindBehindTheSuite X.env n hpos) (fun _ s₃ => SP X pins D f s₃) X.xe s8
  cases f with
  | next =>
   obtain ⟨σ2, H2, J2, q⟩ := hf
   exact md (J2.ofCaught ok) hN hi hk fun s9 I9 => ⟨_, _, I9, q⟩
  | brk =>
   obtain ⟨σ2, H2, J2, q⟩ := hf
   exact md (J2.ofCaught ok) hN hi hk fun s9 I9 => ⟨_, _, I9, q⟩
  | cont =>
   obtain ⟨σ2, H2, J2, q⟩ := hf
   exact md (J2.ofCaught ok) hN hi hk fun s9 I9 => ⟨_, _, I9, q⟩
  | ret u =>
   obtain ⟨v, σ2, H2, J2, r, q⟩ := hf
   exact md (J2.ofCaught ok) hN hi hk fun s9 I9 => ⟨v, _, _, I9, r, q⟩
 cases f with
 | next =>
  obtain ⟨σ', H', J, q⟩ := hf
  exact wpAny_execs_nil ⟨σ', H', J.ofPn ok, q⟩
 | brk =>
  obtain ⟨σ', H', J, q⟩ := hf
  exact ⟨σ', H', J.ofPn ok, q⟩
 | cont =>
  obtain ⟨σ', H', J, q⟩ := hf
  exact ⟨σ', H', J.ofPn ok, q⟩
 | ret u =>
  obtain ⟨v, σ', H', J, r, q⟩ := hf
  exact ⟨v, σ', H', J.ofPn ok, r, q⟩
end L2
namespace L2
open PySem PySem.Spec PyProof.Rows PySem.W
inductive A8 : V -> Value -> Prop where
 | ty (n : String) : A8 (.ty n) (.type n)
 | own (a : Addr) : A8 (.ref a) (.ref a)
section
variable {X : Cx}
theorem xt : CallR X (.builtin "isinstance") (fun xs H Q => ∃ x c t u b, xs = [x, c] /\ A8 c u /\ nR X.K H x t /\ PySem.W.kitOne X.K t u = some b /\ Q (.bl b) H) := by
 intro pins s σ H xs us Q I r h
 obtain ⟨x, c, t, u, b, rfl, rc, ty, e, q⟩ := h
 obtain ⟨ux, uc, rfl, rx, rc'⟩ := Cr r
 have ec : uc = u := by
  cases rc with
  | ty n => exact rc'
  | own a => exact rc'
 subst ec
 exact AH I rx ty e fun tk => ⟨.bl b, H, I.tok _, rfl, q⟩
end
structure da (K : Frag) (C : Addr) : Prop where
 l1 : findIn K (.ref C) "__getattribute__" = some (some (.builtin "BaseException.__getattribute__"))
 l2 : findIn K (.ref C) "__getattr__" = some none
 l3 : findIn K (.ref C) "__class__" = some (some (.builtin "object.__class__"))
 c1 : (clsIn K C).isSome = true
 m1 : mroIn K C (.type "object") = some true
 m2 : mroIn K C (.type "BaseException") = some true
section
variable {prog : Program} {w : World} {A : Around} {E : Value -> Shared -> Prop} {K : Frag} {e C : Addr} {o : Obj} {s : Shared}
open Builtin Builtin.ObjectAttr Builtin.Getset_descriptor PySem.Calls in
theorem t_ {R : Result -> Shared -> Prop} {tp : Value} (X : K.In s.heap) (Z : da K C) (hx : s.heap.get? e = some o) (hc : o.cls = .ref C)
 (h : R (.ok (.ret (.ref C))) s) : codeAny (model prog w) A (.call (.builtin "getset_descriptor.__get__") ⟨[.builtin "object.__class__", .ref e, tp], []⟩) R s := by
 obtain ⟨hh, g, dr, t, os⟩ := s
 have L0 : Looks (model prog w) hh (typeOf (.ref e)) (.ref C) := hc ▸ (Looks.ld hx).andThen .now
 have L1 := looks_mroIn (M := model prog w) X Z.m1
 refine codeAny_call_builtin KF.slot_gs.plain KF.entry_gs (KF.slot_gs.check _ _ _ _ _ _ _ _ KF.type_class (KF.args_gs _ _ _) ?_)
 unfold Builtin.«getset_descriptor.__get__» descrGet
 rw [dga_obj]
 refine wpAny_bind (wpAny_pure ?_)
 unfold descrGetter descrCheckInstance descrNameAndClass isInstance
 simp only [KF.owner_class]
 repeat lk
 refine ⟨Code.quiet_builtin _ (by decide +kernel), codeAny_builtin KF.entry_class ?_⟩
 unfold Builtin.«object.__class__» shownTypeOf
 repeat lk
 exact h
theorem wg {M : Model} {nameV : Value} {Q : Unit -> Shared -> Prop} (X : K.In s.heap) (Z : da K C) (hx : s.heap.get? e = some o) (hc : o.cls = .ref C) (hq : Q () s) :
 wpAny M A (checkBuiltinCall "BaseException.__getattribute__" ⟨[.ref e, nameV], []⟩) Q E s := by
 have hk : builtinKind "BaseException.__getattribute__" = some .slot := by decide +kernel
 have hsplit : splitId "BaseException.__getattribute__" = some ("BaseException", "__getattribute__") := by decide +kernel
 have ha := F.args_bexc_ga (.ref e) nameV
 obtain ⟨hh, g, dr, t, os⟩ := s
 have L0 : Looks M hh (typeOf (.ref e)) (.ref C) := hc ▸ (Looks.ld hx).andThen .now
 have L1 := looks_mroIn (M := M) X Z.m2
 have LI : Looks M hh (isInstance (.ref e) (.type "BaseException")) true := L0.andThen L1
 simp only [checkBuiltinCall, hk, hsplit]
 refine wpAny_bind (LI.at ?_)
 repeat (first | assumption | wp_step)
theorem wq {tk : Tok} {Q : Fin -> Shared -> Prop} (X : K.In s.heap) (Z : da K C) (hx : s.heap.get? e = some o) (hc : o.cls = .ref C) (hq : Q (.done (.ret (.ref C))) s) :
 wpAny (model prog w) A (Builtin.«object.__getattribute__» ⟨[.ref e, .str "__class__" tk], []⟩) Q E s := by
 obtain ⟨hh, g, dr, t, os⟩ := s
 have L0 : Looks (model prog w) hh (typeOf (.ref e)) (.ref C) := hc ▸ (Looks.ld hx).andThen .now
 have L3 := looks_findIn (M := model prog w) X Z.l3
 have f5 := KF.type_class
 have f6 := F.slot_gs_get.lookup
 have f7 := F.slot_gs_set.lookup
 repeat (any_goals (first | assumption | with_reducible refine L0.at ?_ | with_reducible refine L3.at ?_ | wp_step))
 refine t_ X Z hx hc ?_
 repeat (any_goals (first | assumption | wp_step))
theorem tj {Q : Option Value -> Shared -> Prop} (X : K.In s.heap) (Z : da K C) (hx : s.heap.get? e = some o) (hc : o.cls = .ref C) (h : Q (some (.ref C)) { s with toks := s.toks + 1 }) :
 wpAny (model prog w) A (getAttr? (.ref e) "__class__") Q E s := by
 obtain ⟨hh, g, dr, t, os⟩ := s
 have L0 : Looks (model prog w) hh (typeOf (.ref e)) (.ref C) := hc ▸ (Looks.ld hx).andThen .now
 have L1 := looks_findIn (M := model prog w) X Z.l1
 have L2 := looks_findIn (M := model prog w) X Z.l2
 have f3 := F.excAttr_ValueError.ga.bind (.ref e)
 have hx2 : (Value.builtin "BaseException.__getattribute__" == Value.builtin "object.__getattribute__") = false := by decide +kernel
 have hx0 : ∀ ex : Bool, (ex && onTheHeap (Value.builtin "BaseException.__getattribute__")) = false := fun ex => by cases ex <;> rfl
 have hx1 : (onTheHeap (Value.ref C) && Value.builtin "BaseException.__getattribute__" == Value.builtin "object.__getattribute__") = false := by rw [hx2]; rfl
 unfold getAttr?
 repeat (any_goals (first | assumption | with_reducible refine L0.at ?_ | with_reducible refine L1.at ?_ | with_reducible refine L2.at ?_ | wp_step))
 refine codeAny_call_builtin F.excAttr_ValueError.ga.plain F.entry_bexc_ga (wg X Z hx hc (wq X Z hx hc ?_))
 repeat (any_goals (first | assumption | wp_step))
theorem CD (Z : da K C) : KitX K (.ref e) (.ref C) (fun h => ∃ o, h.get? e = some o /\ o.cls = .ref C) where
 ty := fun M h _ ⟨o, h1, h2⟩ => h2 ▸ (Looks.ld h1).andThen .now
 it := fun M h X _ => by
  have c1 := Z.c1
  unfold clsIn at c1
  split at c1
  ·rename_i c' d' cd' sl' ho
   intro A' Q' E' s' k q
   unfold isType loadHead
   exact wpAny_bind (wpAny_loadPart (k _ _ (X _ _ ho)) (wpAny_pure q))
  ·cases c1
 ne := fun h tp dd its n sl X htp => by
  refine Bool.eq_false_iff.mpr fun q => ?_
  have e' : C = tp := Value.ref.inj (beq_iff_eq.mp q)
  subst e'
  have c1 := Z.c1
  unfold clsIn at c1
  split at c1
  ·rename_i c' d' cd' sl' ho
   have z := (X _ _ ho).symm.trans htp
   cases z
  ·cases c1
 ca := fun X ⟨o, h1, h2⟩ k => tj X Z h1 h2 k
end
section
variable {X : Cx}
theorem vG : CallR X (.builtin "isinstance") (fun xs H Q => ∃ e c C u b, xs = [.ref e, c] /\ A8 c u /\ H e = some (jC (.ref C) e) /\ da X.K C /\ PySem.W.kitOne X.K (.ref C) u = some b /\ Q (.bl b) H) := by
 intro pins s σ H xs us Q I r h
 obtain ⟨e, c, C, u, b, rfl, rc, he, Z, k, q⟩ := h
 obtain ⟨ux, uc, rfl, rx, rc'⟩ := Cr r
 have ec : uc = u := by
  cases rc with
  | ty n => exact rc'
  | own a => exact rc'
 subst ec
 cases (show ux = Value.ref e from rx)
 obtain ⟨⟨o, vs, h1, h2, _⟩, _, _⟩ := (show ObjOk X.prog X.w H s.heap e (jC (.ref C) e) from I.hok e _ he)
 exact kia_one (CD Z) I.kIn ⟨o, h1, h2⟩ k (fun z => nomatch z) fun tk => ⟨.bl b, H, I.tok _, rfl, q⟩
end
end L2
namespace L2
open PySem PySem.Spec PyProof.Rows
section
variable {X : Cx} {a b : Expr} {ta : TE}
def Ff (xs ys : List V) : Bool := (List.range (min xs.length ys.length)).all (fun j => eqV (xs.getD j .non) (ys.getD j .non)) && xs.length == ys.length
def D_ (K : W.Frag) (neg : Bool) : R2 := fun x y H Q => ∃ p p' xs ys, x = .ref p /\ y = .ref p' /\ SqT K H p xs /\ SqT K H p' ys /\ xs.all cy = true /\ ys.all cy = true /\ Q (.bl (neg ^^ Ff xs ys)) H
theorem so {A : Around} {s : Shared} {xs ys : List V} {us vs : List Value} (r : Vals xs us) (r' : Vals ys vs) (fx : xs.all cy = true) (fy : ys.all cy = true) (j : Nat) (h1 : j < us.toArray.size) (h2 : j < vs.toArray.size) :
 SeqAt.EqAt A s us.toArray[j] vs.toArray[j] (eqV (xs.getD j .non) (ys.getD j .non)) := by
 have e1 : us[j]? = some us.toArray[j] := by simp at h1; simp [h1]
 have e2 : vs[j]? = some vs.toArray[j] := by simp at h2; simp [h2]
 have l1 : j < xs.length := by rw [r.length]; simpa using h1
 have l2 : j < ys.length := by rw [r'.length]; simpa using h2
 have g1 : xs[j]? = some (xs.getD j .non) := by simp [List.getD, l1]
 have g2 : ys[j]? = some (ys.getD j .non) := by simp [List.getD, l2]
 obtain ⟨u, hu, ru⟩ := r.get g1
 obtain ⟨v, hv, rv⟩ := r'.get g2
 rw [e1] at hu
 rw [e2] at hv
 rw [Option.some.inj hu, Option.some.inj hv]
 exact yV ru rv (List.all_eq_true.mp fx _ (List.mem_of_getElem? g1)) (List.all_eq_true.mp fy _ (List.mem_of_getElem? g2))
theorem Ft (hu : X.A.units < cLine) : OpR X (compareOp .Eq) (D_ X.K false) := by
 intro pins s σ H x y v u Q I rx ry h
 obtain ⟨p, p', xs, ys, rfl, rfl, hx, hy, fx, fy, q⟩ := h
 cases (show v = Value.ref p from rx)
 cases (show u = Value.ref p' from ry)
 obtain ⟨its, r, pl, hz⟩ := I.tuple hx
 obtain ⟨its', r', pl', hz'⟩ := I.tuple hy
 refine SeqAt.eq_tupleAt pl pl' hu (fun j h1 h2 => so r r' fx fy j h1 h2) ⟨.bl _, H, I, rfl, ?_⟩
 rw [List.size_toArray, List.size_toArray, <- r.length, <- r'.length]
 simpa [Ff] using q
theorem FL (hu : X.A.units < cLine) : OpR X (compareOp .NotEq) (D_ X.K true) := by
 intro pins s σ H x y v u Q I rx ry h
 obtain ⟨p, p', xs, ys, rfl, rfl, hx, hy, fx, fy, q⟩ := h
 cases (show v = Value.ref p from rx)
 cases (show u = Value.ref p' from ry)
 obtain ⟨its, r, pl, hz⟩ := I.tuple hx
 obtain ⟨its', r', pl', hz'⟩ := I.tuple hy
 refine SeqAt.RcNeAt.tuples pl pl' hu (fun j h1 h2 => so r r' fx fy j h1 h2) X.prog X.w X.xe _ ⟨.bl _, H, I, rfl, ?_⟩
 rw [List.size_toArray, List.size_toArray, <- r.length, <- r'.length]
 simpa [Ff] using q
theorem Fs (hu : X.A.units < cLine) : OpR X (compareOp .Eq) (fun x y H Q => rEq x y H Q \/ D_ X.K false x y H Q) := GF.or (Ft hu)
theorem Fq (hu : X.A.units < cLine) : OpR X (compareOp .NotEq) (fun x y H Q => rNe x y H Q \/ D_ X.K true x y H Q) := Gv.or (FL hu)
theorem Bq : CallR X (.builtin "isinstance") (fun xs H Q => (∃ x c t u b, xs = [x, c] /\ A8 c u /\ nR X.K H x t /\ PySem.W.kitOne X.K t u = some b /\ Q (.bl b) H) \/
 ∃ e c C u b, xs = [.ref e, c] /\ A8 c u /\ H e = some (jC (.ref C) e) /\ da X.K C /\ PySem.W.kitOne X.K (.ref C) u = some b /\ Q (.bl b) H) := xt.or vG
theorem RelV.bool_iff {x : V} {v : Value} {k : Bool} (r : RelV x v) : (v == Value.bool k) = decide (x = .bl k) := by
 cases x with
 | non => cases (show v = Value.none from r); rfl
 | bl c => cases (show v = Value.bool c from r); cases c <;> cases k <;> rfl
 | int _ => obtain ⟨t, rfl⟩ := r; rfl
 | str _ => obtain ⟨t, rfl⟩ := r; rfl
 | byt _ => obtain ⟨t, rfl⟩ := r; rfl
 | flt _ => obtain ⟨t, rfl⟩ := r; rfl
 | ref p => cases (show v = Value.ref p from r); rfl
 | ty n => cases (show v = Value.type n from r); rfl
theorem qX {x : V} {v : Value} {k : Bool} (r : RelV x v) : plainIs v (.bool k) = true := by
 cases x with
 | non => cases (show v = Value.none from r); rfl
 | bl c => cases (show v = Value.bool c from r); rfl
 | int _ => obtain ⟨t, rfl⟩ := r; rfl
 | str _ => obtain ⟨t, rfl⟩ := r; rfl
 | byt _ => obtain ⟨t, rfl⟩ := r; rfl
 | flt _ => obtain ⟨t, rfl⟩ := r; rfl
 | ref p => cases (show v = Value.ref p from r); rfl
 | ty n => cases (show v = Value.type n from r); rfl
def FO (neg k : Bool) (ta : TE) : TE := fun σ H Q => ta σ H fun x H1 => Q (.bl (neg ^^ decide (x = .bl k))) H1
theorem FR {k : Bool} {j pos'} (ha : PE X a ta) : PC X .Is a (.Constant (.bool k) j pos') (FO false k ta) := by
 intro pins s σ H Q I h
 refine thn (ha pins s σ H _ I h) fun v s1 ⟨x, H1, I1, r1, q1⟩ => ?_
 exact Constant_bool (wpAny_is_plain (qX r1) ⟨.bl _, H1, I1, by rw [r1.bool_iff, Bool.false_xor]; rfl, q1⟩)
theorem Ev {k : Bool} {j pos'} (ha : PE X a ta) : PC X .IsNot a (.Constant (.bool k) j pos') (FO true k ta) := by
 intro pins s σ H Q I h
 refine thn (ha pins s σ H _ I h) fun v s1 ⟨x, H1, I1, r1, q1⟩ => ?_
 exact Constant_bool (wpAny_isNot_plain (qX r1) ⟨.bl _, H1, I1, by rw [r1.bool_iff, Bool.true_xor]; rfl, q1⟩)
end
end L2
namespace L2
open PySem PySem.Spec PyProof.Rows
abbrev T (l : List Nat) : V := .str ⟨⟨l⟩⟩
def cs (x : Str) : List Nat := x.cps.toList
theorem Fx (x : Str) : V.str x = T (cs x) := rfl
section
variable {X : Cx} {e a b c : Expr} {pos : Pos}
theorem PE.imp {t t' : TE} (h : PE X e t) (i : ∀ σ H Q, t' σ H Q -> t σ H Q) : PE X e t' := fun pins s σ H Q I q => h pins s σ H Q I (i σ H Q q)
theorem OpR.imp {f : Value -> Value -> Sem Value} {r r' : R2} (h : OpR X f r) (i : ∀ x y H Q, r' x y H Q -> r x y H Q) : OpR X f r' := fun pins s σ H x y v u Q I rx ry q => h pins s σ H x y v u Q I rx ry (i _ _ _ _ q)
theorem UnR.imp {f : Value -> Sem Value} {r r' : V -> Hp -> VK -> Prop} (h : UnR X f r) (i : ∀ x H Q, r' x H Q -> r x H Q) : UnR X f r' := fun pins s σ H x v Q I rx q => h pins s σ H x v Q I rx (i _ _ _ q)
theorem CallR.imp {f : Value} {r r' : List V -> Hp -> VK -> Prop} (h : CallR X f r) (i : ∀ x H Q, r' x H Q -> r x H Q) : CallR X f r' := fun pins s σ H x v Q I rx q => h pins s σ H x v Q I rx (i _ _ _ q)
theorem IxR.imp {r r' : R2} (h : IxR X r) (i : ∀ x y H Q, r' x y H Q -> r x y H Q) : IxR X r' := fun va sl pins s σ H x y v u Q I rx ry q hs => h va sl pins s σ H x y v u Q I rx ry (i _ _ _ _ q) hs
def Bp (i : Nat) : TE := fun σ H Q => match σ[i]? with
 | some (some v) => Q v H
 | _ => False
theorem fv (i : Nat) {x : Str} (hN : X.N[i]? = some x := by rfl) (hv : Vis X.env.scope x := by first | exact Or.inl rfl | exact Or.inr (Or.inl rfl) | exact Or.inr (Or.inr rfl)) (hd : (x == ("__debug__" : Str)) = false := by decide)
 (hcd : (x == ("__classdict__" : Str)) = false := by decide) : PE X (.Name x pos) (Bp i) := (Gm hN hv hd hcd).imp fun σ H Q h => by
 unfold Bp at h
 split at h
 ·exact ⟨_, by assumption, h⟩
 ·exact h.elim
theorem ak {x : Str} {j} (l : List Nat) (h : x = ⟨⟨l⟩⟩ := by decide +kernel) : PE X (.Constant (.str x) j pos) (tC (T l)) := h ▸ Fn
def DZ : R2
 | .int i, .int j, H, Q => Q (.int (i + j)) H
 | .str i, .str j, H, Q => (cs i).length + (cs j).length <= sizeLine /\ Q (T (cs i ++ cs j)) H
 | _, _, _, _ => False
theorem F6 (i j : Str) : V.str (i ++ j) = T (cs i ++ cs j) := by
 show V.str ⟨i.cps ++ j.cps⟩ = V.str ⟨⟨i.cps.toList ++ j.cps.toList⟩⟩
 congr 1
 congr 1
 exact (Array.ext' (by simp))
theorem bf : OpR X (binaryOp .Add) DZ := (EW.or zx).imp fun x y H Q h => by
 unfold DZ at h
 split at h
 ·exact .inl ⟨_, _, rfl, rfl, h⟩
 ·refine .inr ⟨_, _, rfl, rfl, by simpa [cs, Str.length] using h.1, ?_⟩
  rw [F6]; exact h.2
 ·exact h.elim
def gI (g : Int -> Int -> V) : R2
 | .int i, .int j, H, Q => Q (g i j) H
 | _, _, _, _ => False
def gIC (C : Int -> Int -> Prop) (g : Int -> Int -> V) : R2
 | .int i, .int j, H, Q => C i j /\ Q (g i j) H
 | _, _, _, _ => False
theorem Ez {g : Int -> Int -> V} : ∀ x y H Q, gI g x y H Q -> rI0 g x y H Q := fun x y H Q h => by
 unfold gI at h; split at h
 ·exact ⟨_, _, rfl, rfl, h⟩
 ·exact h.elim
theorem vJ {C : Int -> Int -> Prop} {g : Int -> Int -> V} : ∀ x y H Q, gIC C g x y H Q -> rI C g x y H Q := fun x y H Q h => by
 unfold gIC at h; split at h
 ·exact ⟨_, _, rfl, rfl, h.1, h.2⟩
 ·exact h.elim
theorem Dg : OpR X (binaryOp .Sub) (gI fun i j => .int (i - j)) := Fi.imp Ez
theorem lw : OpR X (binaryOp .Mult) (gIC CMul fun i j => .int (i * j)) := FI.imp vJ
theorem bt : OpR X (binaryOp .Mod) (gIC (fun _ j => 0 < j) fun i j => .int (i % j)) := Fd.imp vJ
theorem dD : OpR X (binaryOp .FloorDiv) (gIC Fp fun i j => .int (i / j)) := DY.imp vJ
theorem E_ : OpR X (binaryOp .Pow) (gIC Fb fun i j => .int (i ^ j.toNat)) := E9.imp vJ
def Gh : V -> Hp -> VK -> Prop
 | .int i, H, Q => Q (.int (-i)) H
 | _, _, _ => False
theorem kJ : UnR X (unaryOp .USub) Gh := F9.imp fun x H Q h => by
 unfold Gh at h; split at h
 ·exact ⟨_, rfl, h⟩
 ·exact h.elim
def leN (a b : List Nat) : Bool := !decide (b < a)
theorem AQ : OpR X (compareOp .LtE) (fun x y H Q => ∃ i j, x = .str i /\ y = .str j /\ Q (.bl (leN (cs i) (cs j))) H) := by
 intro pins s σ H x y v u Q I rx ry h
 obtain ⟨i, j, rfl, rfl, q⟩ := h
 obtain ⟨t, rfl⟩ := rx
 obtain ⟨t', rfl⟩ := ry
 exact PySem.P.le_str ⟨.bl _, H, I, rfl, q⟩
def gLe : R2
 | .int i, .int j, H, Q => Q (.bl (decide (i <= j))) H
 | .str i, .str j, H, Q => Q (.bl (leN (cs i) (cs j))) H
 | _, _, _, _ => False
theorem gH : OpR X (compareOp .LtE) gLe := (Hi.or AQ).imp fun x y H Q h => by
 unfold gLe at h; split at h
 ·exact .inl ⟨_, _, rfl, rfl, h⟩
 ·exact .inr ⟨_, _, rfl, rfl, h⟩
 ·exact h.elim
def gLt : R2
 | .int i, .int j, H, Q => Q (.bl (decide (i < j))) H
 | .str i, .str j, H, Q => Q (.bl (decide (cs i < cs j))) H
 | _, _, _, _ => False
theorem uV : OpR X (compareOp .Lt) gLt := (GY.or Bc).imp fun x y H Q h => by
 unfold gLt at h; split at h
 ·exact .inl ⟨_, _, rfl, rfl, h⟩
 ·exact .inr ⟨_, _, rfl, rfl, h⟩
 ·exact h.elim
theorem uB : OpR X (compareOp .Gt) (gI fun i j => .bl (decide (j < i))) := Gz.imp Ez
def eqS : V -> V -> Option Bool
 | .int i, .int j => some (decide (i = j))
 | .bl i, .bl j => some (decide (i = j))
 | .str i, .str j => some (decide (cs i = cs j))
 | .non, .non => some true
 | .non, .int _ => some false | .int _, .non => some false | .non, .bl _ => some false | .bl _, .non => some false | .non, .str _ => some false | .str _, .non => some false
 | .int _, .str _ => some false | .str _, .int _ => some false | .bl _, .str _ => some false | .str _, .bl _ => some false
 | _, _ => none
theorem yY (i j : Str) : V.str i = V.str j ↔ cs i = cs j := by
 constructor
 ·intro h; injection h with h; rw [h]
 ·intro h
  congr 1
  obtain ⟨⟨a⟩⟩ := i
  obtain ⟨⟨b⟩⟩ := j
  have h' : a = b := h
  rw [h']
theorem xQ {x y : V} {k : Bool} (h : eqS x y = some k) : FT x y = true /\ decide (x = y) = k := by
 unfold eqS at h
 split at h <;> (first | cases h) <;> refine ⟨rfl, ?_⟩
 case h_1 i j => exact decide_eq_decide.mpr (by simp)
 case h_2 i j => exact decide_eq_decide.mpr (by simp)
 case h_3 i j => exact decide_eq_decide.mpr (yY i j)
 all_goals simp
variable {ta tb tc : TE} {rest : List Expr}
def kB (Q : Bool -> Hp -> Prop) : VK := fun x H => match x with
 | .bl k => Q k H
 | _ => False
def wY (t : TE) : TT := fun σ H Q => t σ H (kB Q)
theorem px {Q : Bool -> Hp -> Prop} {x : V} {H : Hp} (h : kB Q x H) : ∃ k, x = .bl k /\ Q k H := by
 unfold kB at h
 split at h
 ·exact ⟨_, rfl, h⟩
 ·exact h.elim
theorem aY {op : CmpOp} {r : R2} (ho : OpR X (compareOp op) r) (ha : PE X a ta) (hb : PE X b tb) (hm : behindInMarks op b = false) : PT X (.Compare a [op] [b] pos) (wY (tOp r ta tb)) := by
 intro pins s σ H Q I h
 refine wpAny_isTrue_Compare1 (thn (ha pins s σ H _ I h) fun v s1 ⟨x, H1, I1, r1, q1⟩ => thn (hb pins s1 σ H1 _ I1 q1) fun u s2 ⟨y, H2, I2, r2, q2⟩ =>
  thn (ho pins s2 σ H2 x y v u _ I2 r1 r2 q2) fun c s3 ⟨z, H3, I3, r3, q3⟩ => ?_) hm
 obtain ⟨k, e, q3⟩ := px q3
 subst e
 cases r3
 exact wpAny_truthy_bool ⟨H3, I3, q3⟩
theorem gP {op : CmpOp} {t : TE} (h : PC X op a b t) (h1 : behindInMarks op b = false := by first | exact yn _ (by decide) (by decide) | rfl) : PT X (.Compare a [op] [b] pos) (wY t) := by
 intro pins s σ H Q I hw
 refine wpAny_isTrue_Compare1 (thn (h pins s σ H _ I hw) fun v s1 h1 => thn h1 fun u s2 h2 => thn h2 fun c s3 ⟨x, H1, I1, r1, q1⟩ => ?_) h1
 obtain ⟨d, rfl, q⟩ := px q1
 cases r1
 exact wpAny_truthy_bool ⟨H1, I1, q⟩
theorem b_ {t : TE} (h : PE X e t) (he : ∀ whole, isTrue e X.env whole = (do let v <- whole; standAt e.pos; holding [v] (truthy v)) := by intro _; rfl) : PT X e (wY t) := by
 intro pins s σ H Q I hw
 refine isTrue_plain (thn (h pins s σ H _ I hw) fun v s1 ⟨x, H1, I1, r1, q1⟩ => ?_) (he _)
 obtain ⟨d, rfl, q⟩ := px q1
 cases r1
 exact wpAny_truthy_bool ⟨H1, I1, q⟩
def yO (r r' : R2) (ta tb tc : TE) : TE := fun σ H Q => ta σ H fun x H1 => tb σ H1 fun y H2 => r x y H2 (kB fun k H3 => if k = true then tc σ H3 fun w' H4 => r' y w' H4 Q else Q (.bl false) H3)
theorem lX {op op' : CmpOp} {r r' : R2} (ho : OpR X (compareOp op) r) (ho' : OpR X (compareOp op') r') (ha : PE X a ta) (hb : PE X b tb) (hc : PE X c tc)
 (hm : lastMarks [op, op'] [b, c] = false := by with_unfolding_all rfl) : PE X (.Compare a [op, op'] [b, c] pos) (yO r r' ta tb tc) := by
 intro pins s σ H Q I h
 refine Compare_chain (thn (ha pins s σ H _ I h) fun v s1 ⟨x, H1, I1, r1, q1⟩ => chain_link (thn (hb pins s1 σ H1 _ I1 q1) fun u s2 ⟨y, H2, I2, r2, q2⟩ =>
  thn (ho pins s2 σ H2 x y v u _ I2 r1 r2 q2) fun d s3 ⟨z, H3, I3, r3, q3⟩ => ?_)) hm
 obtain ⟨k, e, q3⟩ := px q3
 subst e
 cases r3
 refine wpAny_truthy_bool ?_
 cases k with
 | false => exact ite_ff ⟨.bl false, H3, I3, rfl, q3⟩
 | true => exact ite_tt (chain_last (thn (hc pins s3 σ H3 _ I3 q3) fun w' s4 ⟨z', H4, I4, r4, q4⟩ => ho' pins s4 σ H4 y z' u w' Q I4 r2 r4 q4))
theorem BM {op op' : CmpOp} {r r' : R2} (ho : OpR X (compareOp op) r) (ho' : OpR X (compareOp op') r') (ha : PE X a ta) (hb : PE X b tb) (hc : PE X c tc)
 (hm : lastMarks [op, op'] [b, c] = false := by with_unfolding_all rfl) : PT X (.Compare a [op, op'] [b, c] pos) (wY (yO r r' ta tb tc)) := by
 intro pins s σ H Q I h
 refine isTrue_chain (thn (ha pins s σ H _ I h) fun v s1 ⟨x, H1, I1, r1, q1⟩ => test_link (thn (hb pins s1 σ H1 _ I1 q1) fun u s2 ⟨y, H2, I2, r2, q2⟩ =>
  thn (ho pins s2 σ H2 x y v u _ I2 r1 r2 q2) fun d s3 ⟨z, H3, I3, r3, q3⟩ => ?_)) hm
 obtain ⟨k, e, q3⟩ := px q3
 subst e
 cases r3
 refine wpAny_truthy_bool ?_
 cases k with
 | false => exact ite_ff ⟨H3, I3, q3⟩
 | true =>
  refine ite_tt (test_last (thn (hc pins s3 σ H3 _ I3 q3) fun w' s4 ⟨z', H4, I4, r4, q4⟩ => thn (ho' pins s4 σ H4 y z' u w' _ I4 r2 r4 q4) fun d' s5 ⟨z2, H5, I5, r5, q5⟩ => ?_))
  obtain ⟨k2, e2, q5⟩ := px q5
  subst e2
  cases r5
  exact wpAny_truthy_bool ⟨H5, I5, q5⟩
def Gx (ta tb : TE) : TE := fun σ H Q => ta σ H (kB fun c H1 => if c = true then tb σ H1 Q else Q (.bl false) H1)
def fOr (ta tb : TE) : TE := fun σ H Q => ta σ H (kB fun c H1 => if c = true then Q (.bl true) H1 else tb σ H1 Q)
def Hg (ta : TE) : TE := fun σ H Q => ta σ H (kB fun c H1 => Q (.bl (!c)) H1)
theorem eU (ha : PE X a ta) (hb : PE X (.BoolOp .And (b :: rest) pos) tb) : PE X (.BoolOp .And (a :: b :: rest) pos) (Gx ta tb) := by
 intro pins s σ H Q I h
 refine BoolOp_and (thn (ha pins s σ H _ I h) fun v s1 ⟨x, H1, I1, r1, q1⟩ => ?_)
 obtain ⟨c, rfl, q1⟩ := px q1
 cases r1
 refine wpAny_truthy_bool ?_
 cases c with
 | true => exact hb pins s1 σ H1 Q I1 q1
 | false => exact ⟨.bl false, H1, I1, rfl, q1⟩
theorem Ax (ha : PE X a ta) (hb : PE X (.BoolOp .Or (b :: rest) pos) tb) : PE X (.BoolOp .Or (a :: b :: rest) pos) (fOr ta tb) := by
 intro pins s σ H Q I h
 refine BoolOp_or (thn (ha pins s σ H _ I h) fun v s1 ⟨x, H1, I1, r1, q1⟩ => ?_)
 obtain ⟨c, rfl, q1⟩ := px q1
 cases r1
 refine wpAny_truthy_bool ?_
 cases c with
 | false => exact hb pins s1 σ H1 Q I1 q1
 | true => exact ⟨.bl true, H1, I1, rfl, q1⟩
theorem BS (ha : PE X a ta) : PE X (.UnaryOp .Not a pos) (Hg ta) := by
 intro pins s σ H Q I h
 refine UnaryOp_ (thn (ha pins s σ H _ I h) fun v s1 ⟨x, H1, I1, r1, q1⟩ => ?_)
 obtain ⟨c, rfl, q1⟩ := px q1
 cases r1
 exact not_of (wpAny_truthy_bool ⟨.bl (!c), H1, I1, rfl, q1⟩)
def E2 : List V -> Hp -> VK -> Prop
 | [.int i], H, Q => Q (.int (if i < 0 then -i else i)) H
 | _, _, _ => False
theorem Fm : CallR X (.builtin "abs") E2 := BO.imp fun x H Q h => by
 unfold E2 at h; split at h
 ·exact ⟨_, rfl, h⟩
 ·exact h.elim
def FF : List V -> Hp -> VK -> Prop
 | [.int i, .int j], H, Q => Q (.int (if j < i then j else i)) H
 | _, _, _ => False
theorem zi (hc : X.calm = true) : CallR X (.builtin "min") FF := (Br hc).imp fun x H Q h => by
 unfold FF at h; split at h
 ·exact ⟨_, _, rfl, h⟩
 ·exact h.elim
def Ec (K : W.Frag) : List V -> Hp -> VK -> Prop
 | [.str y], H, Q => (cs y).length <= sizeLine /\ Q (.int (cs y).length) H
 | [.ref p], H, Q => ∃ xs, (SqL K H p xs \/ SqT K H p xs) /\ Q (.int xs.length) H
 | _, _, _ => False
theorem Ge : CallR X (.builtin "len") (Ec X.K) := B0.imp fun x H Q h => by
 unfold Ec at h; split at h
 ·exact ⟨_, _, rfl, ⟨by simpa [cs, Str.length] using h.1, rfl⟩, by simpa [cs, Str.length] using h.2⟩
 ·obtain ⟨xs, hx, q⟩ := h
  rcases hx with hx | hx
  ·exact ⟨_, _, rfl, .inl ⟨xs, hx, rfl⟩, q⟩
  ·exact ⟨_, _, rfl, .inr ⟨xs, hx, rfl⟩, q⟩
 ·exact h.elim
def cN (H : Hp) : V -> Option String
 | .non => some "NoneType"
 | .bl _ => some "bool"
 | .int _ => some "int"
 | .str _ => some "str"
 | .ref p => match H p with
  | some (.lst _) => some "list"
  | some (.frz _ (.lst _)) => some "list"
  | some (.tup _) => some "tuple"
  | some (.dK _) => some "dict"
  | _ => none
 | _ => none
def cF (t n : String) : Bool := t == n || (t == "bool" && n == "int")
def lL (t : String) : Prop := t = "NoneType" \/ t = "bool" \/ t = "int" \/ t = "str" \/ t = "list" \/ t = "tuple" \/ t = "dict"
theorem Hh {K : W.Frag} {t n : String} (h : lL t) (hn : n = "int" \/ n = "bool" \/ n = "str" \/ n = "list" \/ n = "tuple" \/ n = "dict") : PySem.W.kitOne K (.type t) (.type n) = some (cF t n) := by
 rcases h with rfl | rfl | rfl | rfl | rfl | rfl | rfl <;> rcases hn with rfl | rfl | rfl | rfl | rfl | rfl <;> kernel_rfl
theorem yp {K : W.Frag} {H : Hp} {x : V} {t : String} (h : cN H x = some t) : nR K H x (.type t) /\ lL t := by
 unfold cN at h
 split at h
 ·cases h; exact ⟨.non, by simp [lL]⟩
 ·cases h; exact ⟨.bl _, by simp [lL]⟩
 ·cases h; exact ⟨.int _, by simp [lL]⟩
 ·cases h; exact ⟨.str _, by simp [lL]⟩
 ·split at h
  ·rename_i e; cases h; exact ⟨.lst e, by simp [lL]⟩
  ·rename_i e; cases h; exact ⟨.frz e, by simp [lL]⟩
  ·rename_i e; cases h; exact ⟨.tup e, by simp [lL]⟩
  ·rename_i e; cases h; exact ⟨.dK e, by simp [lL]⟩
  ·cases h
 ·cases h
def wK (n : String) : Bool := n == "int" || n == "bool" || n == "str" || n == "list" || n == "tuple" || n == "dict"
def Dj (K : W.Frag) : List V -> Hp -> VK -> Prop
 | [x, .ty n], H, Q => (match cN H x with
  | some t => wK n = true /\ Q (.bl (cF t n)) H
  | none => ∃ e C b, x = .ref e /\ H e = some (jC (.ref C) e) /\ da K C /\ PySem.W.kitOne K (.ref C) (.type n) = some b /\ Q (.bl b) H)
 | [.ref e, .ref D], H, Q => ∃ C b, H e = some (jC (.ref C) e) /\ da K C /\ PySem.W.kitOne K (.ref C) (.ref D) = some b /\ Q (.bl b) H
 | _, _, _ => False
theorem EY : CallR X (.builtin "isinstance") (Dj X.K) := Bq.imp fun xs H Q h => by
 unfold Dj at h
 split at h
 ·rename_i x n
  split at h
  ·rename_i t ht
   obtain ⟨ty, hb⟩ := yp (K := X.K) ht
   obtain ⟨hn, q⟩ := h
   refine .inl ⟨x, _, _, _, _, rfl, .ty n, ty, Hh hb ?_, q⟩
   simpa [wK, or_assoc] using hn
  ·obtain ⟨e, C, b, rfl, he, Z, k, q⟩ := h
   exact .inr ⟨e, _, C, _, b, rfl, .ty n, he, Z, k, q⟩
 ·rename_i e D
  obtain ⟨C, b, he, Z, k, q⟩ := h
  exact .inr ⟨e, _, C, _, b, rfl, .own D, he, Z, k, q⟩
 ·exact h.elim
end
section
variable {X : Cx} {a b : Expr} {ta tb : TE} {pos pos' : Pos}
def gIx (K : W.Frag) : R2
 | .str z, .int i, H, Q => (cs z).length <= sizeLine /\ (match atI (cs z) i with
  | some c => Q (T [c]) H
  | none => False)
 | .ref p, .int i, H, Q => ∃ xs v, (SqL K H p xs \/ SqT K H p xs) /\ atI xs i = some v /\ Q v H
 | _, _, _, _ => False
theorem F5 : IxR X (gIx X.K) := Fo.imp fun x y H Q h => by
 unfold gIx at h
 split at h
 ·obtain ⟨hz, h⟩ := h
  split at h
  ·rename_i c hc
   exact .inr (.inr ⟨_, _, c, rfl, rfl, by simpa [cs, Str.length] using hz, hc, h⟩)
  ·exact h.elim
 ·obtain ⟨xs, v, hs | hs, hv, q⟩ := h
  ·exact .inl ⟨_, xs, _, v, rfl, rfl, hs, hv, q⟩
  ·exact .inr (.inl ⟨_, xs, _, v, rfl, rfl, hs, hv, q⟩)
 ·exact h.elim
def j_ (xs : List V) (H H1 : Hp) (Q : VK) : V -> Prop
 | .int i => (match atI xs i with
  | some (.ref q) => H q = none /\ (match H1 q with
   | some o => qH o = true /\ Q (.ref q) (upd H q o)
   | none => False)
  | some v => Q v H
  | none => False)
 | _ => False
def Ct (ta : TA) (ti : TE) : TE := fun σ H Q => NoT H /\ ta σ H fun xs H1 => Same H H1 /\ xs.length <= sizeLine /\ ∀ p, H1 p = none -> ti σ (upd H1 p (.lst xs)) fun y H2 => H2 = upd H1 p (.lst xs) /\ j_ xs H H1 Q y
theorem BR {xs : List V} {H H1 : Hp} {Q : VK} {y : V} {p : Addr} {o : HO} (s : Same H H1) (hp : H1 p = none) (h : j_ xs H H1 Q y) : ∃ i v G, y = .int i /\ atI xs i = some v /\ Gc H G (upd H1 p o) /\ Q v G := by
 unfold j_ at h
 have s2 : Same H (upd H1 p o) := s.trans (al o hp)
 split at h
 ·rename_i i
  split at h
  ·rename_i q hq
   obtain ⟨hn, h⟩ := h
   split at h
   ·rename_i o' ho'
    exact ⟨i, _, _, rfl, hq, Gc.one s2 hn (by rw [ar (au ho' hp)]; exact ho') h.1, h.2⟩
   ·exact h.elim
  ·rename_i v _ hv
   exact ⟨i, v, H, rfl, hv, Gc.none s2, h⟩
  ·exact h.elim
 ·exact h.elim
theorem dw {es : List Expr} {t : TA} (ha : PA X es t) (hb : PE X b tb) (hs : zT b) : PE X (.Subscript (.List es pos') b pos) (Ct t tb) := by
 intro pins s σ H Q I h
 obtain ⟨n, h⟩ := h
 refine Subscript_ (wpAny_List_spliced (thn (ha pos' pins s σ H _ I h) fun us s1 ⟨xs, H1, I1, r, sm, z, q⟩ => ⟨by rw [<- r.length]; exact z, ?_⟩))
 have hf : H1 s1.heap.objs.size = none := I1.hok.fresh (Nat.le_refl _)
 refine thn (hb pins _ σ (upd H1 s1.heap.objs.size (.lst xs)) _ (I1.laid (t' := s1.toks) (fun b u e => Heap.get?_push_of_some _ e) (Nat.le_refl _) ⟨z, us, 0, r, Heap.get?_push_size _ rfl⟩) (q _ hf)) fun u s3 ⟨y, H3, I3, ry, e, k⟩ => ?_
 subst e
 obtain ⟨i, v, G, rfl, hv, g, hq⟩ := BR (o := .lst xs) sm hf k
 exact thn (z_ (.List es pos') b pins s3 σ _ (.ref _) (.int i) _ u (fun v' H' => v' = v /\ H' = upd H1 s1.heap.objs.size (.lst xs)) I3 rfl ry ⟨_, xs, i, v, rfl, rfl, SqL.of ae, hv, rfl, rfl⟩ (hs _ _))
  fun u' s4 ⟨v', H4, I4, r4, e1, e2⟩ => ⟨v, G, I.gc n (e2 ▸ I4) g, e1 ▸ r4, hq⟩
end
def sp0 (f : Hp -> VK -> XK -> Prop) : Sp := fun vs H Q E => match vs with
 | [] => f H Q E
 | _ => False
def sp1 (f : V -> Hp -> VK -> XK -> Prop) : Sp := fun vs H Q E => match vs with
 | [x] => f x H Q E
 | _ => False
def sp2 (f : V -> V -> Hp -> VK -> XK -> Prop) : Sp := fun vs H Q E => match vs with
 | [x, y] => f x y H Q E
 | _ => False
def sp3 (f : V -> V -> V -> Hp -> VK -> XK -> Prop) : Sp := fun vs H Q E => match vs with
 | [x, y, z] => f x y z H Q E
 | _ => False
def sp4 (f : V -> V -> V -> V -> Hp -> VK -> XK -> Prop) : Sp := fun vs H Q E => match vs with
 | [x, y, z, u] => f x y z u H Q E
 | _ => False
section
variable {vs : List V} {H : Hp} {Q : VK} {E : XK}
theorem sp1.inv {f} (h : sp1 f vs H Q E) : ∃ x, vs = [x] /\ f x H Q E := by
 unfold sp1 at h; split at h
 ·exact ⟨_, rfl, h⟩
 ·exact h.elim
theorem sp2.inv {f} (h : sp2 f vs H Q E) : ∃ x y, vs = [x, y] /\ f x y H Q E := by
 unfold sp2 at h; split at h
 ·exact ⟨_, _, rfl, h⟩
 ·exact h.elim
theorem sp3.inv {f} (h : sp3 f vs H Q E) : ∃ x y z, vs = [x, y, z] /\ f x y z H Q E := by
 unfold sp3 at h; split at h
 ·exact ⟨_, _, _, rfl, h⟩
 ·exact h.elim
theorem sp4.inv {f} (h : sp4 f vs H Q E) : ∃ x y z u, vs = [x, y, z, u] /\ f x y z u H Q E := by
 unfold sp4 at h; split at h
 ·exact ⟨_, _, _, _, rfl, h⟩
 ·exact h.elim
theorem sp1.len {f} (h : sp1 f vs H Q E) : vs.length = 1 := by obtain ⟨_, rfl, _⟩ := sp1.inv h; rfl
theorem sp2.len {f} (h : sp2 f vs H Q E) : vs.length = 2 := by obtain ⟨_, _, rfl, _⟩ := sp2.inv h; rfl
theorem sp3.len {f} (h : sp3 f vs H Q E) : vs.length = 3 := by obtain ⟨_, _, _, rfl, _⟩ := sp3.inv h; rfl
theorem sp4.len {f} (h : sp4 f vs H Q E) : vs.length = 4 := by obtain ⟨_, _, _, _, rfl, _⟩ := sp4.inv h; rfl
end
def asI (x : V) (f : Int -> Prop) : Prop := match x with
 | .int i => f i
 | _ => False
def asT (x : V) (f : List Nat -> Prop) : Prop := match x with
 | .str y => f (cs y)
 | _ => False
def asB (x : V) (f : Bool -> Prop) : Prop := match x with
 | .bl y => f y
 | _ => False
def asR (x : V) (f : Addr -> Prop) : Prop := match x with
 | .ref y => f y
 | _ => False
theorem asI.inv {x : V} {f : Int -> Prop} (h : asI x f) : ∃ i, x = .int i /\ f i := by
 unfold asI at h; split at h
 ·exact ⟨_, rfl, h⟩
 ·exact h.elim
theorem asT.inv {x : V} {f : List Nat -> Prop} (h : asT x f) : ∃ l, x = T l /\ f l := by
 unfold asT at h; split at h
 ·exact ⟨_, rfl, h⟩
 ·exact h.elim
theorem asR.inv {x : V} {f : Addr -> Prop} (h : asR x f) : ∃ i, x = .ref i /\ f i := by
 unfold asR at h; split at h
 ·exact ⟨_, rfl, h⟩
 ·exact h.elim
def asK (H : Hp) (x : V) (f : String -> Prop) : Prop := match cN H x with
 | some t => f t
 | none => False
theorem asK.inv {H : Hp} {x : V} {f : String -> Prop} (h : asK H x f) : ∃ t, cN H x = some t /\ lL t /\ f t := by
 unfold asK at h; split at h
 ·rename_i t ht
  exact ⟨t, ht, (yp (K := default) ht).2, h⟩
 ·exact h.elim
theorem asK.of {H : Hp} {x : V} {f : String -> Prop} {t : String} (e : cN H x = some t) (h : f t) : asK H x f := by unfold asK; rw [e]; exact h
theorem B7 {ns : List Int} {k : Int} (h0 : 0 <= k) (h1 : k < ns.length) : atI (ns.map V.int) k = some (.int (ns.getD k.toNat 0)) := by
 obtain ⟨j, rfl⟩ : ∃ j : Nat, k = j := ⟨k.toNat, by omega⟩
 refine aE ?_
 have l : j < ns.length := by omega
 simp [List.getD, l]
theorem AJ {ns : List Int} {H H1 : Hp} {Q : VK} {i : Int} (h0 : 0 <= i) (h1 : i < ns.length) (q : Q (.int (ns.getD i.toNat 0)) H) : j_ (ns.map V.int) H H1 Q (.int i) := by
 unfold j_
 simp only [B7 h0 h1]
 exact q
section
variable {X : Cx} (K : W.Frag)
theorem bI (h : X.K = K := by rfl) : CallR X (.builtin "isinstance") (Dj K) := h ▸ EY
theorem dm (h : X.K = K := by rfl) : CallR X (.builtin "len") (Ec K) := h ▸ Ge
theorem aq (h : X.K = K := by rfl) : IxR X (gIx K) := h ▸ F5
theorem Dl {tg l : Expr} {tl : TE} (hl : PE X l tl) (h : X.K = K := by rfl) : PI X tg l (Fr K tl) := h ▸ Fc hl
theorem lg {tg l : Expr} {tl : TE} (hl : PE X l tl) (h : X.K = K := by rfl) : PI X tg l (Aq K tl) := h ▸ Ed hl
end
theorem GQ {A B : Prop} (h : A) : if false = false then A else B := by
 rw [if_pos rfl]; exact h
theorem GK {H : Hp} {b : Bool} : cN H (.bl b) = some "bool" := rfl
theorem E4 {H : Hp} {i : Int} : cN H (.int i) = some "int" := rfl
theorem Gf {H : Hp} {s : Str} : cN H (.str s) = some "str" := rfl
theorem EV {H : Hp} : cN H .non = some "NoneType" := rfl
theorem Fy : wK "int" = true := by decide
theorem rA : cF "NoneType" "int" = false := by decide
theorem xz : cF "bool" "int" = true := by decide
theorem zn : cF "int" "int" = true := by decide
theorem zm : cF "str" "int" = false := by decide
theorem wR : cF "list" "int" = false := by decide
theorem vv : cF "tuple" "int" = false := by decide
theorem xh : cF "dict" "int" = false := by decide
theorem DN : wK "bool" = true := by decide
theorem qJ : cF "NoneType" "bool" = false := by decide
theorem vR : cF "bool" "bool" = true := by decide
theorem xK : cF "int" "bool" = false := by decide
theorem xY : cF "str" "bool" = false := by decide
theorem wv : cF "list" "bool" = false := by decide
theorem t8 : cF "tuple" "bool" = false := by decide
theorem vU : cF "dict" "bool" = false := by decide
theorem E6 : wK "str" = true := by decide
theorem rG : cF "NoneType" "str" = false := by decide
theorem wX : cF "bool" "str" = false := by decide
theorem zq : cF "int" "str" = false := by decide
theorem ze : cF "str" "str" = true := by decide
theorem xZ : cF "list" "str" = false := by decide
theorem vF : cF "tuple" "str" = false := by decide
theorem xf : cF "dict" "str" = false := by decide
theorem Ej : wK "list" = true := by decide
theorem pY : cF "NoneType" "list" = false := by decide
theorem vY : cF "bool" "list" = false := by decide
theorem xM : cF "int" "list" = false := by decide
theorem wP : cF "str" "list" = false := by decide
theorem vT : cF "list" "list" = true := by decide
theorem ua : cF "tuple" "list" = false := by decide
theorem vV : cF "dict" "list" = false := by decide
theorem BI : wK "tuple" = true := by decide
theorem pM : cF "NoneType" "tuple" = false := by decide
theorem ug : cF "bool" "tuple" = false := by decide
theorem vy : cF "int" "tuple" = false := by decide
theorem vI : cF "str" "tuple" = false := by decide
theorem uo : cF "list" "tuple" = false := by decide
theorem tQ : cF "tuple" "tuple" = true := by decide
theorem ue : cF "dict" "tuple" = false := by decide
theorem DC : wK "dict" = true := by decide
theorem qv : cF "NoneType" "dict" = false := by decide
theorem vq : cF "bool" "dict" = false := by decide
theorem yh : cF "int" "dict" = false := by decide
theorem xV : cF "str" "dict" = false := by decide
theorem wB : cF "list" "dict" = false := by decide
theorem ud : cF "tuple" "dict" = false := by decide
theorem vx : cF "dict" "dict" = true := by decide
theorem GP {H : Hp} {b : Bool} {f : String -> Prop} : asK H (.bl b) f = f "bool" := rfl
theorem Fz {H : Hp} {i : Int} {f : String -> Prop} : asK H (.int i) f = f "int" := rfl
theorem FS {H : Hp} {i : Str} {f : String -> Prop} : asK H (.str i) f = f "str" := rfl
theorem Gd {H : Hp} {f : String -> Prop} : asK H .non f = f "NoneType" := rfl
def BU : Expr -> Bool
 | .Starred _ _ => false
 | _ => true
theorem AO {e : Expr} {es : List Expr} {env : Env} (h : BU e = true) : starEach (e :: es) env = (false, eval e env) :: starEach es env := by
 cases e <;> first | rfl | cases h
structure FA (X : Cx) (es : List Expr) (t : TA) : Prop where
 pa : PA X es t
theorem ad {X : Cx} : FA X [] Co := ⟨FP⟩
theorem aa {X : Cx} {e : Expr} {es : List Expr} {te : TE} {t : TA} (ha : PE X e te) (hr : FA X es t) (h : BU e = true := by rfl) : FA X (e :: es) (Df te t) := ⟨Er ha hr.pa (AO h)⟩
theorem Dk {H : Hp} {P : Hp -> Prop} : (∃ G, Gc H G H /\ P G) ↔ P H := by
 constructor
 ·rintro ⟨G, g, p⟩
  have e : G = H := by
   funext b
   cases h : H b with
   | none => exact g.b.free h
   | some o => exact g.a b o h
  rw [<- e]; exact p
 ·exact fun p => ⟨H, Gc.refl, p⟩
theorem Hu {CX : CXT} {P : Program} {w : World} {K : W.Frag} {mg : Str -> Option Value} {base : Heap} {N : List Str} {qual : Str} {scope : Scope} {f : Addr} {cd : Value} {A : Around} {outer : List Env} {s : Shared} {H : Hp} {E : XK} :
 (fz CX P w K mg base N qual scope f cd A outer s H E).K = K := rfl
def isI : V -> Bool
 | .int _ => true
 | _ => false
def isS : V -> Bool
 | .str _ => true
 | _ => false
theorem xq {H : Hp} {x : V} {t : String} (h : cN H x = some t) : (t == "int") = isI x := by
 unfold cN at h
 split at h
 case h_5 => split at h <;> cases h <;> simp [isI]
 all_goals (cases h <;> simp [isI])
theorem AM {H : Hp} : Same H H ↔ True := ⟨fun _ => trivial, fun _ => Same.refl H⟩
theorem az {H : Hp} {p : Addr} {o : HO} (hN : NoT H) (d : qD o = true) : NoT (upd H p o) := hN.upd d
theorem D7 {i : Int} : isI (.int i) = true := rfl
theorem Gi {i : Bool} : isI (.bl i) = false := rfl
theorem Eo {i : Str} : isI (.str i) = false := rfl
theorem DX {i : Addr} : isI (.ref i) = false := rfl
theorem DR  : isI (.non) = false := rfl
theorem DL {i : Int} : isS (.int i) = false := rfl
theorem FD {i : Bool} : isS (.bl i) = false := rfl
theorem En {i : Str} : isS (.str i) = true := rfl
theorem Es {i : Addr} : isS (.ref i) = false := rfl
theorem DF  : isS (.non) = false := rfl
theorem Dh {H : Hp} (h : Bf H) : NoT H := fun b o e => by
 rcases h b with z | ⟨ob, xs, z⟩
 ·rw [e] at z; cases z
 ·rw [e] at z; cases z; rfl
def gcE (H : Hp) (E : XK) : XK := fun C d H' => ∃ G, Gc H G H' /\ E C d G
theorem Fun.okG {P : Program} {w : World} {K : W.Frag} {mg : Str -> Option Value} {base : Heap} {x qual : Str} {st : Stmt} {f : Addr} {fd : FuncData} {N ps : List Str} {k : Nat} {sp : Sp} (F : Fun K x qual st f fd) (S : aM N ps (ai st))
 (len : ∀ vs H Q E, sp vs H Q E -> vs.length = ps.length)
 (hbody : ∀ (cdv : Value) (A : Around) (outer : List Env) (s : Shared) (H : Hp) (vs : List V) (Q : VK) (E : XK), Room k (A.deeper (envOfC qual (ai st) s.heap.objs.size f cdv)) -> sp vs H Q E ->
  NoT H /\ ∃ t, PSs (fz (XE P w) P w K mg base N qual (ai st) f cdv A outer s H (gcE H E)) (aC st) t /\ t { nx := fun _ H' => ∃ G, Gc H G H' /\ Q .non G, rt := fun v H' => ∃ G, Gc H G H' /\ Q v G } (start N vs) H) : bQ P w K mg base (XE P w) (k + 1) f fd ps sp := by
 have F' : bQ P w K mg base (XE P w) (k + 1) f fd ps (fun vs H Q' E' => ∃ Q E, sp vs H Q E /\ Q' = (fun v H' => ∃ G, Gc H G H' /\ Q v G) /\ E' = gcE H E) := by
  refine F.okX S (fun vs H Q' E' ⟨Q, E, h, _⟩ => len vs H Q E h) (fun cdv A outer s H vs Q' E' hr h => ?_)
  obtain ⟨Q, E, h, rfl, rfl⟩ := h
  exact (hbody cdv A outer s H vs Q E hr h).2
 refine ⟨len, fun A outer s H args us vs Q E hr e0 hb r hsp => ?_⟩
 have nT : NoT H := by
  obtain ⟨oc, od, kV, doc, pm, an, cdv, ct, osl, rfl, lk, hcd⟩ := F.ex
  exact (hbody cdv A outer s H vs Q E (hr.deeper _) hsp).1
 refine codeAny_mono (F'.run A outer s H args us vs _ _ hr e0 hb r ⟨Q, E, hsp, rfl, rfl⟩) fun res s' h => ?_
 cases res with
 | error e =>
  obtain ⟨ea, C, rs, H', h1, h2, h3, un, hok, hrs, fly, G, g, q⟩ := h
  exact ⟨ea, C, rs, G, h1, h2, h3, un.gc g, HOk.gc nT e0.hok hok g, fun b hb => ⟨(hrs b hb).1, g.b.free (hrs b hb).2⟩, fly, q⟩
 | ok fl =>
  cases fl with
  | ret u =>
   obtain ⟨v, H', h1, h2, un, hok, rv, G, g, q⟩ := h
   exact ⟨v, G, h1, h2, un.gc g, HOk.gc nT e0.hok hok g, rv, q⟩
  | next => exact h
  | brk => exact h
  | cont => exact h
section
variable {K : W.Frag} {C D : Addr} {b : Bool} {cl : ClassData}
theorem uM (o : PySem.W.clsIn K D = some cl) (t : PySem.W.typeIn K (.ref D) = some (.type "type")) (m : PySem.W.mroIn K C (.ref D) = some b) : PySem.W.kitCls K (.ref C) (.ref D) = some b := by
 unfold PySem.W.kitCls
 simp only [o, t, Option.isSome_some, beq_self_eq_true, Bool.and_self, if_true]
 exact m
theorem dU (o : PySem.W.clsIn K D = some cl) (t : PySem.W.typeIn K (.ref D) = some (.type "type")) (s : PySem.W.mroIn K D (.type "BaseException") = some true) (m : PySem.W.mroIn K C (.ref D) = some b) : PySem.W.exmOne K (.ref C) (.ref D) = some b := by
 unfold PySem.W.exmOne
 have e : PySem.W.subIn K (.ref D) (.type "BaseException") = some true := s
 rw [e, if_pos (by rfl)]
 exact uM o t m
theorem ao (o : PySem.W.clsIn K D = some cl) (t : PySem.W.typeIn K (.ref D) = some (.type "type")) (s : PySem.W.mroIn K C (.ref C) = some true) (m : PySem.W.mroIn K C (.ref D) = some b) : PySem.W.kitOne K (.ref C) (.ref D) = some b := by
 unfold PySem.W.kitOne
 by_cases e : ((Value.ref C == Value.ref D) = true)
 ·rw [if_pos e]
  have e' : C = D := Value.ref.inj (beq_iff_eq.mp e)
  subst e'
  rw [s] at m; exact m
 ·rw [if_neg e]; exact uM o t m
theorem yJ : PySem.W.kitMeta "ValueError" = true := by kernel_rfl
theorem dP (m : PySem.W.mroIn K C (.type "ValueError") = some b) : PySem.W.kitOne K (.ref C) (.type "ValueError") = some b := by
 unfold PySem.W.kitOne
 rw [if_neg (by intro z; cases (beq_iff_eq.mp z))]
 unfold PySem.W.kitCls
 simp only [yJ, if_true]
 exact m
end
theorem BL {l : PySem.W.OpenLaw} {n k : Nat} {q : Program} {loose : List Str} {XP : (Str -> Option Value) -> Heap -> Prop} {YP : World -> Heap -> Prop} {d : DefRec} {K : Params -> W.Frag} {sp : W.Frag -> Sp} {x : Str}
 (hn : l.most = some n) (hn2 : n <= sizeLine) (hdf : d.params.defaults = []) (hr : Room k callerA)
 (hY : ∀ (w : World) (h : Heap), YP w h -> (K w.params).In h)
 (F : ∀ (w : World) (mg : Str -> Option Value) (fa : Addr) (h : Heap), (K w.params).In h -> h.Ns mainGlobals mg -> mg d.name = some (.ref fa) ->
  ∃ fd : FuncData, (∀ (s : Shared) (u : Value), BindsTo s fd ⟨[u], []⟩ [(x, u)]) /\
   ∀ base : Heap, (K w.params).In base -> base.Ns mainGlobals mg -> bQ l.prog w (K w.params) mg base (XE l.prog w) k fa fd [x] (sp (K w.params)))
 (hsp : ∀ (K : W.Frag) (H : Hp) (a : Addr) (ns : List Int), ns.length <= n -> Bf H -> SqL K H a (ns.map V.int) -> sp K [.ref a] H (fun v _ => v = .bl true) fun _ _ _ => False) :
 PySem.W.WalkO q loose XP YP l.row.toRowW d [] (fun f vs => PySem.call f vs) :=
 Ds (K := K) (CX := fun w => XE l.prog w) (sp := fun w => sp (K w.params)) hn hn2 hdf hr hY F (fun w H a ns h1 h2 h3 => hsp (K w.params) H a ns h1 h2 h3) fun w H s e s' ⟨_, _, _, _, _, _, _, _, _, _, _, z⟩ => z
end L2
namespace L2
open PySem PySem.Spec PyProof.Rows
section
variable {prog : Program} {w : World} {A : Around} {R : Result -> Shared -> Prop} {s : Shared}
theorem vi {elt target iter : Expr} {ifs : List Expr} {scope : Scope} {pos : Pos} {it acc : Value} {env : Env} (I : Nat -> Shared -> Prop)
 (turn : ∀ n s, I n s -> wpAny (model prog w) A (pyNext it) (fun r s₁ => match r with
  | none => R (.ok .next) s₁
  | some v => wpAny (model prog w) A (letOwnedTupleGo target it v) (fun _ s₁' => wpAny (model prog w) A (assign target env v) (fun _ s₂ =>
   wpAny (model prog w) A (forIn ifs true fun c r => if r = true then do let ok <- isTrue c env (eval c env); pure (ForInStep.yield ok) else pure (ForInStep.yield r)) (fun ok s₃ =>
    if ok = true then wpAny (model prog w) A (eval elt env) (fun x s₄ =>
     wpAny (model prog w) A (call (.builtin "list.append") [acc, x]) (fun _ s₅ => ∃ m, m < n /\ I m s₅) (notedBy (model prog w) A env fun e s' => R (.error e) s') s₄) (notedBy (model prog w) A env fun e s' => R (.error e) s') s₃
    else ∃ m, m < n /\ I m s₃) (notedBy (model prog w) A env fun e s' => R (.error e) s') s₂) (notedBy (model prog w) A env fun e s' => R (.error e) s') s₁') (notedBy (model prog w) A env fun e s' => R (.error e) s') s₁) (notedBy (model prog w) A env fun e s' => R (.error e) s') s)
 (n : Nat) (h : I n s) :
 codeAny (model prog w) A (.compLoop (.ListComp elt [⟨target, iter, ifs, 0⟩] scope pos) 0 it acc env) R s := by
 refine codeAny_loop rfl I (fun n s hI => ?_) n h
 show wpAny _ A ((compTurn (.ListComp elt [⟨target, iter, ifs, 0⟩] scope pos) 0 it acc env).onRaise (fun x => do noteFrame x env; theTreesLotGoes x)) _ _ s
 refine wpAny_noted ?_
 rw [compTurn_list]
 refine wpAny_bind (wpAny_standAt (wpAny_bind (wpAny_mono (turn n s hI) (fun r s₁ h₁ => ?_) fun _ _ h' => h')))
 cases r with
 | none => exact wpAny_pure h₁
 | some v =>
  refine wpAny_bind (wpAny_mono h₁ (fun _ s₁' h₁' => ?_) fun _ _ h' => h')
  refine wpAny_bind (wpAny_mono h₁' (fun _ s₂ h₂ => wpAny_bind (wpAny_mono h₂ (fun ok s₃ h₃ => ?_) fun _ _ h' => h')) fun _ _ h' => h')
  cases ok with
  | false => exact wpAny_pure ⟨rfl, h₃⟩
  | true =>
   exact wpAny_bind (wpAny_bind (wpAny_mono h₃ (fun x s₄ h₄ => wpAny_bind (wpAny_mono h₄ (fun _ s₅ h₅ => wpAny_pure (wpAny_pure ⟨rfl, h₅⟩)) fun _ _ h' => h')) fun _ _ h' => h'))
end
def c_ (X : Cx) (N : List Str) (scope : Scope) (cl : List (Str × Addr)) (C : Addr) (s₂ : Shared) (H₂ : Hp) (ex : List Addr) (pn : List (Addr × Obj)) : Cx :=
 { X with N := N, s₀ := s₂, H₀ := H₂, env := compEnvC scope cl C X.env, outer := X.stack, stack := X.stack, ex := ex, fn := fun _ => false, pn := pn, xe := fun _ _ => False }
structure CompScope (X : Cx) (scope : Scope) (cl : List (Str × Addr)) (x : Str) (fr : List Str) : Prop where
 clos : closureFor scope X.env = pure cl
 nocell : ∀ y ∈ scope.names, y.2 ≠ .cell
 kind : scope.kind = .function
 names : ∀ y ∈ scope.names, y.2 = .local -> scope.names.lookup y.1 = some .local
 own : scope.names.lookup x = some .local
 keys : ∀ y ∈ cl, y.1 ∈ fr
 cells : fr.map (fun y => cl.lookup y) = fr.map (fun y => X.env.cells.lookup y)
 kinds : ∀ y ∈ fr, X.env.kindOf y = some .cell \/ X.env.kindOf y = some .free
 kin : ∀ y ∈ fr, (relabel scope X.env).names.lookup y = some .cell \/ (relabel scope X.env).names.lookup y = some .free
 only : ∀ y, ((relabel scope X.env).names.lookup y = some .cell \/ (relabel scope X.env).names.lookup y = some .free) -> y ∈ fr
theorem yy {α : Type} {l : List (Str × α)} {y : Str} {c : α} (h : l.lookup y = some c) : (y, c) ∈ l := PySem.mem_of_lookup h
theorem CompScope.cell {X : Cx} {scope : Scope} {cl : List (Str × Addr)} {x : Str} {fr : List Str} (S : CompScope X scope cl x fr) {y : Str} (h : y ∈ fr) : cl.lookup y = X.env.cells.lookup y := by
 have e := S.cells
 obtain ⟨i, hi, rfl⟩ := List.getElem_of_mem h
 have := congrArg (fun l => l[i]?) e
 simpa [hi] using this
theorem CompScope.sub {X : Cx} {scope : Scope} {cl : List (Str × Addr)} {x : Str} {fr : List Str} (S : CompScope X scope cl x fr) {y : Str} {c : Addr} (h : cl.lookup y = some c) : X.env.cells.lookup y = some c := by
 rw [<- S.cell (S.keys _ (yy h))]; exact h
def PTs (X : Cx) (ifs : List Expr) (t : TT) : Prop :=
 ∀ (pins : List (Addr × Obj)) (s : Shared) (σ : St) (H : Hp) (Q : Bool -> Hp -> Prop), Inv X pins σ H s -> t σ H Q ->
  wpAny (model X.prog X.w) X.A (forIn ifs true fun c r => if r = true then do let ok <- isTrue c X.env (eval c X.env); pure (ForInStep.yield ok) else pure (ForInStep.yield r)) (TP X pins σ Q) X.xe s
theorem fI {X : Cx} : PTs X [] (fun _ H Q => Q true H) := fun pins s σ H Q I h => wpAny_tests_nil ⟨H, I, h⟩
theorem jQ {X : Cx} {c : Expr} {t : TT} (h : PT X c t) : PTs X [c] t := fun pins s σ H Q I hw => wpAny_tests_one (h pins s σ H Q I hw)
end L2
set_option maxHeartbeats 4000000
namespace MT
def isD (c : Nat) : Bool := decide (48 <= c) && decide (c <= 57)
def vl (t : List Nat) : Nat := t.foldl (fun n c => 10 * n + (c - 48)) 0
def nin (t : List Nat) : Nat := t.foldl (fun n c => if isD c then 10 * n + (c - 48) else n) 0
def fg (t : List Nat) : List Nat := if t.take 1 = [45] then t.drop 1 else t
def good (t : List Nat) : Prop := fg t ≠ [] /\ (∀ c ∈ fg t, isD c = true) /\ ((fg t).head? = some 48 -> t = [48])
end MT
namespace L2
open PySem PySem.Spec PyProof.Rows Builtin Builtin.Str
section
variable {X : Cx} {e a b c : Expr} {pos : Pos}
def gIn (neg : Bool) : R2
 | .str i, .str j, H, Q => (match cs i with
  | [c] => Q (.bl (neg ^^ decide (c ∈ cs j))) H
  | _ => False)
 | _, _, _, _ => False
theorem wx {i : Str} {c : Nat} (h : cs i = [c]) : i = ⟨#[c]⟩ := by
 obtain ⟨⟨l⟩⟩ := i
 have h' : l = [c] := h
 rw [h']
theorem GW : OpR X (compareOp .In) (gIn false) := AW.imp fun x y H Q h => by
 unfold gIn at h; split at h
 ·split at h
  ·rename_i i j c hc
   refine ⟨_, _, rfl, rfl, ?_⟩
   rw [wx hc, PySem.StrLaws.found_one]
   simpa [cs] using h
  ·exact h.elim
 ·exact h.elim
theorem CA : OpR X (compareOp .NotIn) (gIn true) := wf.imp fun x y H Q h => by
 unfold gIn at h; split at h
 ·split at h
  ·rename_i i j c hc
   refine ⟨_, _, rfl, rfl, ?_⟩
   rw [wx hc, PySem.StrLaws.found_one]
   simpa [cs] using h
  ·exact h.elim
 ·exact h.elim
def Ht : V -> List V -> Hp -> VK -> Prop
 | .str x, [.str y], H, Q => (match cs y with
  | [c] => c ∈ cs x /\ ∀ i : Nat, (cs x)[i]? = some c -> Q (.int i) H
  | _ => False)
 | _, _, _, _ => False
def BB : List V -> Hp -> VK -> Prop
 | [.int i], H, Q => Q (.int i) H
 | [.bl k], H, Q => Q (.int (if k then 1 else 0)) H
 | [.str x], H, Q => ((cs x) ≠ [] /\ (∀ c ∈ cs x, MT.isD c = true) /\ (cs x).length <= 640) /\ Q (.int (MT.vl (cs x))) H
 | _, _, _ => False
theorem tW : CallR X (.type "int") (fun xs H Q => ∃ x, xs = [.str x] /\ ((cs x) ≠ [] /\ (∀ c ∈ cs x, MT.isD c = true) /\ (cs x).length <= 640) /\ Q (.int (MT.vl (cs x))) H) := by
 intro pins s σ H xs us Q I r h
 obtain ⟨x, rfl, ⟨h0, hd, hl⟩, q⟩ := h
 obtain ⟨u, rfl, t, rfl⟩ := iD r
 have hl' : x.length <= 640 := by simpa [cs, Str.length] using hl
 have e : PySem.NumText.digitsVal x.cps.toList = MT.vl (cs x) := by
  unfold PySem.NumText.digitsVal MT.vl cs
  congr 1
  funext a c; omega
 have hn : intText? x = some ((MT.vl (cs x) : Nat) : Int) := by
  rw [PySem.intText_digits (fun c hc => by have := hd c hc; simpa [MT.isD] using this) h0 (by omega), e]
 exact PySem.W.KIN.call_text hn hl' ⟨.int _, H, I.tok _, ⟨_, rfl⟩, q⟩
theorem oq : CallR X (.type "int") BB := (AZ.or tW).imp fun xs H Q h => by
 unfold BB at h; split at h
 ·exact .inl (.inl ⟨_, rfl, h⟩)
 ·exact .inl (.inr ⟨_, rfl, h⟩)
 ·exact .inr ⟨_, rfl, h.1, h.2⟩
 ·exact h.elim
end
end L2
namespace L2
open PySem PySem.Spec PyProof.Rows
def Its (x : Str) : It := ⟨fun i _ => i < x.cps.size, fun i H v H' => H' = H /\ ∃ c, x.cps[i]? = some c /\ v = .str ⟨#[c]⟩, fun i _ => x.cps.size <= i⟩
theorem CY {P : Program} {w : World} {K : W.Frag} {tg : Expr} (x : Str) (t : Tok) (it : Addr) : wG P w K tg (Its x) [it] it (fun i h => h.IsStrIter it "str_ascii_iterator" x t i) where
 mem := by simp
 obj := fun i h st b hb => by
  have e : b = it := by simpa using hb
  subst e
  obtain ⟨o, e, c, d⟩ := st
  exact ⟨o, e, fun v z => by rw [d] at z; cases z⟩
 keep := fun i h h' st k => by
  obtain ⟨o, e, c, d⟩ := st
  exact ⟨o, k it (by simp) o e, c, d⟩
 item := by
  intro X hP hw hK hc i pins s σ H E I hf st hg
  subst hP hw hK
  have hg' : i < x.cps.size := hg
  obtain ⟨f0, f1, f2, f3, f4, f5⟩ := hf it (by simp)
  have hx : x.cps[i]? = some x.cps[i] := by simp [hg']
  refine wpAny_pyNext_ascii_item st hx fun h' st' sb => ?_
  have I1 : Inv X pins σ H { s with heap := h', toks := s.toks + 1 } := I.turned (fun b o hb e => (sb.2 b hb).trans e) f0 f1 f3 f4 f5
  obtain ⟨o, e, c, d⟩ := id st'
  exact ⟨_, rfl, rm (s := { s with heap := h', toks := s.toks + 1 }) e c d (by decide) ⟨.str ⟨#[x.cps[i]]⟩, H, I1, ⟨_, rfl⟩, ⟨rfl, _, hx, rfl⟩, st', fun b hb => (hf b hb).1⟩⟩
 done := by
  intro X hP hw hK hc i pins s σ H E I hf st hg
  subst hP hw hK
  have hg' : x.cps.size <= i := hg
  obtain ⟨f0, f1, f2, f3, f4, f5⟩ := hf it (by simp)
  have hx : x.cps[i]? = none := by simp [hg']
  exact wpAny_pyNext_ascii_end (I.ok.hd hc) st hx fun h' eb => ⟨rfl, I.turned (fun b o hb e => eb b o hb e) f0 f1 f3 f4 f5⟩
 self := fun _ _ _ _ _ st h => wpAny_pyIter_striter_ascii st h
def Gw (tl : TE) : TI := fun σ H R => tl σ H fun v H1 => match v with
 | .str x => (∀ c ∈ cs x, c < 128) /\ R (Its x) H1
 | _ => False
theorem zt {X : Cx} {tg l : Expr} {tl : TE} (hl : PE X l tl) : PI X tg l (Gw tl) := by
 intro pins s σ H R I h
 refine thn (hl pins s σ H _ I h) fun v s1 ⟨y, H1, I1, r1, q⟩ => ?_
 dsimp only at q
 split at q
 ·rename_i x
  obtain ⟨ha, q⟩ := q
  obtain ⟨t, rfl⟩ := r1
  have ha' : x.cps.all (· < 128) = true := by
   rw [Array.all_eq_true]
   intro i hi
   exact decide_eq_true (ha _ (by unfold cs; rw [Array.mem_toList_iff]; exact Array.getElem_mem hi))
  refine wpAny_pyIter_ascii ha' ?_
  refine ⟨s1.heap.objs.size, [s1.heap.objs.size], _, _, H1, rfl, I1.kept (t' := s1.toks) fun b o e => Heap.get?_push_of_some _ e, CY x t _, ⟨_, Heap.get?_push_size _ rfl, rfl, rfl⟩, fun b hb => ?_, q⟩
  have e : b = s1.heap.objs.size := by simpa using hb
  subst e
  exact I1.fpOk (Nat.le_refl _) (I1.hok.fresh (Nat.le_refl _))
 ·exact q.elim
theorem D6 {l : List Nat} {g : TG} {tb : TS} {D : kh} {σ : St} {H : Hp} (Pv : Nat -> St -> Hp -> Prop) (h0 : Pv 0 σ H)
 (hs : ∀ i c σ H, l[i]? = some c -> Pv i σ H -> g (T [c]) σ H fun σ2 H2 => tb { D with nx := Pv (i + 1), ct := Pv (i + 1), bk := D.nx } σ2 H2) (hd : ∀ σ H, Pv l.length σ H -> D.nx σ H) :
 ∃ W : Nat -> Nat -> St -> Hp -> Prop, (∃ m, W 0 m σ H) /\ ∀ i m σ H, W i m σ H ->
  ((Its ⟨⟨l⟩⟩).stop i H /\ D.nx σ H) \/ ((Its ⟨⟨l⟩⟩).go i H /\ ∃ N : St -> Hp -> Prop, (∀ σ' H', N σ' H' -> ∃ m', m' < m /\ W (i + 1) m' σ' H') /\ ∀ x H', (Its ⟨⟨l⟩⟩).yld i H x H' -> g x σ H' fun σ2 H2 => tb { D with nx := N, ct := N, bk := D.nx } σ2 H2) := by
 refine ⟨fun i m σ H => m = l.length - i /\ i <= l.length /\ Pv i σ H, ⟨l.length, by simp, Nat.zero_le _, h0⟩, ?_⟩
 rintro i m σ H ⟨rfl, hi, p⟩
 by_cases hlt : i < l.length
 ·refine .inr ⟨hlt, Pv (i + 1), fun σ' H' p' => ⟨l.length - (i + 1), by omega, rfl, hlt, p'⟩, fun x H' y => ?_⟩
  obtain ⟨e, c, hc, rfl⟩ := y
  subst e
  exact hs i c σ _ (by simpa using hc) p
 ·have e : i = l.length := by omega
  subst e
  exact .inl ⟨Nat.le_refl _, hd σ H p⟩
section
variable {X : Cx}
theorem oG : ∀ {bs : List Bool} {us : List Value}, Vals (bs.map V.bl) us -> LSm.BoolsAre us bs
 | [], _, .nil => .nil
 | b :: r, _, .cons e t => by
  cases (show _ = Value.bool b from e)
  exact .cons b (oG t)
def FZ (K : W.Frag) : List V -> Hp -> VK -> Prop
 | [.ref p], H, Q => ∃ bs : List Bool, SqL K H p (bs.map V.bl) /\ Q (.bl (bs.all id)) H
 | _, _, _ => False
theorem zJ (K : W.Frag) (hc : X.calm = true) (hK : X.K = K := by rfl) : CallR X (.builtin "all") (FZ K) := by
 subst hK
 intro pins s σ H xs us Q I r h
 unfold FZ at h
 split at h
 ·rename_i p
  obtain ⟨bs, hq, q⟩ := h
  obtain ⟨u, rfl, rx⟩ := iD r
  cases (show u = Value.ref p from rx)
  obtain ⟨its, rv, pl, hz⟩ := I.list hq
  have hne : p ≠ s.heap.objs.size := Nat.ne_of_lt (by obtain ⟨_, e, _⟩ := pl.isList; exact Heap.lt_size e)
  have hb : LSm.BoolsAre its bs := oG rv
  refine call_all_walk (wpAny_pyIter_list pl.isList ?_)
  refine ⟨s.heap.objs.size, [s.heap.objs.size, p], [s.heap.objs.size], its.toArray.size, _, _, fun i => (bs[i]?).getD true, rfl, Walks.list (A := X.A.in1) (I.ok.hd hc) _ p hne its.toArray,
   ⟨⟨_, Heap.get?_push_size _ rfl, rfl, rfl⟩, pl.isList.push _⟩, fun i v s' Q' E' hP hQ => ?_, fun h' tk hk => ?_⟩
  ·obtain ⟨b, e, rfl⟩ := hb.get i v (by simpa using hP)
   simp only [e, Option.getD_some] at hQ
   exact wpAny_truthy_bool hQ
  ·have e : ((List.range its.toArray.size).all fun i => (bs[i]?).getD true) = bs.all id := by
    rw [List.size_toArray, hb.length]; exact LSm.range_all bs
   rw [e]
   exact ⟨.bl (bs.all id), H, I.kept (LSm.kept_iter hk), rfl, q⟩
 ·exact h.elim
end
end L2
namespace L2
open PySem PySem.Spec PyProof.Rows Builtin Builtin.Str
def bG (sep : List Nat) : List (List Nat) -> List Nat
 | [] => []
 | [x] => x
 | x :: y :: r => x ++ sep ++ bG sep (y :: r)
theorem uJ : ∀ ls : List (List Nat), bG [] ls = ls.flatten
 | [] => rfl
 | [x] => by simp [bG]
 | x :: y :: r => by rw [bG, uJ (y :: r)]; simp
def S (l : List Nat) : Str := ⟨⟨l⟩⟩
theorem uT (sep : List Nat) : ∀ (r : List (List Nat)) (x : List Nat), ((r.map S).foldl (fun acc p => acc ++ (S sep).cps ++ p.cps) (S x).cps) = (S (bG sep (x :: r))).cps
 | [], x => rfl
 | y :: r, x => by
  rw [List.map_cons, List.foldl_cons]
  have e : (S x).cps ++ (S sep).cps ++ (S y).cps = (S (x ++ sep ++ y)).cps := by
   apply Array.ext'; simp [S]
  rw [e, uT sep r]
  congr 1
  cases r with
  | nil => rfl
  | cons z r' => unfold bG; simp [bG, List.append_assoc]
theorem An (sep : List Nat) (ls : List (List Nat)) : Txt.join (S sep) (ls.map S) = S (bG sep ls) := by
 unfold Txt.join glued
 cases ls with
 | nil => rfl
 | cons x r =>
  show (⟨((x :: r).map S).drop 1 |>.foldl _ _⟩ : Str) = _
  rw [List.map_cons, List.drop_one, List.tail_cons, List.headD_cons, uT]
theorem Ah : ∀ {ls : List (List Nat)} {us : List Value}, Vals (ls.map T) us -> StrsAre us (ls.map S)
 | [], _, .nil => .nil
 | l :: r, _, .cons e t => by
  obtain ⟨k, rfl⟩ := e
  exact .cons _ k (Ah t)
def Cs (sep : List Nat) (ls : List (List Nat)) : Prop := (ls.map List.length).sum + ls.length * sep.length <= 16777216
theorem D9 {sep : List Nat} {ls : List (List Nat)} (h : Cs sep ls) : (((ls.map S).map (·.length)).sum + (ls.map S).length * (S sep).length <= 16777216) := by
 have e : (ls.map S).map (·.length) = ls.map List.length := by rw [List.map_map]; apply List.map_congr_left; intro l _; rfl
 rw [e, List.length_map]; exact h
section
variable {X : Cx}
def BV (K : W.Frag) : V -> List V -> Hp -> VK -> Prop
 | .str x, [.ref p], H, Q => ∃ ls : List (List Nat), SqL K H p (ls.map T) /\ Cs (cs x) ls /\ Q (T (bG (cs x) ls)) H
 | _, _, _, _ => False
theorem lj (K : W.Frag) (hK : X.K = K := by rfl) : MtR X "str.join" (BV K) := by
 subst hK
 intro pins s σ H x xs v us Q I rx rs h
 unfold BV at h
 split at h
 ·rename_i y p
  obtain ⟨ls, hq, hf, q⟩ := h
  obtain ⟨t, rfl⟩ := rx
  obtain ⟨u, rfl, ru⟩ := iD rs
  cases (show u = Value.ref p from ru)
  obtain ⟨its, rv, pl, hz⟩ := I.list hq
  refine join_list pl.isList (Ah rv) (D9 hf) fun t' k => ?_
  exact ⟨.str (Txt.join y (ls.map S)), H, I.tok _, ⟨_, rfl⟩, by rw [show y = S (cs y) from rfl, An]; exact q⟩
 ·exact h.elim
end
end L2
namespace PySem
open Sem (wp)
open Builtin Builtin.Str Builtin.Int
namespace F
end F
section
variable {prog : Program} {w : World} {A : Around} {E : Value -> Shared -> Prop} {s : Shared} {I : Addr} {fp wr : List Addr} {G : Array GenState -> Array GenState -> Prop} {n : Nat} {P : Nat -> Value -> Prop} {St : Nat -> Shared -> Prop}
end
end PySem
namespace L2
open PySem PySem.Spec PyProof.Rows Builtin Builtin.Str
section
variable {X : Cx} {o e : Expr} {to te : TE} {apos cpos p pos : Pos}
end
end L2
namespace L2
open PySem PySem.Spec PyProof.Rows Builtin Builtin.Str
section
variable {X : Cx}
structure El (J : It) (vs : List V) : Prop where
 go : ∀ i H, i < vs.length -> J.go i H
 yld : ∀ i H x H', i < vs.length -> J.yld i H x H' -> H' = H /\ vs[i]? = some x
 stop : ∀ H, J.stop vs.length H
theorem Dc (l : List Nat) : El (Its ⟨⟨l⟩⟩) (l.map fun c => T [c]) := by
 refine ⟨fun i H h => by simpa [Its] using h, fun i H x H' _ y => ?_, fun H => by simp [Its]⟩
 obtain ⟨e, c, hc, rfl⟩ := y
 refine ⟨e, ?_⟩
 have : l[i]? = some c := by simpa using hc
 rw [List.getElem?_map, this]; rfl
theorem Db (n : Nat) : El (Itr 0 n) ((List.range n).map fun k => .int (k : Nat)) := by
 refine ⟨fun i H h => by simpa [Itr] using h, fun i H x H' hi y => ?_, fun H => by simp [Itr]⟩
 obtain ⟨e, rfl⟩ := y
 refine ⟨e, ?_⟩
 have hi' : i < n := by simpa using hi
 simp [hi']
theorem qG {J : It} {vs : List V} (E : El J vs) {σ' : St} {H1 : Hp} {Q : VK} {tt : TT} {te : TE} (C : Hp -> Prop) (p : V -> Bool) (f : V -> V) (hlen : vs.length <= sizeLine)
 (hp : ∀ x ∈ vs, ∀ H (R : Bool -> Hp -> Prop), C H -> R (p x) H -> tt (some x :: σ') H R) (hf : ∀ x ∈ vs, p x = true -> ∀ H (R : VK), C H -> R (f x) H -> te (some x :: σ') H R)
 (D : Addr) (hD : H1 D = none) (hC : ∀ ys, C (upd H1 D (.lst ys))) (q : Q (.ref D) (upd H1 D (.lst ((vs.filter p).map f)))) :
 ∃ W : Nat -> Nat -> List V -> Hp -> Prop, (∃ m, W 0 m [] (upd H1 D (.lst []))) /\
  ∀ i m ys H2, W i m ys H2 -> H2 D = some (.lst ys) /\ ((J.stop i H2 /\ Q (.ref D) H2) \/ (J.go i H2 /\ ∀ x H3, J.yld i H2 x H3 ->
   tt (some x :: σ') H3 fun b H4 => if b = true then te (some x :: σ') H4 fun y H5 => H5 D = some (.lst ys) /\ ys.length < sizeLine /\ ∃ m', m' < m /\ W (i + 1) m' (ys ++ [y]) (upd H5 D (.lst (ys ++ [y])))
    else ∃ m', m' < m /\ W (i + 1) m' ys H4)) := by
 refine ⟨fun i m ys H2 => m = vs.length - i /\ i <= vs.length /\ ys = ((vs.take i).filter p).map f /\ H2 = upd H1 D (.lst ys), ⟨vs.length, by simp, Nat.zero_le _, by simp, rfl⟩, ?_⟩
 rintro i m ys H2 ⟨rfl, hi, hys, rfl⟩
 refine ⟨ae, ?_⟩
 by_cases hlt : i < vs.length
 ·refine .inr ⟨E.go i _ hlt, fun x H3 y => ?_⟩
  obtain ⟨e, hx⟩ := E.yld i _ x H3 hlt y
  subst e
  have hm : x ∈ vs := List.mem_of_getElem? hx
  have htk : vs.take (i + 1) = vs.take i ++ [x] := by
   rw [List.take_succ, hx]; rfl
  have hyl : ys.length <= i := by
   rw [hys, List.length_map]
   exact Nat.le_trans (List.length_filter_le _ _) (by simp [List.length_take]; omega)
  refine hp x hm _ _ (hC _) ?_
  cases hb : p x with
  | true =>
   rw [if_pos rfl]
   refine hf x hm hb _ _ (hC _) ⟨ae, by omega, vs.length - (i + 1), by omega, rfl, hlt, ?_, ?_⟩
   ·rw [htk, List.filter_append, List.map_append, <- hys]
    simp [hb]
   ·funext z
    by_cases hz : z = D
    ·subst hz; rw [ae, ae]
    ·rw [ar hz, ar hz, ar hz]
  | false =>
   rw [if_neg Bool.false_ne_true]
   refine ⟨vs.length - (i + 1), by omega, rfl, hlt, ?_, rfl⟩
   rw [htk, List.filter_append, List.map_append, <- hys]
   simp [hb]
 ·have e : i = vs.length := by omega
  subst e
  refine .inl ⟨E.stop _, ?_⟩
  rw [List.take_length] at hys
  rw [hys]; exact q
end
theorem SqL.same {K : W.Frag} {H H' : Hp} {a : Addr} {xs : List V} (s : Same H H') (h : SqL K H a xs) : SqL K H' a xs := by
 rcases h with (h | ⟨o, h⟩) | h
 ·exact .inl (.inl (s _ _ h))
 ·exact .inl (.inr ⟨o, s _ _ h⟩)
 ·exact .inr h
theorem xF (g : Nat -> Nat) : ∀ l : List Nat, (l.map fun k => [g k]).flatten = l.map g
 | [] => rfl
 | a :: r => by rw [List.map_cons, List.flatten_cons, xF g r]; rfl
theorem AE (g : Nat -> Nat) : ∀ l : List Nat, ((l.map fun k => [g k]).map List.length).sum = l.length
 | [] => rfl
 | a :: r => by have := AE g r; simp only [List.map_cons, List.sum_cons, List.length_cons, List.length_nil, this]; omega
theorem tI {K : W.Frag} {H1 : Hp} {D : Addr} {Q : VK} (l : List Nat) (g : Nat -> Nat) (hs : H1 D = some (.lst (l.map fun k => T [g k]))) (hl : l.length <= 1000) (q : Q (T (l.map g)) H1) : BV K (T []) [.ref D] H1 Q := by
 refine ⟨l.map fun k => [g k], SqL.of (by rw [hs, List.map_map]; rfl), ?_, ?_⟩
 ·unfold Cs; rw [AE]; simp [cs]; omega
 ·show Q (T (bG [] _)) H1
  rw [uJ, xF]; exact q
theorem mQ {P : Program} {w : World} {X : Cx} : fj (XE P w) X (fun _ _ _ _ => False) := fun _ _ _ _ _ _ _ ⟨_, _, _, _, _, _, _, _, _, _, _, q⟩ => q.elim
def CW : Option NameKind -> Bool
 | some .cell => true
 | some .free => true
 | _ => false
theorem xU {k : Option NameKind} : CW k = true ↔ (k = some .cell \/ k = some .free) := by
 cases k with
 | none => simp [CW]
 | some k => cases k <;> simp [CW]
theorem cI {cl : List (Str × Addr)} {fr : List Str} (h : (cl.map (·.1)).all (fun y => fr.elem y) = true) : ∀ y ∈ cl, y.1 ∈ fr := fun y hy => by
 have := List.all_eq_true.mp h y.1 (List.mem_map_of_mem hy)
 simpa using this
theorem aW {fr : List Str} {k : Str -> Option NameKind} (h : fr.all (fun y => CW (k y)) = true) : ∀ y ∈ fr, k y = some .cell \/ k y = some .free := fun y hy => xU.mp (List.all_eq_true.mp h y hy)
theorem cJ {names : List (Str × NameKind)} {fr : List Str} (h : names.all (fun p => !CW (some p.2) || fr.elem p.1) = true) : ∀ y, (names.lookup y = some .cell \/ names.lookup y = some .free) -> y ∈ fr := fun y hy => by
 have hy' := xU.mpr hy
 cases e : names.lookup y with
 | none => rw [e] at hy'; cases hy'
 | some k =>
  rw [e] at hy'
  have := List.all_eq_true.mp h (y, k) (PySem.mem_of_lookup e)
  simpa [hy'] using this
end L2
namespace L2
open PySem PySem.Spec PyProof.Rows Builtin Builtin.Str
section
variable {X : Cx} {pos : Pos}
theorem Fw {pins : List (Addr × Obj)} {σ : St} {H : Hp} {s : Shared} (I : Inv X pins σ H s) : sysModules < s.heap.objs.size :=
 Nat.lt_trans (by decide) (show mainGlobals < s.heap.objs.size from (I.mod.glob.keeps I.bk).lt)
def ET : TE := fun _ H Q => ∀ p, H p = none -> Q (.ref p) (upd H p (.dK []))
theorem oj : PE X (.Dict [] [] pos) ET := by
 intro pins s σ H Q I h
 have new : ObjOk X.prog X.w (upd H s.heap.objs.size (.dK [])) (s.heap.push { cls := .type "dict", data := .dict #[] }) s.heap.objs.size (.dK []) :=
  ⟨Nat.zero_le _, beq_eq_false_iff_ne.mpr (Ne.symm (Nat.ne_of_lt (Fw I))), [], .nil, Heap.DictOf.new s.heap⟩
 exact wpAny_Dict_empty ⟨.ref s.heap.objs.size, _, I.laid (t' := s.toks) (fun _ _ q => Heap.get?_push_of_some _ q) (Nat.le_refl _) new, rfl, h _ (I.hok.fresh (Nat.le_refl _))⟩
theorem wU : ∀ (l : List (Array Nat)) (acc : Array Nat), (l.foldl (· ++ ·) acc).toList = acc.toList ++ (l.map Array.toList).flatten
 | [], acc => by simp
 | a :: r, acc => by rw [List.foldl_cons, wU r]; simp
theorem E1 (x : Str) (n : Int) : V.str (Txt.mul x n) = T ((List.replicate n.toNat (cs x)).flatten) := by
 unfold Txt.mul
 split
 ·rename_i h
  have e : n.toNat = 0 := by omega
  rw [e]; rfl
 ·rename_i h
  split
  ·rename_i h2
   rcases Bool.or_eq_true_iff.mp h2 with h3 | h3
   ·have e : n.toNat = 1 := by have := eq_of_beq h3; omega
    rw [e, Fx]; simp
   ·have e : cs x = [] := by
     have := eq_of_beq h3
     simpa [cs, Str.length] using this
    rw [Fx, e]; simp
  ·rw [Fx]
   congr 1
   show ((List.replicate n.toNat x.cps).foldl (· ++ ·) #[]).toList = _
   rw [wU, List.map_replicate]; rfl
end
end L2
namespace L2
open PySem PySem.Spec PyProof.Rows Builtin Builtin.Str
section
variable {X : Cx}
structure CP (C : Hp -> Prop) (J : It) (vs : List V) : Prop where
 go : ∀ i H, C H -> i < vs.length -> J.go i H
 yld : ∀ i H x H', C H -> i < vs.length -> J.yld i H x H' -> H' = H /\ vs[i]? = some x
 stop : ∀ H, C H -> J.stop vs.length H
theorem tm {J : It} {vs : List V} {σ' : St} {H1 : Hp} {Q : VK} {tt : TT} {te : TE} (C : Hp -> Prop) (E : CP C J vs) (p : V -> Bool) (f : V -> V) (hlen : vs.length <= sizeLine)
 (hp : ∀ x ∈ vs, ∀ H (R : Bool -> Hp -> Prop), C H -> R (p x) H -> tt (some x :: σ') H R) (hf : ∀ x ∈ vs, p x = true -> ∀ H (R : VK), C H -> R (f x) H -> te (some x :: σ') H R)
 (D : Addr) (hD : H1 D = none) (hC : ∀ ys, C (upd H1 D (.lst ys))) (q : Q (.ref D) (upd H1 D (.lst ((vs.filter p).map f)))) :
 ∃ W : Nat -> Nat -> List V -> Hp -> Prop, (∃ m, W 0 m [] (upd H1 D (.lst []))) /\
  ∀ i m ys H2, W i m ys H2 -> H2 D = some (.lst ys) /\ ((J.stop i H2 /\ Q (.ref D) H2) \/ (J.go i H2 /\ ∀ x H3, J.yld i H2 x H3 ->
   tt (some x :: σ') H3 fun b H4 => if b = true then te (some x :: σ') H4 fun y H5 => H5 D = some (.lst ys) /\ ys.length < sizeLine /\ ∃ m', m' < m /\ W (i + 1) m' (ys ++ [y]) (upd H5 D (.lst (ys ++ [y])))
    else ∃ m', m' < m /\ W (i + 1) m' ys H4)) := by
 refine ⟨fun i m ys H2 => m = vs.length - i /\ i <= vs.length /\ ys = ((vs.take i).filter p).map f /\ H2 = upd H1 D (.lst ys), ⟨vs.length, by simp, Nat.zero_le _, by simp, rfl⟩, ?_⟩
 rintro i m ys H2 ⟨rfl, hi, hys, rfl⟩
 refine ⟨ae, ?_⟩
 by_cases hlt : i < vs.length
 ·refine .inr ⟨E.go i _ (hC _) hlt, fun x H3 y => ?_⟩
  obtain ⟨e, hx⟩ := E.yld i _ x H3 (hC _) hlt y
  subst e
  have hm : x ∈ vs := List.mem_of_getElem? hx
  have htk : vs.take (i + 1) = vs.take i ++ [x] := by
   rw [List.take_succ, hx]; rfl
  have hyl : ys.length <= i := by
   rw [hys, List.length_map]
   exact Nat.le_trans (List.length_filter_le _ _) (by simp [List.length_take]; omega)
  refine hp x hm _ _ (hC _) ?_
  cases hb : p x with
  | true =>
   rw [if_pos rfl]
   refine hf x hm hb _ _ (hC _) ⟨ae, by omega, vs.length - (i + 1), by omega, rfl, hlt, ?_, ?_⟩
   ·rw [htk, List.filter_append, List.map_append, <- hys]
    simp [hb]
   ·funext z
    by_cases hz : z = D
    ·subst hz; rw [ae, ae]
    ·rw [ar hz, ar hz, ar hz]
  | false =>
   rw [if_neg Bool.false_ne_true]
   refine ⟨vs.length - (i + 1), by omega, rfl, hlt, ?_, rfl⟩
   rw [htk, List.filter_append, List.map_append, <- hys]
   simp [hb]
 ·have e : i = vs.length := by omega
  subst e
  refine .inl ⟨E.stop _ (hC _), ?_⟩
  rw [List.take_length] at hys
  rw [hys]; exact q
theorem BQ {K : W.Frag} {C : Hp -> Prop} {a : Addr} {vs : List V} (h : ∀ H, C H -> SqT K H a vs) : CP C (Itt K a) vs :=
 ⟨fun i H c hi => ⟨vs, vs[i], h H c, List.getElem?_eq_getElem hi⟩, fun i H x H' c _ y => ⟨y.1, y.2 vs (h H c)⟩, fun H c => ⟨vs, h H c, Nat.le_refl _⟩⟩
theorem BE {K : W.Frag} {C : Hp -> Prop} {a : Addr} {vs : List V} (h : ∀ H, C H -> SqL K H a vs) : CP C (Itl K a) vs :=
 ⟨fun i H c hi => ⟨vs, vs[i], h H c, List.getElem?_eq_getElem hi⟩, fun i H x H' c _ y => ⟨y.1, y.2 vs (h H c)⟩, fun H c => ⟨vs, h H c, Nat.le_refl _⟩⟩
end
end L2
namespace L2
open PySem PySem.Spec PyProof.Rows
section
variable {X : Cx} {K : W.Frag} {pos : Pos}
theorem zC (K : W.Frag) {es : List Expr} {k : Nat} {t : TGs} {n : Nat} (hc : X.calm = true) (h : PGs X es t) (hK : X.K = K := by rfl)
 (hn : (assignEach es X.env).length = n := by rfl) (hst : (assignEach es X.env).findIdx? (·.1) = none := by rfl) : PG X (.Tuple es k pos) (F0 K n t) := by
 subst hK; exact F3 hc h hn hst
end
section
variable {X : Cx} {T name id : String} {r : V -> List V -> Hp -> VK -> Prop} {o e : Expr} {es : List Expr} {to : TE} {t : TA} {apos cpos : Pos}
theorem cW (K : W.Frag) (pa : PlainAttrs T) (slot : Slot T name id) (hty : typeOf (.builtin id) = pure (.type "method_descriptor")) (hm : MtR X id r) (ho : PE X o to) (ha : PA X (e :: es) t) (hK : X.K = K := by rfl)
 (hbase : attributeBase o name X.env (eval o X.env) = eval o X.env := by rfl)
 (hfew : ((backTo cpos (starEach (e :: es) X.env)).all (fun x => !x.1) && (backToKw cpos (keywordEach [] X.env)).all (fun x => x.1.isSome)
  && decide ((e :: es).length + ([] : List Keyword).length + (if ([] : List Keyword).isEmpty then 0 else 1) < 30)) = true := by rfl)
 (hline : (apos.endLine == cpos.line) = true := by rfl) (hs : starEach (e :: es) X.env = (false, eval e X.env) :: starEach es X.env := by rfl) (hplain : (backTo cpos (starEach es X.env)).any (·.1) = false := by rfl) :
 PE X (.Call (.Attribute o name apos) (e :: es) [] cpos) (tBM K T r to t) := by
 subst hK; exact Hm pa slot hty hm ho ha hbase hfew hline hs hplain
end
section
variable {K : W.Frag} {tl : TE} {ks : List Nat} {σ : St} {H : Hp} {Q : VK} {tt : TT} {te : TE}
end
end L2
namespace L2
end L2
namespace L2
open PySem PySem.Spec PyProof.Rows Builtin Builtin.Str
def spN (c : Nat) : List Nat -> List (List Nat)
 | [] => [[]]
 | a :: r => if a = c then [] :: spN c r else match spN c r with
  | h :: t => (a :: h) :: t
  | [] => [[a]]
theorem gj (c : Nat) : ∀ l, spN c l ≠ []
 | [] => by simp [spN]
 | a :: r => by
  unfold spN
  split
  ·simp
  ·split <;> simp
theorem xx (c : Nat) : ∀ l : List Nat, c ∉ l -> spN c l = [l]
 | [], _ => rfl
 | a :: r, h => by
  have h1 : ¬ a = c := fun z => h (by rw [z]; simp)
  have h2 : c ∉ r := fun z => h (List.mem_cons_of_mem _ z)
  unfold spN
  rw [if_neg h1, xx c r h2]
theorem At (c : Nat) : ∀ (l r : List Nat), c ∉ l -> spN c (l ++ c :: r) = l :: spN c r
 | [], r, _ => by simp [spN]
 | a :: l, r, h => by
  have h1 : ¬ a = c := fun z => h (by rw [z]; simp)
  have h2 : c ∉ l := fun z => h (List.mem_cons_of_mem _ z)
  rw [List.cons_append]
  show (if a = c then _ else _) = _
  rw [if_neg h1, At c l r h2]
theorem h8 (c : Nat) : ∀ ps : List (List Nat), ps ≠ [] -> (∀ p ∈ ps, c ∉ p) -> spN c (bG [c] ps) = ps
 | [], h, _ => absurd rfl h
 | [p], _, h => xx c p (h p (by simp))
 | p :: q :: r, _, h => by
  rw [bG, List.append_assoc, List.singleton_append, At c p _ (h p (by simp)), h8 c (q :: r) (by simp) fun x hx => h x (List.mem_cons_of_mem _ hx)]
theorem eg (c : Nat) : ∀ l : List Nat, bG [c] (spN c l) = l
 | [] => rfl
 | a :: r => by
  have ih := eg c r
  unfold spN
  split
  ·rename_i e
   cases es : spN c r with
   | nil => exact absurd es (gj c r)
   | cons h t => rw [es] at ih; rw [bG, ih, e]; rfl
  ·cases es : spN c r with
   | nil => exact absurd es (gj c r)
   | cons h t =>
    rw [es] at ih
    cases t with
    | nil => simp [bG] at ih ⊢; exact ih
    | cons h2 t => rw [bG] at ih ⊢; rw [<- ih]; simp
theorem dB (c : Nat) : ∀ (l : List Nat), ∀ p ∈ spN c l, c ∉ p
 | [], p, hp => by simp [spN] at hp; rw [hp]; simp
 | a :: r, p, hp => by
  unfold spN at hp
  split at hp
  ·rcases List.mem_cons.mp hp with h | h
   ·rw [h]; simp
   ·exact dB c r p h
  ·rename_i hne
   split at hp
   ·rename_i h t es
    rcases List.mem_cons.mp hp with e | e
    ·rw [e]
     have := dB c r h (by rw [es]; simp)
     simp only [List.mem_cons, not_or]
     exact ⟨fun z => hne z.symm, this⟩
    ·exact dB c r p (by rw [es]; exact List.mem_cons_of_mem _ e)
   ·rename_i es; exact absurd es (gj c r)
theorem jM (c : Nat) : ∀ l : List Nat, (spN c l).length <= l.length + 1
 | [] => by simp [spN]
 | a :: r => by
  have ih := jM c r
  unfold spN
  split
  ·simp; omega
  ·split
   ·rename_i es; rw [es] at ih; simp at ih ⊢; omega
   ·simp
theorem gR (c : Nat) : ∀ l : List Nat, ∀ p ∈ spN c l, p.length <= l.length /\ ∀ d ∈ p, d ∈ l
 | [], p, hp => by simp [spN] at hp; rw [hp]; simp
 | a :: r, p, hp => by
  unfold spN at hp
  split at hp
  ·rcases List.mem_cons.mp hp with h | h
   ·rw [h]; simp
   ·obtain ⟨h1, h2⟩ := gR c r p h
    exact ⟨by rw [List.length_cons]; omega, fun d hd => List.mem_cons_of_mem _ (h2 d hd)⟩
  ·split at hp
   ·rename_i h t es
    rcases List.mem_cons.mp hp with e | e
    ·obtain ⟨h1, h2⟩ := gR c r h (by rw [es]; simp)
     rw [e]
     refine ⟨by rw [List.length_cons, List.length_cons]; omega, fun d hd => ?_⟩
     rcases List.mem_cons.mp hd with z | z
     ·rw [z]; simp
     ·exact List.mem_cons_of_mem _ (h2 d z)
    ·obtain ⟨h1, h2⟩ := gR c r p (by rw [es]; exact List.mem_cons_of_mem _ e)
     exact ⟨by rw [List.length_cons]; omega, fun d hd => List.mem_cons_of_mem _ (h2 d hd)⟩
   ·rename_i es; exact absurd es (gj c r)
theorem Cw (x y : Str) : Txt.split x y ≠ [] := by
 unfold Txt.split
 split
 ·simp
 ·split
  ·simp
  ·rw [StrLaws.partsBetween_eq]
   obtain ⟨p, r, e⟩ := StrLaws.partsFrom_ne x y.length 0 (occurrences x y 0 x.length (x.length + 1))
   rw [e]; simp
theorem BK (l : List Nat) (c : Nat) : (Txt.split ⟨⟨l⟩⟩ ⟨#[c]⟩).map (fun x => cs x) = spN c l := by
 have h1 := StrLaws.join_split ⟨⟨l⟩⟩ ⟨#[c]⟩
 have h2 := StrLaws.split_free ⟨⟨l⟩⟩ c
 have h0 := Cw ⟨⟨l⟩⟩ ⟨#[c]⟩
 generalize Txt.split ⟨⟨l⟩⟩ ⟨#[c]⟩ = ps at h0 h1 h2
 have hj : bG [c] (ps.map fun x => cs x) = l := by
  have e : ps = (ps.map fun x => cs x).map S := by rw [List.map_map]; conv => lhs; rw [<- List.map_id ps]
                                                   apply List.map_congr_left; intro x _; rfl
  rw [e] at h1
  have h3 : Str.join (S [c]) ((ps.map fun x => cs x).map S) = S (bG [c] (ps.map fun x => cs x)) := by
   have := An [c] (ps.map fun x => cs x)
   exact (StrLaws.glued_eq_join _ _).symm.trans this
  have h4 : S (bG [c] (ps.map fun x => cs x)) = ⟨⟨l⟩⟩ := h3.symm.trans h1
  have h5 := congrArg cs h4
  exact h5
 have hne : (ps.map fun x => cs x) ≠ [] := by
  intro z
  exact h0 (List.map_eq_nil_iff.mp z)
 rw [<- hj, h8 c _ hne]
 intro p hp
 obtain ⟨x, hx, rfl⟩ := List.mem_map.mp hp
 exact h2 x hx
section
variable {X : Cx} {e a b c : Expr} {pos : Pos}
def Fe : V -> List V -> Hp -> VK -> Prop
 | .str x, [.str y], H, Q => (∃ c, cs y = [c] /\ (cs x).length + 2 <= sizeLine /\ ∀ p, H p = none -> Q (.ref p) (upd H p (.lst ((spN c (cs x)).map T))))
 | _, _, _, _ => False
theorem uC : ∀ (l : List (Str × Tok)), Vals (l.map fun p => V.str p.1) (strValues l)
 | [] => .nil
 | p :: r => .cons ⟨p.2, rfl⟩ (uC r)
theorem oM : MtR X "str.split" Fe := by
 intro pins s σ H x xs v us Q I rx rs h
 unfold Fe at h
 split at h
 ·rename_i x y
  obtain ⟨c, hc, hz, q⟩ := h
  obtain ⟨t, rfl⟩ := rx
  obtain ⟨u, rfl, t', rfl⟩ := iD rs
  have hy := wx hc
  subst hy
  obtain ⟨⟨l⟩⟩ := x
  have hx : (⟨⟨l⟩⟩ : Str).length + 2 <= sizeLine := hz
  have fin : ∀ (l' : List (Str × Tok)) (k : Nat), l'.map (·.1) = Txt.split ⟨⟨l⟩⟩ ⟨#[c]⟩ -> EP X pins σ Q (.ref s.heap.objs.size) { s with toks := k, heap := s.heap.push { cls := .type "list", data := .seq (strValues l').toArray } } := fun l' k hl => by
   have e : (spN c l).map T = l'.map fun p => V.str p.1 := by
    rw [<- BK, <- hl, List.map_map, List.map_map]
    apply List.map_congr_left
    intro p _; rfl
   have hlen : ((spN c l).map T).length <= sizeLine := by
    rw [List.length_map]
    have := jM c l
    have hz' : l.length + 2 <= sizeLine := hz
    omega
   have hv : Vals ((spN c l).map T) (strValues l') := by rw [e]; exact uC l'
   exact ⟨.ref s.heap.objs.size, _, I.lnew (t' := k) hv hlen, rfl, q _ I.fresh⟩
  have hn : (partsBetween ⟨⟨l⟩⟩ (occurrences ⟨⟨l⟩⟩ ⟨#[c]⟩ 0 (⟨⟨l⟩⟩ : Str).length ((⟨⟨l⟩⟩ : Str).length + 1)) (⟨#[c]⟩ : Str).length).length <= sizeLine := by
   have e1 := StrLaws.occ_length_le ⟨⟨l⟩⟩ ⟨#[c]⟩ 0 (⟨⟨l⟩⟩ : Str).length ((⟨⟨l⟩⟩ : Str).length + 1)
   rw [length_partsBetween]; omega
  have hy : ((⟨#[c]⟩ : Str).length == 0) = false := rfl
  cases h1 : (decide ((⟨⟨l⟩⟩ : Str).length < (⟨#[c]⟩ : Str).length) || decide (strKind ⟨⟨l⟩⟩ < strKind ⟨#[c]⟩))
  ·cases hf : (occurrences ⟨⟨l⟩⟩ ⟨#[c]⟩ 0 (⟨⟨l⟩⟩ : Str).length ((⟨⟨l⟩⟩ : Str).length + 1)).isEmpty
   ·refine call_meets F.slot_str_split (typeIs_str _ _ _) F.entry_str_split (F.args_str_split_2 _ _) (meets_str_split_sep ⟨⟨l⟩⟩ ⟨#[c]⟩ t t' h1 hy hf (by omega) hn) ?_
    show wants _ _ _ { s with toks := _, heap := s.heap.push { cls := .type "list", data := .seq (strsFrom s.toks (partsBetween ⟨⟨l⟩⟩ (occurrences ⟨⟨l⟩⟩ ⟨#[c]⟩ 0 (⟨⟨l⟩⟩ : Str).length ((⟨⟨l⟩⟩ : Str).length + 1)) (⟨#[c]⟩ : Str).length)).toArray } }
    rw [strsFrom_eq]
    exact fin (numbered s.toks _) _ ((numbered_texts _ _).trans ((if_neg (ne_true_of_eq_false h1)).trans (if_neg (ne_true_of_eq_false hf))).symm)
   ·refine call_meets F.slot_str_split (typeIs_str _ _ _) F.entry_str_split (F.args_str_split_2 _ _) (meets_str_split_not_found ⟨⟨l⟩⟩ ⟨#[c]⟩ t t' h1 hy hf) ?_
    exact fin [(⟨⟨l⟩⟩, t)] s.toks ((if_neg (ne_true_of_eq_false h1)).trans (if_pos hf)).symm
  ·refine call_meets F.slot_str_split (typeIs_str _ _ _) F.entry_str_split (F.args_str_split_2 _ _) (meets_str_split_cannot_occur ⟨⟨l⟩⟩ ⟨#[c]⟩ t t' h1) ?_
   exact fin [(⟨⟨l⟩⟩, t)] s.toks (if_pos h1).symm
 ·exact h.elim
def Fg : R2
 | .ref l, .ref b, H, Q => ∃ xs zs, H l = some (.lst xs) /\ H b = some (.lst zs) /\ xs.length + zs.length <= sizeLine /\ ∀ p, H p = none -> Q (.ref p) (upd H p (.lst (xs ++ zs)))
 | _, _, _, _ => False
theorem zo : OpR X (binaryOp .Add) Fg := F1.imp fun x y H Q h => by
 unfold Fg at h; split at h
 ·obtain ⟨xs, zs, h1, h2, h3, q⟩ := h
  exact ⟨_, _, xs, zs, rfl, rfl, h1, h2, h3, q⟩
 ·exact h.elim
theorem sM (K : W.Frag) (h : X.K = K := by rfl) : SlR X (Hb K) := h ▸ Dt
def C_ (K : W.Frag) : List V -> Hp -> VK -> Prop
 | [.ref p], H, Q => ∃ ys, (SqL K H p ys \/ SqT K H p ys) /\ ∀ l, H l = none -> Q (.ref l) (upd H l (.lst ys))
 | _, _, _ => False
theorem D5 (K : W.Frag) (hK : X.K = K := by rfl) : CallR X (.type "list") (C_ K) := by
 subst hK
 refine vZ.imp fun xs H Q h => ?_
 unfold C_ at h; split at h
 ·obtain ⟨ys, h1, q⟩ := h
  exact ⟨_, ys, rfl, h1, q⟩
 ·exact h.elim
inductive EqH (K : W.Frag) (H : Hp) : Nat -> V -> V -> Bool -> Prop
 | flat {n x y} : cy x = true -> cy y = true -> EqH K H n x y (eqV x y)
 | same {n p} : EqH K H n (.ref p) (.ref p) true
 | lst {n p q xs ys} {e : Nat -> Bool} : p ≠ q -> SqL K H p xs -> SqL K H q ys -> xs.length = ys.length -> (∀ j x y, xs[j]? = some x -> ys[j]? = some y -> EqH K H n x y (e j)) -> EqH K H (n + 1) (.ref p) (.ref q) ((List.range xs.length).all e)
 | len {n p q xs ys} : p ≠ q -> SqL K H p xs -> SqL K H q ys -> xs.length ≠ ys.length -> EqH K H (n + 1) (.ref p) (.ref q) false
 | tup {n p q xs ys} {e : Nat -> Bool} : p ≠ q -> SqT K H p xs -> SqT K H q ys -> (∀ j x y, xs[j]? = some x -> ys[j]? = some y -> EqH K H n x y (e j)) -> EqH K H (n + 1) (.ref p) (.ref q) ((List.range (min xs.length ys.length)).all e && xs.length == ys.length)
 | lt {n p q xs ys} : SqL K H p xs -> SqT K H q ys -> EqH K H (n + 1) (.ref p) (.ref q) false
 | tl {n p q xs ys} : SqT K H p xs -> SqL K H q ys -> EqH K H (n + 1) (.ref p) (.ref q) false
theorem i7 {P : Value -> Value -> Bool -> Prop} {xs ys : List V} {its its' : List Value} {e : Nat -> Bool} (r : Vals xs its) (r' : Vals ys its') (h : ∀ j x y u v, xs[j]? = some x -> ys[j]? = some y -> RelV x u -> RelV y v -> P u v (e j)) :
 ∀ j (h1 : j < its.toArray.size) (h2 : j < its'.toArray.size), P its.toArray[j] its'.toArray[j] (e j) := fun j g1 g2 => by
 have h1 : xs.length = its.length := r.length
 have h2 : ys.length = its'.length := r'.length
 have g1' : j < its.length := by simpa using g1
 have g2' : j < its'.length := by simpa using g2
 have l1 : j < xs.length := by omega
 have l2 : j < ys.length := by omega
 obtain ⟨w1, e1, r1⟩ := r.get (List.getElem?_eq_getElem l1)
 obtain ⟨w2, e2, r2⟩ := r'.get (List.getElem?_eq_getElem l2)
 have z1 : its.toArray[j] = w1 := by
  have : its[j]? = some its[j] := List.getElem?_eq_getElem g1'
  rw [this] at e1; simpa using Option.some.inj e1
 have z2 : its'.toArray[j] = w2 := by
  have : its'[j]? = some its'[j] := List.getElem?_eq_getElem g2'
  rw [this] at e2; simpa using Option.some.inj e2
 rw [z1, z2]
 exact h j _ _ _ _ (List.getElem?_eq_getElem l1) (List.getElem?_eq_getElem l2) r1 r2
theorem EqH.at {K : W.Frag} {H : Hp} {n : Nat} {x y : V} {b : Bool} (h : EqH K H n x y b) : ∀ {X : Cx} {pins : List (Addr × Obj)} {σ : St} {s : Shared} {A : Around} {u v : Value}, X.K = K -> Inv X pins σ H s -> A.units + n < cLine -> RelV x u -> RelV y v -> SeqAt.EqAt A s u v b := by
 induction h with
 | flat fx fy =>
  intro X pins σ s A u v hK I hu rx ry
  exact yV rx ry fx fy
 | same =>
  intro X pins σ s A u v hK I hu rx ry
  cases rx; cases ry
  exact SeqAt.EqAt.same _
 | @lst n p q xs ys e hpq hx hy hl _ ih =>
  intro X pins σ s A u v hK I hu rx ry
  cases rx; cases ry
  subst hK
  obtain ⟨its, r, pl, hz⟩ := I.list hx
  obtain ⟨its', r', pl', hz'⟩ := I.list hy
  have h1 : xs.length = its.length := r.length
  have h2 : ys.length = its'.length := r'.length
  have := SeqAt.RcAt.lists (A := A) (e := e) pl.isList pl'.isList (by simp; omega) (by omega) (i7 r r' fun j x y u v g1 g2 r1 r2 => ih j x y g1 g2 rfl I (by show A.units + 1 + n < cLine; omega) r1 r2)
  rw [List.size_toArray, <- h1] at this
  exact .of_refs hpq this
 | @len n p q xs ys hpq hx hy hl =>
  intro X pins σ s A u v hK I hu rx ry
  cases rx; cases ry
  subst hK
  obtain ⟨its, r, pl, hz⟩ := I.list hx
  obtain ⟨its', r', pl', hz'⟩ := I.list hy
  have h1 : xs.length = its.length := r.length
  have h2 : ys.length = its'.length := r'.length
  exact .of_refs hpq (SeqAt.RcAt.lists_lengths pl.isList pl'.isList (by simp; omega) (by omega))
 | @tup n p q xs ys e hpq hx hy _ ih =>
  intro X pins σ s A u v hK I hu rx ry
  cases rx; cases ry
  subst hK
  obtain ⟨its, r, pl, hz⟩ := I.tuple hx
  obtain ⟨its', r', pl', hz'⟩ := I.tuple hy
  have h1 : xs.length = its.length := r.length
  have h2 : ys.length = its'.length := r'.length
  have := SeqAt.RcAt.tuples (A := A) (e := e) pl pl' (by omega) (i7 r r' fun j x y u v g1 g2 r1 r2 => ih j x y g1 g2 rfl I (by show A.units + 1 + n < cLine; omega) r1 r2)
  rw [List.size_toArray, List.size_toArray, <- h1, <- h2] at this
  exact .of_refs hpq this
 | lt hx hy =>
  intro X pins σ s A u v hK I hu rx ry
  cases rx; cases ry
  subst hK
  obtain ⟨its, r, pl, hz⟩ := I.list hx
  obtain ⟨its', r', pl', hz'⟩ := I.tuple hy
  exact SeqAt.EqAt.list_tuple pl.isList pl' (by omega)
 | tl hx hy =>
  intro X pins σ s A u v hK I hu rx ry
  cases rx; cases ry
  subst hK
  obtain ⟨its, r, pl, hz⟩ := I.tuple hx
  obtain ⟨its', r', pl', hz'⟩ := I.list hy
  exact SeqAt.EqAt.tuple_list pl pl'.isList (by omega)
inductive EqR (K : W.Frag) (H : Hp) (p q : Addr) : Bool -> Prop
 | lst {xs ys} {e : Nat -> Bool} : SqL K H p xs -> SqL K H q ys -> xs.length = ys.length -> (∀ j x y, xs[j]? = some x -> ys[j]? = some y -> EqH K H 50 x y (e j)) -> EqR K H p q ((List.range xs.length).all e)
 | len {xs ys} : SqL K H p xs -> SqL K H q ys -> xs.length ≠ ys.length -> EqR K H p q false
 | tup {xs ys} {e : Nat -> Bool} : SqT K H p xs -> SqT K H q ys -> (∀ j x y, xs[j]? = some x -> ys[j]? = some y -> EqH K H 50 x y (e j)) -> EqR K H p q ((List.range (min xs.length ys.length)).all e && xs.length == ys.length)
def CS (K : W.Frag) (neg : Bool) : R2
 | .ref p, .ref q, H, Q => ∃ b, EqR K H p q b /\ Q (.bl (neg ^^ b)) H
 | _, _, _, _ => False
theorem F_ (K : W.Frag) (hu : X.A.units + 100 < cLine) (hK : X.K = K := by rfl) : OpR X (compareOp .Eq) (CS K false) := by
 subst hK
 intro pins s σ H x y v u Q I rx ry h
 unfold CS at h
 split at h
 ·rename_i p q
  obtain ⟨b, hb, q⟩ := h
  cases rx; cases ry
  cases hb with
  | @lst xs ys e hx hy hl he =>
   obtain ⟨its, r, pl, hz⟩ := I.list hx
   obtain ⟨its', r', pl', hz'⟩ := I.list hy
   have h1 : xs.length = its.length := r.length
   have h2 : ys.length = its'.length := r'.length
   refine SeqAt.eq_listAt (e := e) pl.isList pl'.isList (by simp; omega) (by omega) (i7 r r' fun j x y u v g1 g2 r1 r2 => (he j x y g1 g2).at rfl I (by show X.A.units + 1 + 50 < cLine; omega) r1 r2) ⟨.bl _, H, I, rfl, ?_⟩
   rw [List.size_toArray, <- h1]; simpa using q
  | @len xs ys hx hy hl =>
   obtain ⟨its, r, pl, hz⟩ := I.list hx
   obtain ⟨its', r', pl', hz'⟩ := I.list hy
   have h1 : xs.length = its.length := r.length
   have h2 : ys.length = its'.length := r'.length
   exact SeqAt.eq_list_lengthsAt pl.isList pl'.isList (by simp; omega) (by omega) ⟨.bl false, H, I, rfl, by simpa using q⟩
  | @tup xs ys e hx hy he =>
   obtain ⟨its, r, pl, hz⟩ := I.tuple hx
   obtain ⟨its', r', pl', hz'⟩ := I.tuple hy
   have h1 : xs.length = its.length := r.length
   have h2 : ys.length = its'.length := r'.length
   refine SeqAt.eq_tupleAt (e := e) pl pl' (by omega) (i7 r r' fun j x y u v g1 g2 r1 r2 => (he j x y g1 g2).at rfl I (by show X.A.units + 1 + 50 < cLine; omega) r1 r2) ⟨.bl _, H, I, rfl, ?_⟩
   rw [List.size_toArray, List.size_toArray, <- h1, <- h2]; simpa using q
 ·exact h.elim
theorem F8 (K : W.Frag) (hu : X.A.units + 100 < cLine) (hK : X.K = K := by rfl) : OpR X (compareOp .NotEq) (CS K true) := by
 subst hK
 intro pins s σ H x y v u Q I rx ry h
 unfold CS at h
 split at h
 ·rename_i p q
  obtain ⟨b, hb, q⟩ := h
  cases rx; cases ry
  cases hb with
  | @lst xs ys e hx hy hl he =>
   obtain ⟨its, r, pl, hz⟩ := I.list hx
   obtain ⟨its', r', pl', hz'⟩ := I.list hy
   have h1 : xs.length = its.length := r.length
   have h2 : ys.length = its'.length := r'.length
   refine SeqAt.RcNeAt.lists (e := e) pl.isList pl'.isList (by simp; omega) (by omega) (i7 r r' fun j x y u v g1 g2 r1 r2 => (he j x y g1 g2).at rfl I (by show X.A.units + 1 + 50 < cLine; omega) r1 r2) X.prog X.w X.xe _ ⟨.bl _, H, I, rfl, ?_⟩
   rw [List.size_toArray, <- h1]; simpa using q
  | @len xs ys hx hy hl =>
   obtain ⟨its, r, pl, hz⟩ := I.list hx
   obtain ⟨its', r', pl', hz'⟩ := I.list hy
   have h1 : xs.length = its.length := r.length
   have h2 : ys.length = its'.length := r'.length
   exact SeqAt.RcNeAt.lists_lengths pl.isList pl'.isList (by simp; omega) (by omega) X.prog X.w X.xe _ ⟨.bl true, H, I, rfl, by simpa using q⟩
  | @tup xs ys e hx hy he =>
   obtain ⟨its, r, pl, hz⟩ := I.tuple hx
   obtain ⟨its', r', pl', hz'⟩ := I.tuple hy
   have h1 : xs.length = its.length := r.length
   have h2 : ys.length = its'.length := r'.length
   refine SeqAt.RcNeAt.tuples (e := e) pl pl' (by omega) (i7 r r' fun j x y u v g1 g2 r1 r2 => (he j x y g1 g2).at rfl I (by show X.A.units + 1 + 50 < cLine; omega) r1 r2) X.prog X.w X.xe _ ⟨.bl _, H, I, rfl, ?_⟩
   rw [List.size_toArray, List.size_toArray, <- h1, <- h2]; simpa using q
 ·exact h.elim
theorem EqR.flatL {K : W.Frag} {H : Hp} {p q : Addr} {xs : List V} (hx : SqL K H p xs) (hy : SqL K H q xs) (f : xs.all cy = true) : EqR K H p q true := by
 have h := EqR.lst (K := K) (H := H) (e := fun j => eqV (xs.getD j .non) (xs.getD j .non)) hx hy rfl fun j x y gx gy => by
  have e1 : xs.getD j .non = x := by simp [List.getD, gx]
  rw [e1]
  rw [gx] at gy
  cases gy
  exact .flat (List.all_eq_true.mp f _ (List.mem_of_getElem? gx)) (List.all_eq_true.mp f _ (List.mem_of_getElem? gx))
 have e : (List.range xs.length).all (fun j => eqV (xs.getD j .non) (xs.getD j .non)) = true := by
  rw [List.all_eq_true]
  intro j hj
  have hf : cy (xs.getD j .non) = true := by
   have hj' : j < xs.length := by simpa using hj
   have : xs.getD j .non ∈ xs := by
    have e1 : xs.getD j .non = xs[j] := by simp [List.getD, hj']
    rw [e1]; exact List.getElem_mem hj'
   exact List.all_eq_true.mp f _ this
  generalize xs.getD j .non = z at hf
  cases z <;> simp [eqV] at hf ⊢ <;> simp [cy] at hf
 rw [e] at h; exact h
end
end L2
namespace PySem
open Sem (wp)
open Builtin
end PySem
namespace L2
open PySem PySem.Spec PyProof.Rows Builtin Builtin.Str
section
variable {X : Cx} {e a b c : Expr} {pos : Pos}
def m5 (K : W.Frag) (neg : Bool) : R2 := fun x y H Q => match eqS x y with
 | some k => Q (.bl (neg ^^ k)) H
 | none => CS K neg x y H Q
theorem bo (K : W.Frag) (hu : X.A.units + 100 < cLine) (hK : X.K = K := by rfl) : OpR X (compareOp .Eq) (m5 K false) := ((Fs (by omega)).or (F_ K hu hK)).imp fun x y H Q h => by
 unfold m5 at h
 split at h
 ·rename_i k hk
  obtain ⟨h1, h2⟩ := xQ hk
  exact .inl (.inl ⟨h1, by rw [h2]; simpa using h⟩)
 ·exact .inr h
theorem iK (K : W.Frag) (hu : X.A.units + 100 < cLine) (hK : X.K = K := by rfl) : OpR X (compareOp .NotEq) (m5 K true) := ((Fq (by omega)).or (F8 K hu hK)).imp fun x y H Q h => by
 unfold m5 at h
 split at h
 ·rename_i k hk
  obtain ⟨h1, h2⟩ := xQ hk
  exact .inl (.inl ⟨h1, by rw [h2]; simpa using h⟩)
 ·exact .inr h
variable {K : W.Frag} {neg : Bool} {H : Hp} {Q : VK}
theorem zA {i j : Int} : m5 K neg (.int i) (.int j) H Q = Q (.bl (neg ^^ decide (i = j))) H := rfl
theorem CK {i j : Bool} : m5 K neg (.bl i) (.bl j) H Q = Q (.bl (neg ^^ decide (i = j))) H := rfl
theorem zL {i j : Str} : m5 K neg (.str i) (.str j) H Q = Q (.bl (neg ^^ decide (i.cps.toList = j.cps.toList))) H := rfl
theorem Aw {p q : Addr} : m5 K neg (.ref p) (.ref q) H Q = ∃ b, EqR K H p q b /\ Q (.bl (neg ^^ b)) H := rfl
theorem Cp : m5 K neg .non .non H Q = Q (.bl (neg ^^ true)) H := rfl
theorem CC {i : Int} : m5 K neg .non (.int i) H Q = Q (.bl (neg ^^ false)) H := rfl
theorem BH {i : Int} : m5 K neg (.int i) .non H Q = Q (.bl (neg ^^ false)) H := rfl
theorem CZ {i : Int} {s : Str} : m5 K neg (.int i) (.str s) H Q = Q (.bl (neg ^^ false)) H := rfl
theorem Cq {i : Int} {s : Str} : m5 K neg (.str s) (.int i) H Q = Q (.bl (neg ^^ false)) H := rfl
end
theorem wN {K : W.Frag} {H H' : Hp} {a : Addr} {xs : List V} (s : Same H H') (h : SqT K H a xs) : SqT K H' a xs := by
 rcases h with h | h
 ·rcases h with h | ⟨o, h⟩
  ·exact .inl (.inl (s _ _ h))
  ·exact .inl (.inr ⟨o, s _ _ h⟩)
 ·exact .inr h
theorem e6 {H H' : Hp} {x : V} {t : String} (s : Same H H') (h : cN H x = some t) : cN H' x = some t := by
 cases x with
 | ref p =>
  unfold cN at h ⊢
  dsimp only at h ⊢
  cases e : H p with
  | none => rw [e] at h; cases h
  | some o => rw [e] at h; rw [s _ _ e]; exact h
 | _ => exact h
theorem tq {n j : Nat} (h : j < n) : ixN n (j : Int) = some j := by
 unfold ixN
 rw [if_pos (by omega)]
 simp [h]
theorem CL {xs : List V} {H H1 : Hp} {Q : VK} {i : Int} {q : Addr} {o : HO} (h : atI xs i = some (.ref q)) (hq : H q = none) (ho : H1 q = some o) (po : qH o = true) (k : Q (.ref q) (upd H q o)) : j_ xs H H1 Q (.int i) := by
 unfold j_
 simp only [h, ho]
 exact ⟨hq, po, k⟩
theorem Bu (lo : Int) (n : Nat) : El (Itr lo n) ((List.range n).map fun k => V.int (lo + (k : Nat))) := by
 refine ⟨fun i H h => by simpa [Itr] using h, fun i H x H' hi y => ?_, fun H => by simp [Itr]⟩
 obtain ⟨e, rfl⟩ := y
 refine ⟨e, ?_⟩
 have hi' : i < n := by simpa using hi
 simp [hi']
end L2
namespace L2
theorem bx {k : Nat} {A : PySem.Around} (r : Room k A) : A.units + 100 < PySem.cLine := by have := r.un; omega
end L2
namespace L2
open PySem PySem.Spec PyProof.Rows
section
variable {κ : Type} [DecidableEq κ]
def lV (kvs : List (κ × V)) (k : κ) : Option V := (kvs.find? fun kv => decide (kv.1 = k)).map (·.2)
def lQ (kvs : List (κ × V)) (k : κ) (v : V) : List (κ × V) :=
 if (kvs.any fun kv => decide (kv.1 = k)) = true then kvs.map (fun kv => if kv.1 = k then (kv.1, v) else kv) else kvs ++ [(k, v)]
def HG (kvs : List (κ × V)) (k : κ) : List (κ × V) := kvs.filter fun kv => decide (kv.1 ≠ k)
theorem jb {p : κ × V} {r : List (κ × V)} {k : κ} (e : p.1 = k) : lV (p :: r) k = some p.2 := by simp [lV, List.find?_cons, e]
theorem ib {p : κ × V} {r : List (κ × V)} {k : κ} (e : ¬ p.1 = k) : lV (p :: r) k = lV r k := by simp [lV, List.find?_cons, e]
theorem tJ (k : κ) : ∀ kvs : List (κ × V), (kvs.any fun kv => decide (kv.1 = k)) = (lV kvs k).isSome
 | [] => rfl
 | p :: r => by
  rw [List.any_cons]
  by_cases e : p.1 = k
  ·simp only [jb e, decide_eq_true e, Bool.true_or, Option.isSome_some]
  ·rw [ib e, decide_eq_false e, Bool.false_or]; exact tJ k r
theorem qO (kvs : List (κ × V)) (k : κ) (v : V) : (lQ kvs k v).length <= kvs.length + 1 := by
 unfold lQ
 split
 ·rw [List.length_map]; omega
 ·rw [List.length_append, List.length_cons, List.length_nil]; omega
theorem o_ {kvs : List (κ × V)} {k : κ} (v : V) (h : lV kvs k = none) : lQ kvs k v = kvs ++ [(k, v)] := by
 unfold lQ
 rw [tJ, h]
 exact if_neg (by decide)
theorem RelO.isSome_eq {o : Option V} {u : Option Value} (r : RelO o u) : o.isSome = u.isSome := by
 cases o with
 | none => cases u with
  | none => rfl
  | some _ => exact (show False from r).elim
 | some _ => cases u with
  | none => exact (show False from r).elim
  | some _ => rfl
theorem KV.val {kvs : List (κ × V)} {vs : List (κ × Value)} (r : KV kvs vs) (k : κ) : RelO (lV kvs k) (valueAt vs k) := by
 unfold KV at r
 induction r with
 | nil => exact True.intro
 | @cons p q ps qs h t ih =>
  obtain ⟨h1, h2⟩ := h
  by_cases e : p.1 = k
  ·have e' : q.1 = k := h1.symm.trans e
   have b : valueAt (q :: qs) k = some q.2 := by simp [valueAt, List.find?_cons, e']
   rw [jb e, b]; exact h2
  ·have e' : ¬ q.1 = k := fun z => e (h1.trans z)
   have b : valueAt (q :: qs) k = valueAt qs k := by simp [valueAt, List.find?_cons, e']
   rw [ib e, b]; exact ih
theorem KV.any {kvs : List (κ × V)} {vs : List (κ × Value)} (r : KV kvs vs) (k : κ) : (kvs.any fun kv => decide (kv.1 = k)) = vs.any fun kv => decide (kv.1 = k) := by
 unfold KV at r
 induction r with
 | nil => rfl
 | cons h t ih => rw [List.any_cons, List.any_cons, ih, h.1]
theorem KV.repl {kvs : List (κ × V)} {vs : List (κ × Value)} (r : KV kvs vs) (k : κ) {y : V} {u : Value} (ry : RelV y u) :
 KV (kvs.map fun kv => if kv.1 = k then (kv.1, y) else kv) (vs.map fun kv => if kv.1 = k then (kv.1, u) else kv) := by
 unfold KV at r ⊢
 induction r with
 | nil => exact .nil
 | @cons p q ps qs h t ih =>
  rw [List.map_cons, List.map_cons]
  refine .cons ?_ ih
  obtain ⟨h1, h2⟩ := h
  by_cases e : p.1 = k
  ·rw [if_pos e, if_pos (h1.symm.trans e)]; exact ⟨h1, ry⟩
  ·rw [if_neg e, if_neg (fun z => e (h1.trans z))]; exact ⟨h1, h2⟩
theorem KV.put {kvs : List (κ × V)} {vs : List (κ × Value)} (r : KV kvs vs) (k : κ) {y : V} {u : Value} (ry : RelV y u) : KV (lQ kvs k y) (stored vs k u) := by
 unfold lQ stored
 rw [r.any k]
 by_cases e : (vs.any fun kv => decide (kv.1 = k)) = true
 ·rw [if_pos e, if_pos e]; exact r.repl k ry
 ·rw [if_neg e, if_neg e]; exact Paired.snoc r ⟨rfl, ry⟩
theorem KV.keys {kvs : List (κ × V)} {vs : List (κ × Value)} (r : KV kvs vs) : kvs.map (·.1) = vs.map (·.1) := by
 unfold KV at r
 induction r with
 | nil => rfl
 | cons h t ih => rw [List.map_cons, List.map_cons, ih, h.1]
theorem KV.length {kvs : List (κ × V)} {vs : List (κ × Value)} (r : KV kvs vs) : kvs.length = vs.length := Paired.length r
end
theorem xL {P : Program} {w : World} {k : Key} {u : Value} (r : RelV (kV k) u) : (cP P w).is k u = true := by
 cases k with
 | inl i => obtain ⟨t, e⟩ := (show ∃ t, u = Value.int i t from r); subst e; exact wV P w i t
 | inr x => obtain ⟨t, e⟩ := (show ∃ t, u = Value.str x t from r); subst e; exact xB P w x t
theorem uL {P : Program} {w : World} : ∀ {ks : List Key} {us : List Value}, Vals (ks.map kV) us -> ItemsAre (cP P w) ks us
 | [], _, r => by rw [List.map_nil] at r; cases r; exact .nil
 | k :: ks, _, r => by
  rw [List.map_cons] at r
  cases r with
  | cons h t => exact .cons (xL h) (uL t)
abbrev KT (H : Hp) : List (List Key × V) -> List (List Key × Addr × Value) -> Prop := Paired fun p q => p.1 = q.1 /\ H q.2.1 = some (.tup (p.1.map kV)) /\ RelV p.2 q.2.2
theorem KT.val {H : Hp} {kvs : List (List Key × V)} {xs : List (List Key × Addr × Value)} (r : KT H kvs xs) (k : List Key) : RelO (lV kvs k) ((atKey xs k).map (·.2)) := by
 induction r with
 | nil => exact True.intro
 | @cons p q ps qs h t ih =>
  obtain ⟨h1, _, h2⟩ := h
  by_cases e : p.1 = k
  ·have e' : q.1 = k := h1.symm.trans e
   have b : atKey (q :: qs) k = some q.2 := by simp [atKey, List.find?_cons, e']
   rw [jb e, b]; exact h2
  ·have e' : ¬ q.1 = k := fun z => e (h1.trans z)
   have b : atKey (q :: qs) k = atKey qs k := by simp [atKey, List.find?_cons, e']
   rw [ib e, b]; exact ih
theorem KT.repl {H : Hp} {kvs : List (List Key × V)} {xs : List (List Key × Addr × Value)} (r : KT H kvs xs) (k : List Key) {y : V} {u : Value} (ry : RelV y u) :
 KT H (kvs.map fun kv => if kv.1 = k then (kv.1, y) else kv) (xs.map (putAt k u)) := by
 induction r with
 | nil => exact .nil
 | @cons p q ps qs h t ih =>
  rw [List.map_cons, List.map_cons]
  refine .cons ?_ ih
  obtain ⟨h1, h2, h3⟩ := h
  unfold putAt
  by_cases e : p.1 = k
  ·rw [if_pos e, if_pos (h1.symm.trans e)]; exact ⟨h1, h2, ry⟩
  ·rw [if_neg e, if_neg (fun z => e (h1.trans z))]; exact ⟨h1, h2, h3⟩
theorem KT.put {H : Hp} {kvs : List (List Key × V)} {xs : List (List Key × Addr × Value)} (r : KT H kvs xs) (k : List Key) {b : Addr} {y : V} {u : Value} (hb : H b = some (.tup (k.map kV))) (ry : RelV y u) :
 KT H (lQ kvs k y) (storedH xs k b u) := by
 have e : (kvs.any fun kv => decide (kv.1 = k)) = (atKey xs k).isSome := by
  rw [tJ, (r.val k).isSome_eq, Option.isSome_map]
 unfold lQ storedH
 rw [e]
 by_cases q : (atKey xs k).isSome = true
 ·rw [if_pos q, if_pos q]; exact r.repl k ry
 ·rw [if_neg q, if_neg q]; exact Paired.snoc r ⟨rfl, hb, ry⟩
theorem KT.keeps {H H' : Hp} {kvs : List (List Key × V)} {xs : List (List Key × Addr × Value)} (r : KT H kvs xs) (ht : ∀ b ys, H b = some (.tup ys) -> H' b = some (.tup ys)) : KT H' kvs xs :=
 Paired.mapP r fun _ _ z => ⟨z.1, ht _ _ z.2.1, z.2.2⟩
section
variable {P : Program} {w : World} {H : Hp} {h : Heap} {a : Addr}
theorem CN {u : HO} (ok : HOk P w H h) (e : Rd H a u) : ObjOk P w H h a u := e.ok ok
theorem xw {kvs : List (Key × V)} (ok : HOk P w H h) (e : Rd H a (.dK kvs)) : kvs.length <= sizeLine /\ (a == sysModules) = false /\ ∃ vs, KV kvs vs /\ h.DictOf (cP P w) a vs :=
 show ObjOk P w H h a (.dK kvs) from CN ok e
theorem EK {kvs : List (Key × V)} (ok : HOk P w H h) (e : H a = some (.dK kvs)) : kvs.length <= sizeLine /\ (a == sysModules) = false /\ ∃ vs, KV kvs vs /\ h.DictOf (cP P w) a vs := xw ok (.inl e)
theorem sZ {ks : List Key} (ok : HOk P w H h) (e : H a = some (.tup (ks.map kV))) : (tupleKind (cP P w)).is h ks a := by
 obtain ⟨_, its, r, o, h1, h2, n, h3⟩ := (show ObjOk P w H h a (.tup (ks.map kV)) from ok a _ e)
 exact ⟨o, its.toArray, n, h1, h2, h3, by simpa using uL r⟩
theorem yd {kvs : List (List Key × V)} (ok : HOk P w H h) (e : Rd H a (.dT kvs)) : kvs.length <= sizeLine /\ (a == sysModules) = false /\
 ∃ xs, KT H kvs xs /\ h.DictOfH (tupleKind (cP P w)) a xs := by
 obtain ⟨z, y, xs, r, o, es, ep, h1, h2, h3, h4, h5⟩ := (show ObjOk P w H h a (.dT kvs) from CN ok e)
 refine ⟨z, y, xs, r, o, es, ep, h1, h2, h3, h4, fun x hx => ?_, h5⟩
 have all : ∀ {l : List (List Key × V)} {m : List (List Key × Addr × Value)}, KT H l m -> ∀ x ∈ m, (tupleKind (cP P w)).is h x.1 x.2.1 := by
  intro l m q
  induction q with
  | nil => intro x hx; exact nomatch hx
  | @cons p q ps qs hq t ih =>
   intro x hx
   rcases List.mem_cons.mp hx with e | hx
   ·subst e
    exact sZ ok (by rw [<- hq.1]; exact hq.2.1)
   ·exact ih x hx
 exact all r x hx
theorem Gr {kvs : List (List Key × V)} (ok : HOk P w H h) (e : H a = some (.dT kvs)) : kvs.length <= sizeLine /\ (a == sysModules) = false /\
 ∃ xs, KT H kvs xs /\ h.DictOfH (tupleKind (cP P w)) a xs := yd ok (.inl e)
end
def DGet (H : Hp) (a : Addr) (y : V) (r : Option V) : Prop :=
 (∃ kvs k, Rd H a (.dK kvs) /\ y = kV k /\ r = lV kvs k) \/ ∃ kvs k b, Rd H a (.dT kvs) /\ y = .ref b /\ H b = some (.tup (k.map kV)) /\ r = lV kvs k
def DPut (H : Hp) (a : Addr) (y v : V) (H' : Hp) : Prop :=
 (∃ kvs k, H a = some (.dK kvs) /\ y = kV k /\ kvs.length < sizeLine /\ H' = upd H a (.dK (lQ kvs k v))) \/
 ∃ kvs k b, H a = some (.dT kvs) /\ y = .ref b /\ H b = some (.tup (k.map kV)) /\ kvs.length < sizeLine /\ H' = upd H a (.dT (lQ kvs k v))
theorem DGet.k {H : Hp} {a : Addr} {kvs : List (Key × V)} {k : Key} (e : H a = some (.dK kvs)) : DGet H a (kV k) (lV kvs k) := .inl ⟨kvs, k, .inl e, rfl, rfl⟩
theorem DPut.k {H : Hp} {a : Addr} {kvs : List (Key × V)} {k : Key} {v : V} (e : H a = some (.dK kvs)) (hl : kvs.length < sizeLine) : DPut H a (kV k) v (upd H a (.dK (lQ kvs k v))) := .inl ⟨kvs, k, e, rfl, hl, rfl⟩
section
variable {X : Cx} {pins : List (Addr × Obj)} {σ : St} {H : Hp} {s : Shared} {a : Addr} {y v : V} {u r : Value} {o : Option V} {A : Around} {E : Value -> Shared -> Prop}
theorem Bb {Q : Value -> Shared -> Prop} (hu : A.units + 1 < cLine) (I : Inv X pins σ H s) (g : DGet H a y (some v)) (ry : RelV y u) (h : ∀ w' s', Inv X pins σ H s' -> RelV v w' -> Q w' s') :
 wpAny (model X.prog X.w) A (getItem (.ref a) u) Q E s := by
 rcases g with ⟨kvs, k, e, ey, l⟩ | ⟨kvs, k, b, e, ey, eb, l⟩
 ·subst ey
  obtain ⟨z, hd, vs, rel, dd⟩ := xw I.hok e
  obtain ⟨w', hw, rw'⟩ := RelO.some_of (v := v) (o := valueAt vs k) (by rw [l]; exact rel.val k)
  exact wpAny_getItem_of (xL ry) dd.mapOf hw (h w' _ (I.tok _) rw')
 ·subst ey
  cases (show u = Value.ref b from ry)
  obtain ⟨z, hd, xs, rel, dd⟩ := yd I.hok e
  obtain ⟨w', hw, rw'⟩ := RelO.some_of (v := v) (o := (atKey xs k).map (·.2)) (by rw [l]; exact rel.val k)
  obtain ⟨p, hp, hp2⟩ := Option.map_eq_some_iff.mp hw
  refine wpAny_getItem_heap (tupleKind_room_in1 hu) (sZ I.hok eb) dd hp ?_
  rw [hp2]
  exact h w' _ (I.tok _) rw'
theorem Ho {Q : Value -> Shared -> Prop} (hu : A.units + 1 < cLine) (I : Inv X pins σ H s) (g : DGet H a y o) (ry : RelV y u) (h : ∀ s', Inv X pins σ H s' -> Q (.bool o.isSome) s') :
 wpAny (model X.prog X.w) A (compareOp .In u (.ref a)) Q E s := by
 rcases g with ⟨kvs, k, e, ey, l⟩ | ⟨kvs, k, b, e, ey, eb, l⟩
 ·subst ey
  obtain ⟨z, hd, vs, rel, dd⟩ := xw I.hok e
  refine wpAny_in_of (xL ry) hd dd.mapOf ?_
  rw [<- (rel.val k).isSome_eq, <- l]
  exact h _ (I.tok _)
 ·subst ey
  cases (show u = Value.ref b from ry)
  obtain ⟨z, hd, xs, rel, dd⟩ := yd I.hok e
  refine wpAny_in_heap (tupleKind_room_in1 hu) (sZ I.hok eb) hd dd ?_
  have q := (rel.val k).isSome_eq
  rw [Option.isSome_map] at q
  rw [<- q, <- l]
  exact h _ (I.tok _)
theorem D3 {Q : Value -> Shared -> Prop} (hu : A.units + 1 < cLine) (I : Inv X pins σ H s) (g : DGet H a y o) (ry : RelV y u) (h : ∀ s', Inv X pins σ H s' -> Q (.bool (!o.isSome)) s') :
 wpAny (model X.prog X.w) A (compareOp .NotIn u (.ref a)) Q E s := by
 rcases g with ⟨kvs, k, e, ey, l⟩ | ⟨kvs, k, b, e, ey, eb, l⟩
 ·subst ey
  obtain ⟨z, hd, vs, rel, dd⟩ := xw I.hok e
  refine wpAny_notIn_of (xL ry) hd dd.mapOf ?_
  rw [<- (rel.val k).isSome_eq, <- l]
  exact h _ (I.tok _)
 ·subst ey
  cases (show u = Value.ref b from ry)
  obtain ⟨z, hd, xs, rel, dd⟩ := yd I.hok e
  refine wpAny_notIn_heap (tupleKind_room_in1 hu) (sZ I.hok eb) hd dd ?_
  have q := (rel.val k).isSome_eq
  rw [Option.isSome_map] at q
  rw [<- q, <- l]
  exact h _ (I.tok _)
theorem Ag {h' : Heap} {t' : Nat} {ob : HO} (I : Inv X pins σ H s) (mu : Mut (H a)) (hs : Heap.SameBut a s.heap h') (he : ∃ q, h'.get? a = some q) (new : ObjOk X.prog X.w (upd H a ob) h' a ob) :
 Inv X pins σ (upd H a ob) { s with heap := h', toks := t' } :=
 I.write (x := a) (e := a) mu (.inl rfl) (fun b q hb z => (hs.2 b hb).trans z) he new
theorem E0 {P : Program} {w : World} {H' : Hp} {h' : Heap} {kvs : List (Key × V)} {vs : List (Key × Value)} (z : kvs.length <= sizeLine) (hd : (a == sysModules) = false) (rel : KV kvs vs) (dd : h'.DictOf (cP P w) a vs) :
 ObjOk P w H' h' a (.dK kvs) := ⟨z, hd, vs, rel, dd⟩
theorem AT {H' : Hp} {Q : Unit -> Shared -> Prop} (hu : A.units + 1 < cLine) (I : Inv X pins σ H s) (g : DPut H a y v H') (ry : RelV y u) (rv : RelV v r) (h : ∀ s', Inv X pins σ H' s' -> Q () s') :
 wpAny (model X.prog X.w) A (setItem (.ref a) u r) Q E s := by
 rcases g with ⟨kvs, k, e, ey, l, eH⟩ | ⟨kvs, k, b, e, ey, eb, l, eH⟩
 ·subst ey eH
  obtain ⟨z, hd, vs, rel, dd⟩ := EK I.hok e
  have hz : vs.length <= sizeLine := by rw [<- rel.length]; exact z
  have hl : (lQ kvs k v).length <= sizeLine := by have := qO kvs k v; omega
  refine wpAny_setItem_pairs (hsz := hz) (xL ry) dd fun h' dd' hs => h _ ?_
  have he : ∃ q, h'.get? a = some q := let ⟨q, _, _, hq, _⟩ := dd'; ⟨q, hq⟩
  exact Ag I (by rw [e]; exact True.intro) hs he (E0 hl hd (rel.put k rv) dd')
 ·subst ey eH
  cases (show u = Value.ref b from ry)
  obtain ⟨z, hd, xs, rel, dd⟩ := Gr I.hok e
  have hz : xs.length <= sizeLine := by rw [<- Paired.length rel]; exact z
  have hl : (lQ kvs k v).length <= sizeLine := by have := qO kvs k v; omega
  refine wpAny_setItem_heap (hsz := hz) (tupleKind_room_in1 hu) (sZ I.hok eb) dd fun h' dd' hs => h _ ?_
  obtain ⟨q, es, ep, hq, h2, h3, h4, _, h5⟩ := dd'
  refine Ag I (by rw [e]; exact True.intro) hs ⟨q, hq⟩ ⟨hl, hd, _, (rel.put k eb rv).keeps fun c ys ec => ?_, q, es, ep, hq, h2, h3, h4, h5⟩
  rw [ar (Gq ec e (fun z => nomatch z))]
  exact ec
end
section
variable {X : Cx} {pins : List (Addr × Obj)} {σ : St} {H : Hp} {s : Shared} {a : Addr} {kvs : List (Key × V)} {k : Key} {u : Value} {A : Around} {E : Value -> Shared -> Prop}
end
def Ha (i : Expr) : Prop := ∀ ov iv, subscripted i false ov iv = operate [ov, iv] (getItem ov iv)
theorem DG {prog : Program} {w : World} {A : Around} {E : Value -> Shared -> Prop} {s : Shared} {env : Env} {value slice : Expr} {pos : Pos} {T id : String} {Q : Value -> Shared -> Prop}
 (hl : typeLookup (.type T) "__getitem__" = pure (some (.builtin id))) (hs : Ha slice)
 (h : wpAny (model prog w) A (eval value env) (fun o s₁ => wpAny (model prog w) A (eval slice env) (fun i s₂ => s₂.TypeIs o T /\ wpAny (model prog w) A (getItem o i) Q E s₂) E s₁) E s) :
 wpAny (model prog w) A (eval (.Subscript value slice pos) env) Q E s := by
 refine Subscript_ (wpAny_mono h (fun o s₁ h₁ => wpAny_mono h₁ (fun i s₂ h₂ => ?_) fun _ _ x => x) fun _ _ x => x)
 obtain ⟨hT, h₂⟩ := h₂
 unfold subscriptTail
 refine wpAny_bind ?_
 rw [getitemInPython_of_ne hT.not_modules]
 refine wpAny_bind (wpAny_specialOf hT hl ?_)
 have fin : wpAny (model prog w) A (subscripted slice false o i) (fun r s₃ => wpAny (model prog w) A (letTemporaryGo value o r >>= fun _ => pure r) Q E s₃) E s₂ := by
  rw [hs o i]
  exact wpAny_operating (wpAny_mono h₂ (fun r s₃ h₃ => wpAny_bind (wpAny_letTemporaryGo (wpAny_pure h₃))) fun _ _ x => x)
 first
  | exact wpAny_pure (wpAny_bind fin)
  | exact wpAny_bind (wpAny_pure (wpAny_bind fin))
  | exact wpAny_bind fin
theorem yc {X : Cx} {pins : List (Addr × Obj)} {σ : St} {H : Hp} {s : Shared} {a : Addr} {y : V} {o : Option V} (I : Inv X pins σ H s) (g : DGet H a y o) : s.TypeIs (.ref a) "dict" := by
 rcases g with ⟨kvs, k, e, _, _⟩ | ⟨kvs, k, b, e, _, _, _⟩
 ·obtain ⟨_, _, vs, _, dd⟩ := xw I.hok e
  exact dd.typeIs
 ·obtain ⟨_, _, xs, _, dd⟩ := yd I.hok e
  exact dd.typeIs
def EM (td ty : TE) : TE := fun σ H Q => td σ H fun x H1 => ty σ H1 fun y H2 => ∃ a v, x = .ref a /\ DGet H2 a y (some v) /\ Q v H2
def GH (ty td : TE) : TE := fun σ H Q => ty σ H fun y H1 => td σ H1 fun x H2 => ∃ a o, x = .ref a /\ DGet H2 a y o /\ Q (.bl o.isSome) H2
def zM (ty td : TE) : TE := fun σ H Q => ty σ H fun y H1 => td σ H1 fun x H2 => ∃ a o, x = .ref a /\ DGet H2 a y o /\ Q (.bl (!o.isSome)) H2
def ED (td ty tv : TE) : TS := fun D σ H => tv σ H fun v H1 => td σ H1 fun x H2 => ty σ H2 fun y H3 => ∃ a H4, x = .ref a /\ DPut H3 a y v H4 /\ D.nx σ H4
section
variable {X : Cx} {o i e value : Expr} {pos pos' tpos : Pos} {td ty tv : TE}
theorem fK (hu : X.A.units + 1 < cLine) (ho : PE X o td) (hi : PE X i ty) (hs : Ha i) : PE X (.Subscript o i pos) (EM td ty) := by
 intro pins s σ H Q I h
 refine DG PySem.F.slot_dict_getitem.lookup hs (thn (ho pins s σ H _ I h) fun u s1 ⟨x, H1, I1, rx, q1⟩ => thn (hi pins s1 σ H1 _ I1 q1) fun iv s2 ⟨y, H2, I2, ry, a, v, ex, g, q2⟩ => ?_)
 subst ex
 obtain rfl : u = Value.ref a := rx
 exact ⟨yc I2 g, Bb hu I2 g ry fun w' s3 I3 rw' => ⟨v, H2, I3, rw', q2⟩⟩
theorem qh (hu : X.A.units + 1 < cLine) (hi : PE X i ty) (ho : PE X o td) : PC X .In i o (GH ty td) := by
 intro pins s σ H Q I h
 refine thn (hi pins s σ H _ I h) fun iv s1 ⟨y, H1, I1, ry, q1⟩ => thn (ho pins s1 σ H1 _ I1 q1) fun u s2 ⟨x, H2, I2, rx, a, ov, ex, g, q2⟩ => ?_
 subst ex
 obtain rfl : u = Value.ref a := rx
 exact Ho hu I2 g ry fun s3 I3 => ⟨.bl ov.isSome, H2, I3, rfl, q2⟩
theorem uO (hu : X.A.units + 1 < cLine) (hi : PE X i ty) (ho : PE X o td) : PC X .NotIn i o (zM ty td) := by
 intro pins s σ H Q I h
 refine thn (hi pins s σ H _ I h) fun iv s1 ⟨y, H1, I1, ry, q1⟩ => thn (ho pins s1 σ H1 _ I1 q1) fun u s2 ⟨x, H2, I2, rx, a, ov, ex, g, q2⟩ => ?_
 subst ex
 obtain rfl : u = Value.ref a := rx
 exact D3 hu I2 g ry fun s3 I3 => ⟨.bl (!ov.isSome), H2, I3, rfl, q2⟩
theorem pB (hu : X.A.units + 1 < cLine) (ho : PE X o td) (hi : PE X i ty) (hv : PE X value tv) (hs : swapsWith value (some (.Subscript o i pos')) pos.line X.env = pure false) :
 PS X (.Assign [.Subscript o i pos'] value pos) (ED td ty tv) := by
 intro pins s σ H D I h
 refine wpAny_Assign_Subscript (thn (hv pins s σ H _ I h) fun r s1 ⟨v, H1, I1, rv, q1⟩ => thn (ho pins s1 σ H1 _ I1 q1) fun u s2 ⟨x, H2, I2, rx, q2⟩ => thn (hi pins s2 σ H2 _ I2 q2) fun iv s3 ⟨y, H3, I3, ry, a, H4, ex, g, q3⟩ => ?_) hs
 subst ex
 obtain rfl : u = Value.ref a := rx
 exact AT hu I3 g ry rv fun s4 I4 => ⟨σ, H4, I4, q3⟩
end
section
variable {X : Cx} {pos : Pos}
end
structure M1 (X : Cx) (o : Expr) (m : Str) (apos : Pos) (e : Expr) (cpos : Pos) : Prop where
 base : attributeBase o m X.env (eval o X.env) = eval o X.env
 few : ((backTo cpos (starEach [e] X.env)).all (fun x => !x.1) && (backToKw cpos (keywordEach [] X.env)).all (fun x => x.1.isSome)
  && decide (([e] : List Expr).length + ([] : List Keyword).length + (if ([] : List Keyword).isEmpty then 0 else 1) < 30)) = true
 line : (apos.endLine == cpos.line) = true
 trees : backTo cpos (starEach [e] X.env) = [(false, eval e X.env)]
section
variable {X : Cx} {pins : List (Addr × Obj)} {σ : St} {H : Hp} {s : Shared} {a : Addr} {y d : V} {u r : Value} {o : Option V} {A : Around} {E : Value -> Shared -> Prop}
end
section
variable {X : Cx} {o e f : Expr} {apos cpos : Pos} {td ty tx : TE}
end
section
variable {X : Cx} {pins : List (Addr × Obj)} {σ : St} {H : Hp} {s : Shared} {a : Addr} {kvs : List (Key × V)} {A : Around} {E : Value -> Shared -> Prop}
end
section
variable {X : Cx} {pins : List (Addr × Obj)} {σ : St} {H : Hp} {s : Shared} {a : Addr} {y : V} {u : Value} {A : Around} {E : Value -> Shared -> Prop}
end
end L2
namespace L2
open PySem PySem.Spec PyProof.Rows
section
variable {X : Cx} {e o value : Expr} {f : Str} {ta tv : TE} {pos pos' : Pos}
def FG (K : W.Frag) (f : Str) : V -> Hp -> VK -> Prop
 | .ref p, H, Q => ∃ C dx fs v, H p = some (.ins C dx fs) /\ Cls K C /\ NoAttr K C f /\ fs.lookup f = some v /\ Q v H
 | _, _, _ => False
def EA (K : W.Frag) (ta : TE) (f : Str) : TE := fun σ H Q => ta σ H fun x H1 => FG K f x H1 Q
theorem bR (K : W.Frag) (he : PE X e ta) (hK : X.K = K := by rfl) (hb : attributeBase e f X.env (eval e X.env) = eval e X.env := by rfl) : PE X (.Attribute e f pos) (EA K ta f) := by
 subst hK
 intro pins s σ H Q I h
 refine Ek hb (thn (he pins s σ H _ I h) fun u s1 ⟨x, H1, I1, rx, q⟩ => ?_)
 dsimp only at q
 unfold FG at q
 split at q
 ·rename_i a
  obtain ⟨C, dx, fs, v, ea, c, n, l, q⟩ := q
  obtain rfl : u = Value.ref a := rx
  exact yT I1 ea c n l fun u' s2 I2 ru => ⟨v, H1, I2, ru, q⟩
 ·exact q.elim
def Bz (K : W.Frag) (f : Str) (y : V) : V -> Hp -> (Hp -> Prop) -> Prop
 | .ref p, H, Q => ∃ C dx fs, H p = some (.ins C dx fs) /\ Cls K C /\ NoAttr K C f /\ fs.length < 1000 /\ Q (upd H p (.ins C dx (gs f y fs)))
 | _, _, _ => False
def Ew (K : W.Frag) (ta tv : TE) (f : Str) : TS := fun D σ H => tv σ H fun y H1 => ta σ H1 fun x H2 => Bz K f y x H2 fun H3 => D.nx σ H3
theorem jI (K : W.Frag) (ha : PE X o ta) (hv : PE X value tv) (hK : X.K = K := by rfl) (hs : swapsWith value (some (.Attribute o f pos')) pos.line X.env = pure false := by rfl) : PS X (.Assign [.Attribute o f pos'] value pos) (Ew K ta tv f) := by
 subst hK
 intro pins s σ H D I h
 refine plainObj_wpAny_Assign_Attribute (thn (hv pins s σ H _ I h) fun u s1 ⟨y, H1, I1, ry, q⟩ => thn (ha pins s1 σ H1 _ I1 q) fun ov s2 ⟨x, H2, I2, rx, q2⟩ => ?_) hs
 dsimp only at q2
 unfold Bz at q2
 split at q2
 ·rename_i a
  obtain ⟨C, dx, fs, ea, c, n, l, q2⟩ := q2
  obtain rfl : ov = Value.ref a := rx
  exact yF I2 ea c n l ry fun s3 I3 => ⟨σ, _, I3, q2⟩
 ·exact q2.elim
end
section
variable {X : Cx} {CX : CXT} {k : Nat} {f C : Addr} {fd : FuncData} {ps : List Str} {sp : Sp} {dvs : List V} {ds : List Value} {E : XKs} {x m : Str} {p pos apos : Pos} {e o : Expr} {es : List Expr} {ta : TE} {t : TA}
def Am (C : Addr) (m : Str) : V -> Hp -> (V -> Prop) -> Prop
 | .ref p, H, Q => ∃ dx fs, H p = some (.ins C dx fs) /\ fs.lookup m = none /\ Q (.ref p)
 | _, _, _ => False
def za (C : Addr) (m : Str) (sp : Sp) (dvs : List V) (E : XKs) (ta : TE) (t : TA) : TE := fun σ H Q => ta σ H fun x0 H1 => Am C m x0 H1 (fun x => t σ H1 fun vs H2 => sp (x :: (vs ++ dvs)) H2 Q (E σ))
theorem bi {pl : Sem Bool} (he : PE X o ta) (c : Cls X.K C) (hm : kj X.K C m f) (F : bQ X.prog X.w X.K X.mg X.base CX k f fd ps sp) (hr : Room k X.A) (hb : Binds X.K fd ps ds) (hd : Vals dvs ds) (hx : fj CX X E) (ha : PA X (e :: es) t)
 (hst : starEach (e :: es) X.env = (false, eval e X.env) :: starEach es X.env := by rfl) (hpl : (backTo pos (starEach es X.env)).any (·.1) = false := by rfl)
 (ht : eval (.Call (.Attribute o m apos) (e :: es) [] pos) X.env = (do
  let ov <- eval o X.env
  standAt apos.atName
  let (f, first) <- holding [ov] (getMethod ov m pl)
  callWith pos f first (backTo pos (starEach (e :: es) X.env)) (backToKw pos (keywordEach [] X.env))) := by rfl) :
 PE X (.Call (.Attribute o m apos) (e :: es) [] pos) (za C m sp dvs E ta t) := by
 intro pins s σ H Q I h
 refine PySem.W.methodCall_KW (pl := pl) (thn (he pins s σ H _ I h) fun u s1 ⟨xo, H1, I1, rx, q⟩ => ?_) ht
 dsimp only at q
 unfold Am at q
 split at q
 ·rename_i a
  obtain ⟨dx, fs, ea, l, q⟩ := q
  obtain rfl : u = Value.ref a := rx
  refine sY I1 ea c hm l ?_
  refine PySem.W.callWith_K (first := [.ref a]) (h₀ := X.base) I.ok.mod.kin hm.kp (thn (ha pos pins s1 σ _ _ I1 q) fun us s2 ⟨vs, H2, I2, r, q2⟩ => ⟨I2.kIn, ?_⟩) hst hpl
  exact wu (us := .ref a :: us) (vs := .ref a :: vs) F hr hb hd hx I2 (.cons rfl r) q2
 ·exact q.elim
theorem uy {pl : Sem Bool} (he : PE X o ta) (c : Cls X.K C) (hm : kj X.K C m f) (F : bQ X.prog X.w X.K X.mg X.base CX k f fd ps sp) (hr : Room k X.A) (hb : Binds X.K fd ps ds) (hd : Vals dvs ds) (hx : fj CX X E)
 (ht : eval (.Call (.Attribute o m apos) [] [] pos) X.env = (do
  let ov <- eval o X.env
  standAt apos.atName
  let (f, first) <- holding [ov] (getMethod ov m pl)
  callWith pos f first (backTo pos (starEach [] X.env)) (backToKw pos (keywordEach [] X.env))) := by rfl) :
 PE X (.Call (.Attribute o m apos) [] [] pos) (za C m sp dvs E ta Co) := by
 intro pins s σ H Q I h
 refine PySem.W.methodCall_KW (pl := pl) (thn (he pins s σ H _ I h) fun u s1 ⟨xo, H1, I1, rx, q⟩ => ?_) ht
 dsimp only at q
 unfold Am at q
 split at q
 ·rename_i a
  obtain ⟨dx, fs, ea, l, q⟩ := q
  obtain rfl : u = Value.ref a := rx
  refine sY I1 ea c hm l ?_
  exact PySem.W.callWith_K0 (first := [.ref a]) I1.kIn hm.kp (wu (us := [.ref a]) (vs := [.ref a]) F hr hb hd hx I1 (.cons rfl .nil) q)
 ·exact q.elim
def yA (C : Addr) (sp : Sp) (dvs : List V) (E : XKs) (t : TA) : TE := fun σ H Q => t σ H fun vs H1 => ∀ x dx, H1 x = none -> H1 dx = none -> dx ≠ x ->
 sp (.ref x :: (vs ++ dvs)) (upd (upd H1 dx (.own x)) x (.ins C dx [])) (fun v H2 => v = .non /\ Q (.ref x) H2) (E σ)
theorem uX {pins : List (Addr × Obj)} {σ : St} {H : Hp} {s : Shared} {Q : VK} {us : List Value} {vs : List V} (M : Mk X.K C f) (F : bQ X.prog X.w X.K X.mg X.base CX k f fd ps sp) (hr : Room (k + 1) X.A) (hb : Binds X.K fd ps ds) (hd : Vals dvs ds)
 (hx : fj CX X E) (I : Inv X pins σ H s) (r : Vals vs us)
 (h : ∀ x dx, H x = none -> H dx = none -> dx ≠ x -> sp (.ref x :: (vs ++ dvs)) (upd (upd H dx (.own x)) x (.ins C dx [])) (fun v H2 => v = .non /\ Q (.ref x) H2) (E σ)) :
 wpAny (model X.prog X.w) X.A (call (.ref C) us) (EP X pins σ Q) X.xe s := by
 have hq := h (s.heap.objs.size + 1) s.heap.objs.size (I.hok.fresh (Nat.le_succ _)) (I.hok.fresh (Nat.le_refl _)) (Nat.ne_of_lt (Nat.lt_succ_self _))
 have I2 := Inv.made (C := C) I
 have r2 : Vals (V.ref (s.heap.objs.size + 1) :: (vs ++ dvs)) (Value.ref (s.heap.objs.size + 1) :: (us ++ ds)) := .cons rfl (r.append hd)
 have hl : (Value.ref (s.heap.objs.size + 1) :: us ++ ds).length = ps.length := by
  have e := r2.length
  rw [F.len _ _ _ _ hq] at e
  exact e.symm
 refine wpAny_call (BA (f := f) I.kIn M.makes M.init (beq_iff_eq.mp M.fn) (codeAny_mono (F.run _ X.stack _ _ ⟨Value.ref (s.heap.objs.size + 1) :: us, []⟩ (Value.ref (s.heap.objs.size + 1) :: (us ++ ds)) _ _ (E σ) (hr.make C us [])
  (I2.env0.make C us []) (hb _ (Value.ref (s.heap.objs.size + 1) :: us) I2.kIn hl) r2 hq) fun r s' hq' => ?_))
 cases r with
 | error e => exact hx pins σ _ _ e s' I2 hq'
 | ok fl =>
  cases fl with
  | ret u =>
   obtain ⟨v, H', I3, rv, ev, q3⟩ := I2.after hq'
   subst ev
   exact ⟨rv, ⟨V.ref (s.heap.objs.size + 1), H', I3, rfl, q3⟩⟩
  | next => exact False.elim hq'
  | brk => exact False.elim hq'
  | cont => exact False.elim hq'
theorem xW (M : Mk X.K C f) (F : bQ X.prog X.w X.K X.mg X.base CX k f fd ps sp) (hr : Room (k + 1) X.A) (hg : Gl X x) (hm : X.mg x = some (.ref C)) (hb : Binds X.K fd ps ds) (hd : Vals dvs ds) (hx : fj CX X E)
 (ha : PA X (e :: es) t) (hdb : (x == ("__debug__" : Str)) = false := by decide) (he : starEach (e :: es) X.env = (false, eval e X.env) :: starEach es X.env := by rfl) (hpl : (backTo pos (starEach es X.env)).any (·.1) = false := by rfl) :
 PE X (.Call (.Name x p) (e :: es) [] pos) (yA C sp dvs E t) := by
 intro pins s σ H Q I h
 refine wpAny_Call_Name_kw (jT I hg hm ?_ hdb)
 refine PySem.W.callWith_K (h₀ := X.base) I.ok.mod.kin M.kp (thn (ha pos pins s σ H _ I h) fun us s1 ⟨vs, H1, I1, r, q⟩ => ⟨I1.kIn, ?_⟩) he hpl
 exact uX M F hr hb hd hx I1 r q
theorem uK (M : Mk X.K C f) (F : bQ X.prog X.w X.K X.mg X.base CX k f fd ps sp) (hr : Room (k + 1) X.A) (hg : Gl X x) (hm : X.mg x = some (.ref C)) (hb : Binds X.K fd ps ds) (hd : Vals dvs ds) (hx : fj CX X E)
 (hdb : (x == ("__debug__" : Str)) = false := by decide) : PE X (.Call (.Name x p) [] [] pos) (yA C sp dvs E Co) := by
 intro pins s σ H Q I h
 refine wpAny_Call_Name_kw (jT I hg hm ?_ hdb)
 exact PySem.W.callWith_K0 I.kIn M.kp (uX (us := []) M F hr hb hd hx I .nil h)
end
end L2
namespace L2
open PySem PySem.Spec PyProof.Rows
def hE (wi : TI) (n : Nat) (g : TG) (ks : List Nat) (tt : TT) (te : TE) : TE := fun σ H Q => wi σ H fun J H1 => ∀ D, H1 D = none -> ∃ W : Nat -> Nat -> List V -> Hp -> Prop, (∃ m, W 0 m [] (upd H1 D (.lst []))) /\
 ∀ i m ys H2, W i m ys H2 -> H2 D = some (.lst ys) /\ ((J.stop i H2 /\ Q (.ref D) H2) \/ (J.go i H2 /\ ∀ x H3, J.yld i H2 x H3 -> ∀ zs : St, zs.length = n ->
  g x (zs ++ ks.map fun k => (σ[k]?).join) H3 fun σ4 H4 => (∃ zs4 : St, zs4.length = n /\ σ4 = zs4 ++ ks.map fun k => (σ[k]?).join) /\
   tt σ4 H4 fun b H5 => if b = true then te σ4 H5 fun y H6 => H6 D = some (.lst ys) /\ ys.length < sizeLine /\ ∃ m', m' < m /\ W (i + 1) m' (ys ++ [y]) (upd H6 D (.lst (ys ++ [y])))
    else ∃ m', m' < m /\ W (i + 1) m' ys H5))
theorem uH {X : Cx} {elt iter : Expr} {x : Str} {xs : List Str} {tg : Expr} {g : TG} {pos : Pos} {ifs : List Expr} {scope : Scope} {cl : List (Str × Addr)} {fr : List Str} {ks : List Nat} {wi : TI} {tt : TT} {te : TE} (hc : X.calm = true) (S : CompScope X scope cl x fr)
 (hks : ks.map (fun k => X.N[k]?) = fr.map some) (hi : PI X tg iter wi) (hg : ∀ C s₂ H₂ ex pn, PG (c_ X (xs ++ fr) scope cl C s₂ H₂ ex pn) tg g)
 (ht : ∀ C s₂ H₂ ex pn, PTs (c_ X (xs ++ fr) scope cl C s₂ H₂ ex pn) ifs tt) (he : ∀ C s₂ H₂ ex pn, PE (c_ X (xs ++ fr) scope cl C s₂ H₂ ex pn) elt te)
 (hs : ∀ x, foldedSetIterable iter X.env x = pure x := by intro _; rfl)
 {pins : List (Addr × Obj)} {s : Shared} {σ : St} {H : Hp} {Q : VK} (I : Inv X pins σ H s) (h : hE wi xs.length g ks tt te σ H Q) (use : Option (Value -> Sem Unit)) (Qp : Value -> Shared -> Prop)
 (hend : ∀ (D C : Addr) (H' : Hp) (s' : Shared) (mC : Str -> Option Value) (f : Flow), Inv X pins σ H' s' -> um X pins H' C -> s'.heap.Ns C mC -> Q (.ref D) H' -> compPost (model X.prog X.w) X.A X.xe use Qp (.ref D) C (.ok f) s') :
 wpAny (model X.prog X.w) X.A (comprehension (.ListComp elt [⟨tg, iter, ifs, 0⟩] scope pos) scope X.env (firstIterPos [⟨tg, iter, ifs, 0⟩] pos) (newList []) false (firstIter [⟨tg, iter, ifs, 0⟩] X.env) use) Qp X.xe s := by
 refine wpAny_comprehension_free (use := use) rfl hs S.clos S.kind S.names (thn (hi pins s σ H _ I h) fun v s1 h1 => thn h1 fun itv s2 h2 => ?_)
 obtain ⟨it, fp, tn, J, H2, e, I2, T, st2, f2, hW⟩ := h2
 subst e
 refine wpAny_newObj_type (wpAny_newFunctionEnv S.nocell (by intro y hy; simp at hy) (fun h₁ hns₁ hsb₁ => ?_) S.kind)
 dsimp only at hns₁ hsb₁ ⊢
 have hD0 : H2 s2.heap.objs.size = none := I2.hok.fresh (Nat.le_refl _)
 obtain ⟨W, ⟨m0, w0⟩, turn⟩ := hW s2.heap.objs.size hD0
 generalize hs3 : s2.heap.push { cls := .type "list", dict := none, data := .seq ([] : List Value).toArray } = g3 at hns₁ hsb₁ ⊢
 have hsz3 : g3.objs.size = s2.heap.objs.size + 1 := by rw [<- hs3, Heap.size_push]
 have up3 : ∀ b o, s2.heap.get? b = some o -> g3.get? b = some o := fun b o e => by rw [<- hs3]; exact Heap.get?_push_of_some _ e
 have gD : g3.get? s2.heap.objs.size = some { cls := .type "list", dict := none, data := .seq ([] : List Value).toArray } := by rw [<- hs3]; exact Heap.get?_push_size _ rfl
 have I3 : Inv X pins σ (upd H2 s2.heap.objs.size (.lst [])) { s2 with heap := g3 } := I2.laid (t' := s2.toks) up3 (Nat.le_refl _) ⟨by simp, [], 0, .nil, gD⟩
 have keep4 : ∀ b o, g3.get? b = some o -> h₁.get? b = some o := fun b o e => (hsb₁.2 b (Nat.ne_of_lt (Heap.lt_size e))).trans (Heap.get?_push_of_some _ e)
 have hCn : (upd H2 s2.heap.objs.size (.lst [])) g3.objs.size = none := I3.hok.fresh (Nat.le_refl _)
 have fpD : ∀ b ∈ fp, b ≠ s2.heap.objs.size := fun b hb z => by
  obtain ⟨o, e, _⟩ := T.obj 0 _ st2 b hb
  exact absurd (Heap.lt_size e) (by rw [z]; exact Nat.lt_irrefl _)
 have fpC : ∀ b ∈ fp, b ≠ g3.objs.size := fun b hb z => by
  obtain ⟨o, e, _⟩ := T.obj 0 _ st2 b hb
  exact absurd (Heap.lt_size (up3 b o e)) (by rw [z]; exact Nat.lt_irrefl _)
 have fpN : ∀ b ∈ fp, (upd H2 s2.heap.objs.size (.lst [])) b = none := fun b hb => by rw [ar (fpD b hb)]; exact (f2 b hb).1
 have Ok : (c_ X (xs ++ fr) scope cl g3.objs.size { s2 with heap := g3 } (upd H2 s2.heap.objs.size (.lst [])) fp (X.pn ++ pins)).Ok := by
  refine ⟨I.ok.mod, S.kind, I.ok.glob, I.ok.blt, Nat.le_refl _, fun y z c e1 e2 => I.ok.inj y z c (S.sub e1) (S.sub e2), fun y hy => ?_, (fun y c z => nomatch z), I.ok.hd, I.ok.frames, .inl rfl, fun b hb => ⟨fpC b hb, fun y c e => (f2 b hb).2.2.2.2.1 y c (S.sub e)⟩, I3.bs, Nat.le_trans I.ok.bsz I3.sz, fun b o e hb => ?_, fun b hb z => ?_, I3.stack, I3.stkFree⟩
  ·have hy' : y ∈ fr := S.only y hy
   obtain ⟨c, e⟩ := I.ok.has y (S.kinds y hy')
   exact ⟨c, (S.cell hy').trans e⟩
  ·rcases (f2 b hb).2.2.2.1 with q | q
   ·exact I.ok.noex b o e q
   ·exact absurd (Heap.lt_size e) (Nat.not_lt.mpr (Nat.le_trans I.ok.bsz q))
  ·rcases List.mem_cons.mp (I3.stkSub b z) with q | q
   ·exact (f2 b hb).2.1 q
   ·exact (f2 b hb).2.2.1 q
 have I4 : Inv (c_ X (xs ++ fr) scope cl g3.objs.size { s2 with heap := g3 } (upd H2 s2.heap.objs.size (.lst [])) fp (X.pn ++ pins)) [] ((xs.map fun _ => none) ++ ks.map fun k => (σ[k]?).join) (upd H2 s2.heap.objs.size (.lst [])) { s2 with heap := h₁, toks := s2.toks + ([] : List (Str × Value)).length } := by
  refine ⟨Ok, rfl, I3.bare, Un.kept keep4, ⟨_, hns₁, fun i y v e1 e2 e3 => ?_⟩, fun y c e => ?_, hCn, fun y c e => I3.freeC y c (S.sub e), fun p hp => ?_, I3.hok.kept keep4, ?_⟩
  ·have e1' : (xs ++ fr)[i]? = some y := e1
   by_cases hix : i < xs.length
   ·rw [List.getElem?_append_left (by simpa using hix)] at e2
    simp [hix] at e2
   ·obtain ⟨i, rfl⟩ : ∃ i', i = xs.length + i' := ⟨i - xs.length, by omega⟩
    rw [List.getElem?_append_right (by omega)] at e1'
    rw [List.getElem?_append_right (by simp)] at e2
    have e1' : fr[i]? = some y := by simpa using e1'
    have e2 : (ks.map fun k => (σ[k]?).join)[i]? = some (some v) := by simpa using e2
    have hy : y ∈ fr := List.mem_of_getElem? e1'
    have ek : (ks.map (fun k => X.N[k]?))[i]? = (fr.map some)[i]? := by rw [hks]
    rw [List.getElem?_map, List.getElem?_map, e1'] at ek
    have e2' := e2
    rw [List.getElem?_map] at e2'
    cases hk : ks[i]? with
    | none => rw [hk] at ek; cases ek
    | some k =>
     rw [hk] at ek e2'
     have ek' : X.N[k]? = some y := by simpa using ek
     have e2'' : (σ[k]?).join = some v := by simpa using e2'
     have es : σ[k]? = some (some v) := by
      cases q : σ[k]? with
      | none => rw [q] at e2''; cases e2''
      | some z => rw [q] at e2''; rw [show z = some v from e2'']
     obtain ⟨m, hn, hl⟩ := I3.loc
     have hkd := S.kinds y hy
     obtain ⟨u, r, lk⟩ := hl k y v ek' es (by rcases hkd with q | q; exact .inr (.inl q); exact .inr (.inr q))
     refine ⟨u, r, .inr ⟨S.kin y hy, ?_⟩⟩
     rcases lk with ⟨q, _⟩ | ⟨_, c, ec, hcell⟩
     ·rcases hkd with z | z <;> (rw [q] at z; cases z)
     ·obtain ⟨o, ho, hd⟩ := hcell
      exact ⟨c, (S.cell hy).trans ec, o, keep4 _ _ ho, hd⟩
  ·obtain ⟨v, o, ho, hd⟩ := I3.cell y c (S.sub e)
   exact ⟨v, o, keep4 _ _ ho, hd⟩
  ·have hp' : p ∈ X.pn ++ pins := by simpa [c_] using hp
   obtain ⟨a1, a2, a3, a4, a5⟩ := I3.pin p hp'
   refine ⟨keep4 _ _ a1, a2, Nat.ne_of_lt (Heap.lt_size a1), fun z => ?_, a5⟩
   rcases List.mem_cons.mp (I3.stkSub p.1 z) with q | q
   ·exact a3 q
   ·exact a4 q
  ·show ((xs.map fun _ => none) ++ ks.map _).length = (xs ++ fr).length
   have := congrArg List.length hks
   simp at this
   simp [this]
 have st4 : tn 0 h₁ := T.keep 0 _ _ st2 fun b hb o e => keep4 _ _ (up3 _ _ e)
 have stat : ∀ {H' : Hp}, (∀ b ∈ fp, H' b = none) -> ∀ b ∈ fp, um (c_ X (xs ++ fr) scope cl g3.objs.size { s2 with heap := g3 } (upd H2 s2.heap.objs.size (.lst [])) fp (X.pn ++ pins)) [] H' b := fun hn b hb =>
  ⟨hn b hb, fpC b hb, Ok.exfs b hb, .inl hb, fun y c e => (f2 b hb).2.2.2.2.1 y c (S.sub e), fun p hp => (f2 b hb).2.2.2.2.2 p (by simpa [c_] using hp)⟩
 have loop : codeAny (model X.prog X.w) X.A (.compLoop (.ListComp elt [⟨tg, iter, ifs, 0⟩] scope pos) 0 (.ref it) (.ref s2.heap.objs.size) (compEnvC scope cl g3.objs.size X.env))
  (compPost (model X.prog X.w) X.A X.xe use Qp (.ref s2.heap.objs.size) g3.objs.size) { s2 with heap := h₁, toks := s2.toks + ([] : List (Str × Value)).length } := by
  refine vi (fun n s' => ∃ i ys σ' H', Inv (c_ X (xs ++ fr) scope cl g3.objs.size { s2 with heap := g3 } (upd H2 s2.heap.objs.size (.lst [])) fp (X.pn ++ pins)) [] σ' H' s' /\ (∃ zs, zs.length = xs.length /\ σ' = zs ++ ks.map fun k => (σ[k]?).join) /\ tn i s'.heap /\ (∀ b ∈ fp, H' b = none) /\ W i n ys H') ?_ m0
   ⟨0, [], _, _, I4, ⟨xs.map fun _ => none, by simp, rfl⟩, st4, fpN, w0⟩
  rintro n s' ⟨i, ys, σ', H', I5, ⟨zs, hzs, rfl⟩, st5, fr5, w5⟩
  obtain ⟨hD, hor⟩ := turn i n ys H' w5
  rcases hor with ⟨stop, qn⟩ | ⟨go, step⟩
  ·refine wpAny_mono (T.done (c_ X (xs ++ fr) scope cl g3.objs.size { s2 with heap := g3 } (upd H2 s2.heap.objs.size (.lst [])) fp (X.pn ++ pins)) rfl rfl rfl hc i [] s' _ H' (fun _ _ => False) I5 (stat fr5) st5 stop) (fun r s6 ⟨hr, I6⟩ => ?_) (fun _ _ f => f.elim)
   subst hr
   obtain ⟨mC, hnC, _⟩ := I6.loc
   have tr : ∀ b o, b ≠ g3.objs.size -> s6.heap.get? b = some o -> s6.heap.get? b = some o := fun b o hb e => e
   have U := I6.base
   have neC : ∀ b o, g3.get? b = some o -> b ≠ g3.objs.size := fun b o e => Nat.ne_of_lt (Heap.lt_size e)
   have U' : Un (frs X.stack) fp (upd H2 s2.heap.objs.size (.lst [])) H' g3 s6.heap := ⟨fun b o q n hb hx => tr b o (neC b o q) (U.keep b o q n hb hx), fun b o q n hb hx => let ⟨sl, e⟩ := U.slot b o q n hb hx; ⟨sl, tr _ _ (neC b o q) e⟩, U.free, fun b o q hx => let ⟨o', e⟩ := U.there b o q hx; ⟨o', tr _ _ (neC b o q) e⟩, U.tups, U.frzs, U.tbls⟩
   have ok' : HOk X.prog X.w H' s6.heap := fun a o e => (I6.hok a o e).stay (fun b u hb q => tr b u (fun z => by
    have fC : H' g3.objs.size = none := I6.free
    rcases hb with r | r
    ·rw [<- z, r, e] at fC; cases fC
    ·rw [<- z, r] at fC; cases fC) q) (fun _ q => q) fun _ _ q => q
   have J6 : Inv X pins σ H' s6 := I3.call' (s' := s6) (ch := fp) I6.os U' ok' I6.bare fun b hb => ⟨(f2 b hb).2.2.2.1, (f2 b hb).2.1, (f2 b hb).2.2.2.2.1, (f2 b hb).2.2.2.2.2⟩
   exact hend s2.heap.objs.size g3.objs.size H' s6 mC _ J6 (I3.fpOk (Nat.le_refl _) I6.free) hnC qn
  ·refine wpAny_mono (T.item (c_ X (xs ++ fr) scope cl g3.objs.size { s2 with heap := g3 } (upd H2 s2.heap.objs.size (.lst [])) fp (X.pn ++ pins)) rfl rfl rfl hc i [] s' _ H' (fun _ _ => False) I5 (stat fr5) st5 go) (fun r s6 ⟨u, hr, h6⟩ => ?_) (fun _ _ f => f.elim)
   subst hr
   refine wpAny_mono h6 (fun _ s7 ⟨xv, H7, I7, r7, y7, st7, fr7⟩ => ?_) (fun _ _ f => f.elim)
   have I7' := I7.pinned (stat fr7) (T.obj _ _ st7)
   have pinsTo : ∀ {σ9 : St} {H9 : Hp} {s9 : Shared}, Inv (c_ X (xs ++ fr) scope cl g3.objs.size { s2 with heap := g3 } (upd H2 s2.heap.objs.size (.lst [])) fp (X.pn ++ pins)) ([] ++ sS fp s7.heap) σ9 H9 s9 -> tn (i + 1) s9.heap /\ ∀ b ∈ fp, H9 b = none := fun {σ9 H9 s9} I9 =>
    ⟨T.keep _ _ _ st7 fun b hb o e => (I9.pin (b, o) (List.mem_append_right _ (List.mem_append_right _ (jY hb e)))).1, fun b hb => by
     obtain ⟨o, e, d⟩ := T.obj _ _ st7 b hb
     exact (I9.pin (b, o) (List.mem_append_right _ (List.mem_append_right _ (jY hb e)))).2.1⟩
   refine wpAny_mono (hg _ _ _ _ _ _ s7 _ H7 xv u _ I7' r7 (step xv H7 y7 zs hzs)) (fun _ s8 ⟨σ8, H8, I8, ⟨zs4, hz4, e8⟩, q8⟩ => ?_) (fun _ _ f => f.elim)
   subst e8
   refine wpAny_mono (ht _ _ _ _ _ _ s8 _ H8 _ I8 q8) (fun ok s9 ⟨H9, I9, q9⟩ => ?_) (fun _ _ f => f.elim)
   cases ok with
   | false =>
    rw [if_neg Bool.false_ne_true] at q9 ⊢
    obtain ⟨m', hm, w9⟩ := q9
    obtain ⟨t9, f9⟩ := pinsTo I9
    exact ⟨m', hm, i + 1, ys, _, H9, I9.unpinned, ⟨zs4, hz4, rfl⟩, t9, f9, w9⟩
   | true =>
    rw [if_pos rfl] at q9 ⊢
    refine wpAny_mono (he _ _ _ _ _ _ s9 _ H9 _ I9 q9) (fun yv s10 ⟨y, H10, I10, r10, hD10, hlen, m', hm, w10⟩ => ?_) (fun _ _ f => f.elim)
    refine wpAny_mono (eZ (X := c_ X (xs ++ fr) scope cl g3.objs.size { s2 with heap := g3 } (upd H2 s2.heap.objs.size (.lst [])) fp (X.pn ++ pins)) _ s10 _ H10 (.ref s2.heap.objs.size) [y] (.ref s2.heap.objs.size) [yv]
     (fun _ H' => H' = upd H10 s2.heap.objs.size (.lst (ys ++ [y]))) I10 rfl (.cons r10 .nil) ⟨_, ys, y, rfl, rfl, hD10, hlen, rfl⟩) (fun _ s11 ⟨_, H11, I11, _, e11⟩ => ?_) (fun _ _ f => f.elim)
    subst e11
    obtain ⟨t11, f11⟩ := pinsTo I11
    exact ⟨m', hm, i + 1, ys ++ [y], _, _, I11.unpinned, ⟨zs4, hz4, rfl⟩, t11, f11, w10⟩
 exact codeAny_compStart_list loop (T.self X.A 0 _ _ _ st4 loop)
theorem dt {X : Cx} {elt iter : Expr} {x : Str} {xs : List Str} {tg : Expr} {g : TG} {pos : Pos} {ifs : List Expr} {scope : Scope} {cl : List (Str × Addr)} {fr : List Str} {ks : List Nat} {wi : TI} {tt : TT} {te : TE} (hc : X.calm = true) (S : CompScope X scope cl x fr)
 (hks : ks.map (fun k => X.N[k]?) = fr.map some) (hi : PI X tg iter wi) (hg : ∀ C s₂ H₂ ex pn, PG (c_ X (xs ++ fr) scope cl C s₂ H₂ ex pn) tg g)
 (ht : ∀ C s₂ H₂ ex pn, PTs (c_ X (xs ++ fr) scope cl C s₂ H₂ ex pn) ifs tt) (he : ∀ C s₂ H₂ ex pn, PE (c_ X (xs ++ fr) scope cl C s₂ H₂ ex pn) elt te)
 (hs : ∀ x, foldedSetIterable iter X.env x = pure x := by intro _; rfl) : PE X (.ListComp elt [⟨tg, iter, ifs, 0⟩] scope pos) (hE wi xs.length g ks tt te) := by
 intro pins s σ H Q I h
 rw [eval_ListComp]
 refine uH hc S hks hi hg ht he hs I h none _ fun D C H' s' mC f J fp hn q => ⟨mC, hn, fun h' sb => ?_⟩
 obtain ⟨f0, f1, f2, f3, f4, f5⟩ := fp
 exact ⟨.ref D, H', J.turned (t' := s'.toks) (fun b o hb e => (sb.2 b hb).trans e) f0 f1 f3 f4 f5, rfl, q⟩
theorem lY {i0 : Nat} {x0 : Str} {px0 pos0 : Pos} {X : Cx} {elt iter : Expr} {x : Str} {xs : List Str} {tg : Expr} {g : TG} {pos : Pos} {ifs : List Expr} {scope : Scope} {cl : List (Str × Addr)} {fr : List Str} {ks : List Nat} {wi : TI} {tt : TT} {te : TE} (hN : X.N.Nodup) (hi0 : X.N[i0]? = some x0) (hx0 : Loc X.env.scope x0) (hc : X.calm = true) (S : CompScope X scope cl x fr)
 (hks : ks.map (fun k => X.N[k]?) = fr.map some) (hi : PI X tg iter wi) (hg : ∀ C s₂ H₂ ex pn, PG (c_ X (xs ++ fr) scope cl C s₂ H₂ ex pn) tg g)
 (ht : ∀ C s₂ H₂ ex pn, PTs (c_ X (xs ++ fr) scope cl C s₂ H₂ ex pn) ifs tt) (he : ∀ C s₂ H₂ ex pn, PE (c_ X (xs ++ fr) scope cl C s₂ H₂ ex pn) elt te)
 (hs : ∀ x, foldedSetIterable iter X.env x = pure x := by intro _; rfl)
 (hsw : swapsWith (.ListComp elt [⟨tg, iter, ifs, 0⟩] scope pos) (some (.Name x0 px0)) pos0.line X.env = pure true := by rfl) (hf : X.fn x0 = true \/ X.env.scope.names.lookup x0 = some .local := by first | exact .inl rfl | exact .inr rfl | assumption) :
 PS X (.Assign [.Name x0 px0] (.ListComp elt [⟨tg, iter, ifs, 0⟩] scope pos) pos0) (De (hE wi xs.length g ks tt te) (jq i0)) := by
 intro pins s σ H D I h
 rw [exec_Assign_Name_used _ _ _ _ hsw]
 refine wpAny_bind (wpAny_standAt (wpAny_bind (wpAny_bind ?_)))
 refine uH hc S hks hi hg ht he hs I h (some (assign (.Name x0 px0) X.env)) _ fun D' C H' s' mC f J fp hn q => ?_
 obtain ⟨f0, f1, f2, f3, f4, f5⟩ := fp
 refine wpAny_assign_Name (uR J hN hi0 hx0 (v := .ref D') rfl (fun s7 I7 ⟨a, sb, ha⟩ => ?_) hf)
 have hCa : C ≠ a := by
  rcases ha with e | e
  ·rw [e]; exact f1
  ·exact fun z => f4 _ _ e z.symm
 refine ⟨mC, hn.sameBut sb hCa, fun h' sb2 => ?_⟩
 have J2 := I7.turned (t' := s7.toks) (fun b o hb e => (sb2.2 b hb).trans e) f0 f1 f3 f4 f5
 exact wpAny_pure (wpAny_pure ⟨_, H', J2, q⟩)
end L2
namespace L2
open PySem PySem.Spec PyProof.Rows Builtin Builtin.Str
section
variable {prog : Program} {w : World} {A : Around} {E : Value -> Shared -> Prop} {s : Shared} {t : Addr}
end
section
variable {X : Cx} {e a b c : Expr} {pos : Pos}
def Hz (K : W.Frag) : List V -> Hp -> VK -> Prop
 | [.ref p], H, Q => ∃ ns : List Int, (SqL K H p (ns.map V.int) \/ SqT K H p (ns.map V.int)) /\ Q (.int ns.sum) H
 | _, _, _ => False
def B2 : R2
 | .str x, .int n, H, Q => ((cs x).length <= 1000 /\ 0 <= n /\ n <= 100) /\ Q (T ((List.replicate n.toNat (cs x)).flatten)) H
 | _, _, _, _ => False
theorem lZ : OpR X (binaryOp .Mult) B2 := by
 intro pins s σ H x y v u Q I rx ry h
 unfold B2 at h
 split at h
 ·rename_i x n
  obtain ⟨⟨h1, h2, h3⟩, q⟩ := h
  obtain ⟨t, rfl⟩ := rx
  obtain ⟨t', rfl⟩ := ry
  have hl : x.length <= 1000 := by simpa [cs, Str.length] using h1
  refine PySem.SB.mul ⟨?_, fun hn _ => ?_, fun hn _ => ?_⟩ fun t2 k => ⟨.str (Txt.mul x n), H, I.tok _, ⟨_, rfl⟩, by rw [E1]; exact q⟩
  ·rw [decide_eq_false (by omega), decide_eq_false (by omega)]; rfl
  ·have h5 : (1000 : Int) <= (2 ^ 63 - 1) / n := by
    rw [Int.le_ediv_iff_mul_le (by omega)]; omega
   omega
  ·have h4 : x.length * n.toNat <= 1000 * 100 := Nat.mul_le_mul hl (show n.toNat <= 100 by omega)
   unfold tooLong
   exact decide_eq_false (by rw [sizeLine_eq]; omega)
 ·exact h.elim
section
variable {T name id : String} {r : V -> List V -> Hp -> VK -> Prop} {o : Expr} {to : TE} {apos cpos : Pos}
end
end
end L2
namespace L2
theorem fQ {l : List PySem.Str} (h : l.Nodup) : l.Nodup := h
end L2
namespace L2
def sp5 (f : V -> V -> V -> V -> V -> Hp -> VK -> XK -> Prop) : Sp := fun vs H Q E => match vs with
 | [x, y, z, u, v] => f x y z u v H Q E
 | _ => False
theorem sp5.inv {vs : List V} {H : Hp} {Q : VK} {E : XK} {f} (h : sp5 f vs H Q E) : ∃ x y z u v, vs = [x, y, z, u, v] /\ f x y z u v H Q E := by
 unfold sp5 at h; split at h
 ·exact ⟨_, _, _, _, _, rfl, h⟩
 ·exact h.elim
theorem sp5.len {vs : List V} {H : Hp} {Q : VK} {E : XK} {f} (h : sp5 f vs H Q E) : vs.length = 5 := by obtain ⟨_, _, _, _, _, rfl, _⟩ := sp5.inv h; rfl
theorem qw {n : PySem.Str} {v : V} {l : List (PySem.Str × V)} : List.lookup n ((n, v) :: l) = some v := by simp [List.lookup]
theorem bu {n m : PySem.Str} {v : V} {l : List (PySem.Str × V)} (h : (n == m) = false) : List.lookup n ((m, v) :: l) = List.lookup n l := by simp [List.lookup, h]
end L2
set_option maxHeartbeats 1000000
namespace L2
open PySem PySem.Spec PyProof.Rows
structure RoomC (k : Nat) (A : Around) : Prop where
 dp : A.depth + 3 * k + 5 < recursionLimit
 un : A.units + 16 * k + 200 < cLine
theorem RoomC.deeper {k : Nat} {A : Around} (r : RoomC (k + 1) A) (env : Env) : RoomC k (A.deeper env) :=
 ⟨by have := r.dp; show A.depth + 1 + 3 * k + 5 < _; omega, by have := r.un; show A.units + 3 + 16 * k + 200 < _; omega⟩
theorem Room.toC {j k : Nat} {A : Around} {v : Option Value} (r : Room k A) (h : j <= k) : RoomC j (A.mark v) := ⟨by have := r.dp; show A.depth + 3 * j + 5 < _; omega, by have := r.un; show A.units + 16 * j + 200 < _; omega⟩
structure Au (P : Program) (w : World) (K : W.Frag) (mg : Str -> Option Value) (base : Heap) (CX : CXT) (k : Nat) (f : Addr) (fd : FuncData) (ps : List Str) (sp : Sp) : Prop where
 len : ∀ vs H Q E, sp vs H Q E -> vs.length = ps.length
 run : ∀ (A : Around) (outer : List Env) (s : Shared) (H : Hp) (args : Args) (us : List Value) (vs : List V) (Q : VK) (E : XK), RoomC k A -> Env0 P w K mg base A outer s H -> BindsTo s fd args (ps.zip us) -> Vals vs us -> sp vs H Q E ->
  codeAny (model P w) A (.call (.ref f) args) (CR CX outer P w H s Q E) s
abbrev yl (CX : CXT) (P : Program) (w : World) (K : W.Frag) (mg : Str -> Option Value) (base : Heap) (N : List Str) (qual : Str) (scope : Scope) (f : Addr) (cd : Value) (A : Around) (outer : List Env) (s : Shared) (H : Hp) (E : XK) : Cx :=
 { fz CX P w K mg base N qual scope f cd A outer s H E with calm := false }
theorem FC {CX : CXT} {P : Program} {w : World} {K : W.Frag} {mg : Str -> Option Value} {base : Heap} {k : Nat} {f : Addr} {name qual : Str} {params : Arguments} {body : List Stmt} {scope : Scope} {dV kV doc pm cdv ct oc : Value} {an od : Option Addr}
 {osl : Array (Option Value)} {N ps : List Str} {sp : Sp} (lk : K.lookup f = some ⟨oc, od, .func (PySem.W.fnOf name qual params body scope dV kV doc pm an cdv ct), osl⟩) (hcd : PySem.W.codeIn K cdv qual = true) (S : aM N ps scope)
 (len : ∀ vs H Q E, sp vs H Q E -> vs.length = ps.length)
 (hbody : ∀ (A : Around) (outer : List Env) (s : Shared) (H : Hp) (vs : List V) (Q : VK) (E : XK), RoomC k (A.deeper (envOfC qual scope s.heap.objs.size f cdv)) -> sp vs H Q E ->
  ∃ t, PSs (yl CX P w K mg base N qual scope f cdv A outer s H E) body t /\ t { nx := fun _ H' => Q .non H', rt := Q } (start N vs) H) :
 Au P w K mg base CX (k + 1) f (PySem.W.fnOf name qual params body scope dV kV doc pm an cdv ct) ps sp := by
 refine ⟨len, fun A outer s H args us vs Q E hr e0 hb r hsp => ?_⟩
 have hl := len _ _ _ _ hsp
 have KX : K.In s.heap := e0.mod.kin.keeps fun b o e => (e0.bs b o e).1
 have lim : s.heap.NoLimit := e0.mod.nolimit.keeps fun b o e => (e0.bs b o e).1
 have hkind : ∀ y ∈ ps.zip us, scope.names.lookup y.1 = some .local \/ (scope.names.lookup y.1 = some .cell /\ ((cellsFrom (s.heap.objs.size + 1) scope.names []).lookup y.1).isSome = true) := fun ⟨n, v⟩ hy => by
  rcases S.par n (List.of_mem_zip hy).1 with q | q
  ·exact .inl q
  ·exact .inr ⟨q, PySem.W.cellsFrom_some _ _ _ (.inl q)⟩
 refine codeAny_call_function (by have := hr.dp; omega) (KX _ _ lk) rfl S.co S.gen rfl (PySem.W.codeRec_of KX hcd) (hb _ _ _ _ ?_)
 refine wpAny_newFunctionEnv_cells S.kind hkind fun env he s1 x => ?_
 subst he
 refine ⟨lim.keeps x.toInCall.keep, codeAny_func ?_⟩
 obtain ⟨t, ht, hq⟩ := hbody A outer s H vs Q E (hr.deeper _) hsp
 have e1 : Env0 P w K mg base { A with handled := none } outer s H := ⟨e0.frames, e0.mod, e0.bs, e0.bsz, e0.funs, e0.frf, e0.hok, e0.bare⟩
 have I0 : Inv (fz CX P w K mg base N qual scope f cdv { A with handled := none } outer s H E) [] (start N vs) H s1 := uF S rfl e1 hl r x
 have I : Inv (yl CX P w K mg base N qual scope f cdv A outer s H E) [] (start N vs) H s1 :=
  ⟨I0.ok.re (A.deeper (envOfC qual scope s.heap.objs.size f cdv)) rfl false (fun z => nomatch z) _ _, I0.os, I0.bare, I0.base, I0.loc, I0.cell, I0.free, I0.freeC, I0.pin, I0.hok, I0.len⟩
 refine wpAny_mono (ht [] s1 (start N vs) H _ I hq) (fun fl s' hs => ?_) fun e s' hs => hs
 have fin : ∀ {σ' : St} {H' : Hp} {v : V} {u : Value}, Inv (yl CX P w K mg base N qual scope f cdv A outer s H E) [] σ' H' s' -> RelV v u -> Q v H' -> CE outer P w H s Q u s' :=
  fun {σ' H' v u} J rv q => ⟨v, H', J.os, J.bare, J.base, J.hok, rv, q⟩
 cases fl with
 | ret u =>
  obtain ⟨v, σ', H', J, rv, q⟩ := hs
  exact fin J rv q
 | next =>
  obtain ⟨σ', H', J, q⟩ := hs
  exact fin (v := V.non) (u := Value.none) J rfl q
 | brk =>
  obtain ⟨_, _, _, q⟩ := hs
  exact False.elim q
 | cont =>
  obtain ⟨_, _, _, q⟩ := hs
  exact False.elim q
theorem Fun.okC {P : Program} {w : World} {K : W.Frag} {mg : Str -> Option Value} {base : Heap} {x qual : Str} {st : Stmt} {f : Addr} {fd : FuncData} {N ps : List Str} {k : Nat} {sp : Sp} (F : Fun K x qual st f fd) (S : aM N ps (ai st)) (len : ∀ vs H Q E, sp vs H Q E -> vs.length = ps.length)
 (hbody : ∀ (cdv : Value) (A : Around) (outer : List Env) (s : Shared) (H : Hp) (vs : List V) (Q : VK) (E : XK), RoomC k (A.deeper (envOfC qual (ai st) s.heap.objs.size f cdv)) -> sp vs H Q E ->
  ∃ t, PSs (yl (XE P w) P w K mg base N qual (ai st) f cdv A outer s H E) (aC st) t /\ t { nx := fun _ H' => Q .non H', rt := Q } (start N vs) H) : Au P w K mg base (XE P w) (k + 1) f fd ps sp := by
 obtain ⟨oc, od, kV, doc, pm, an, cdv, ct, osl, rfl, lk, hcd⟩ := F.ex
 exact FC lk hcd S len fun A outer s H vs Q E hr hsp => hbody cdv A outer s H vs Q E hr hsp
section
variable {X : Cx} {CX : CXT} {k : Nat} {f : Addr} {fd : FuncData} {ps : List Str} {sp : Sp} {dvs : List V} {ds : List Value} {E : XKs} {x : Str} {p pos : Pos} {e : Expr} {es : List Expr} {t : TA}
theorem yb (F : Au X.prog X.w X.K X.mg X.base CX k f fd ps sp) (hr : RoomC k X.A) (hg : Gl X x) (hm : X.mg x = some (.ref f)) (hk : PySem.W.keepIn X.K (.ref f) = true) (hb : Binds X.K fd ps ds) (hd : Vals dvs ds) (hx : fj CX X E)
 (ha : PA X (e :: es) t) (hdb : (x == ("__debug__" : Str)) = false := by decide) (he : starEach (e :: es) X.env = (false, eval e X.env) :: starEach es X.env := by rfl) (hpl : (backTo pos (starEach es X.env)).any (·.1) = false := by rfl) :
 PE X (.Call (.Name x p) (e :: es) [] pos) (y_ sp dvs E t) := by
 intro pins s σ H Q I h
 refine wpAny_Call_Name_kw (jT I hg hm ?_ hdb)
 refine PySem.W.callWith_K (h₀ := X.base) I.ok.mod.kin hk (thn (ha pos pins s σ H _ I h) fun us s1 ⟨vs, H1, I1, r, h⟩ => ⟨I1.kIn, ?_⟩) he hpl
 have r2 : Vals (vs ++ dvs) (us ++ ds) := r.append hd
 have hl : (us ++ ds).length = ps.length := by rw [<- r2.length]; exact F.len _ _ _ _ h
 refine wpAny_call (codeAny_mono (F.run X.A X.stack s1 H1 ⟨us, []⟩ (us ++ ds) (vs ++ dvs) Q (E σ) hr I1.env0 (hb s1 us I1.kIn hl) r2 h) fun r s' hq => ?_)
 cases r with
 | error e => exact hx pins σ H1 s1 e s' I1 hq
 | ok fl =>
  cases fl with
  | ret u => exact I1.after hq
  | next => exact False.elim hq
  | brk => exact False.elim hq
  | cont => exact False.elim hq
end
end L2
set_option maxHeartbeats 1000000
namespace L2
open PySem PySem.Spec PyProof.Rows
def yQ (lo d : Int) (n : Nat) : It := ⟨fun i _ => i < n, fun i H x H' => H' = H /\ x = .int (lo + i * d), fun i _ => n <= i⟩
theorem xX {P : Program} {w : World} {K : W.Frag} {tg : Expr} (it : Addr) (lo d : Int) (n : Nat) : wG P w K tg (yQ lo d n) [it] it (fun i h => IsRangeIter h it (lo + (i : Nat) * d) ((n : Int) - (i : Nat)) d) where
 mem := by simp
 obj := fun i h st b hb => by
  have e : b = it := by simpa using hb
  subst e
  exact ⟨_, st, fun v z => by
   have z' : Data.fields _ = Data.cell v := z
   cases z'⟩
 keep := fun i h h' st k => k it (by simp) _ st
 item := by
  intro X hP hw hK hc i pins s σ H E I hf st hg
  subst hP hw hK
  obtain ⟨f0, f1, f2, f3, f4, f5⟩ := hf it (by simp)
  have W := Walks.range (prog := X.prog) (w := X.w) (I.ok.hd hc) it lo d n
  refine W.item i s _ _ hg st fun v h' tk hv st' kk => ?_
  obtain ⟨t, rfl⟩ := hv
  have I1 : Inv X pins σ H { s with heap := h', toks := tk } := I.turned (fun b o hb e => kk b o (by simpa using hb) e) f0 f1 f3 f4 f5
  exact ⟨_, rfl, rm (s := { s with heap := h', toks := tk }) (n := "range_iterator") st' rfl rfl (by decide) ⟨.int (lo + i * d), H, I1, ⟨t, rfl⟩, ⟨rfl, rfl⟩, st', fun b hb => (hf b hb).1⟩⟩
 done := by
  intro X hP hw hK hc i pins s σ H E I hf st hg
  subst hP hw hK
  obtain ⟨f0, f1, f2, f3, f4, f5⟩ := hf it (by simp)
  exact wpAny_pyNext_range_end (I.ok.hd hc) st (by have : n <= i := hg; omega) fun h' eb => ⟨rfl, I.turned (t' := s.toks) (fun b o hb e => eb b o hb e) f0 f1 f3 f4 f5⟩
 self := fun _ _ _ _ _ st h => wpAny_pyIter_rangeiter st h
section
variable {X : Cx} {tg : Expr}
def rsz (i j c : Int) : Nat := if i < j then ((j - i - 1) / c + 1).toNat else 0
theorem yI {lo c : Int} {n : Nat} {g : TG} {tb : TS} {D : kh} {σ : St} {H : Hp} (Pv : Nat -> St -> Hp -> Prop) (h0 : Pv 0 σ H)
 (hs : ∀ i σ H, i < n -> Pv i σ H -> g (.int (lo + i * c)) σ H fun σ2 H2 => tb { D with nx := Pv (i + 1), ct := Pv (i + 1), bk := D.nx } σ2 H2) (hd : ∀ σ H, Pv n σ H -> D.nx σ H) :
 ∃ W : Nat -> Nat -> St -> Hp -> Prop, (∃ m, W 0 m σ H) /\ ∀ i m σ H, W i m σ H ->
  ((yQ lo c n).stop i H /\ D.nx σ H) \/ ((yQ lo c n).go i H /\ ∃ N : St -> Hp -> Prop, (∀ σ' H', N σ' H' -> ∃ m', m' < m /\ W (i + 1) m' σ' H') /\ ∀ x H', (yQ lo c n).yld i H x H' -> g x σ H' fun σ2 H2 => tb { D with nx := N, ct := N, bk := D.nx } σ2 H2) := by
 refine ⟨fun i m σ H => m = n - i /\ i <= n /\ Pv i σ H, ⟨n, by simp, Nat.zero_le _, h0⟩, ?_⟩
 rintro i m σ H ⟨rfl, hi, p⟩
 by_cases hlt : i < n
 ·refine .inr ⟨hlt, Pv (i + 1), fun σ' H' p' => ⟨n - (i + 1), by omega, rfl, hlt, p'⟩, fun x H' y => ?_⟩
  obtain ⟨e, y⟩ := y
  subst e y
  exact hs i σ _ hlt p
 ·have e : i = n := by omega
  subst e
  exact .inl ⟨Nat.le_refl _, hd σ H p⟩
end
end L2
namespace L2
theorem ex1 {α : Type} {us : List α} (hl : us.length = 1) : ∃ a0, us = [a0] := by
 match us, hl with
 | [a0], _ => exact ⟨a0, rfl⟩
theorem ex2 {α : Type} {us : List α} (hl : us.length = 2) : ∃ a0 a1, us = [a0, a1] := by
 match us, hl with
 | [a0, a1], _ => exact ⟨a0, a1, rfl⟩
theorem ex3 {α : Type} {us : List α} (hl : us.length = 3) : ∃ a0 a1 a2, us = [a0, a1, a2] := by
 match us, hl with
 | [a0, a1, a2], _ => exact ⟨a0, a1, a2, rfl⟩
theorem ex4 {α : Type} {us : List α} (hl : us.length = 4) : ∃ a0 a1 a2 a3, us = [a0, a1, a2, a3] := by
 match us, hl with
 | [a0, a1, a2, a3], _ => exact ⟨a0, a1, a2, a3, rfl⟩
theorem ex5 {α : Type} {us : List α} (hl : us.length = 5) : ∃ a0 a1 a2 a3 a4, us = [a0, a1, a2, a3, a4] := by
 match us, hl with
 | [a0, a1, a2, a3, a4], _ => exact ⟨a0, a1, a2, a3, a4, rfl⟩
theorem ex6 {α : Type} {us : List α} (hl : us.length = 6) : ∃ a0 a1 a2 a3 a4 a5, us = [a0, a1, a2, a3, a4, a5] := by
 match us, hl with
 | [a0, a1, a2, a3, a4, a5], _ => exact ⟨a0, a1, a2, a3, a4, a5, rfl⟩
end L2
namespace L2
open Lean Meta Simp
def E8 : List Name := [`L2.Bp, `L2.tC, `L2.tOp, `L2.tUn, `L2.gEqN, `L2.wY, `L2.yO, `L2.Gx, `L2.fOr, `L2.Hg, `L2.Ct, `L2.fPickT, `L2.Hk, `L2.GZ, `L2.Hn, `L2.tRetN, `L2.EB, `L2.EJ, `L2.De, `L2.jq, `L2.tIf, `L2.Gp, `L2.tOr, `L2.GX, `L2.Df, `L2.Co, `L2.tCB, `L2.y_, `L2.Hl, `L2.Go, `L2.GU, `L2.ER, `L2.FO, `L2.EL, `L2.zy, `L2.tSl, `L2.cs, `L2.Fp, `L2.CMul, `L2.Fb, `L2.CV, `L2.GO, `L2.gcE, `L2.GB, `L2.tGc, `L2.tBM, `L2.ET, `L2.fJoinRev, `L2.CDivB, `L2.Ay, `L2.F0, `L2.ES, `L2.GD, `L2.GE, `L2.EU, `L2.EA, `L2.Ew, `L2.za, `L2.yA, `L2.tDGet1, `L2.tDGet2, `L2.ED, `L2.tBM0, `L2.rClear]
def FU : List Name := [`L2.DZ, `L2.gI, `L2.gIC, `L2.Gh, `L2.gLe, `L2.gLt, `L2.eqS, `L2.kB, `L2.E2, `L2.FF, `L2.gMax, `L2.Ec, `L2.Dj, `L2.gInt, `L2.gIx, `L2.sp0, `L2.sp1, `L2.sp2, `L2.sp3, `L2.sp4, `L2.asI, `L2.asT, `L2.asB, `L2.asR, `L2.tyV, `L2.gSt, `L2.gEn, `L2.gZf, `L2.gStr, `L2.BB, `L2.gIn, `L2.gSl, `L2.Ht, `L2.gMulS, `L2.Fg, `L2.gRep, `L2.gRepT, `L2.gIsiT, `L2.C_, `L2.gTuple, `L2.Fe, `L2.gStM, `L2.FG, `L2.Bz, `L2.Am, `L2.Hz, `L2.B2]
def rdI := And.intro @L2.Dk (And.intro @L2.Hu (And.intro @L2.V.bl.injEq (And.intro @L2.V.str.injEq (And.intro @L2.AM (And.intro @L2.GK (And.intro @L2.E4 (And.intro @L2.Gf (And.intro @L2.EV (And.intro @L2.Fy (And.intro @L2.rA (And.intro @L2.xz (And.intro @L2.zn (And.intro @L2.zm (And.intro @L2.wR (And.intro @L2.vv (And.intro @L2.xh (And.intro @L2.DN (And.intro @L2.qJ (And.intro @L2.vR (And.intro @L2.xK (And.intro @L2.xY (And.intro @L2.wv (And.intro @L2.t8 (And.intro @L2.vU (And.intro @L2.E6 (And.intro @L2.rG (And.intro @L2.wX (And.intro @L2.zq (And.intro @L2.ze (And.intro @L2.xZ (And.intro @L2.vF (And.intro @L2.xf (And.intro @L2.Ej (And.intro @L2.pY (And.intro @L2.vY (And.intro @L2.xM (And.intro @L2.wP (And.intro @L2.vT (And.intro @L2.ua (And.intro @L2.vV (And.intro @L2.BI (And.intro @L2.pM (And.intro @L2.ug (And.intro @L2.vy (And.intro @L2.vI (And.intro @L2.uo (And.intro @L2.tQ (And.intro @L2.ue (And.intro @L2.DC (And.intro @L2.qv (And.intro @L2.vq (And.intro @L2.yh (And.intro @L2.xV (And.intro @L2.wB (And.intro @L2.ud (And.intro @L2.vx (And.intro @L2.GP (And.intro @L2.Fz (And.intro @L2.FS (And.intro @L2.Gd (And.intro @L2.D7 (And.intro @L2.Gi (And.intro @L2.Eo (And.intro @L2.DX (And.intro @L2.DR (And.intro @L2.DL (And.intro @L2.FD (And.intro @L2.En (And.intro @L2.Es (And.intro @L2.DF (And.intro @true_and (And.intro @and_true (And.intro @and_self (And.intro @true_or (And.intro @or_true (And.intro @decide_eq_true_eq (And.intro @Bool.true_eq_false (And.intro @Bool.false_xor (And.intro @Bool.true_xor (And.intro @Bool.not_true (And.intro @Bool.not_false (And.intro @Bool.false_eq_true (And.intro @Bool.not_eq_true' (And.intro @decide_eq_false_iff_not @Classical.not_not))))))))))))))))))))))))))))))))))))))))))))))))))))))))))))))))))))))))))))))))))))
end L2
namespace L2
namespace Srt
open PySem PyProof.Rows
def kv (κ : Keyed -> Int) (xs : Array Keyed) (i : Nat) : Int := (xs[i]?.map κ).getD 0
def Up (κ : Keyed -> Int) (xs : Array Keyed) (k : Nat) : Prop := ∀ i j, i <= j -> j < k -> kv κ xs i <= kv κ xs j
def Dn (κ : Keyed -> Int) (xs : Array Keyed) (k : Nat) : Prop := ∀ i j, i <= j -> j < k -> kv κ xs j <= kv κ xs i
structure SB (kd : SortKind) (z : Array Keyed) (t : SortSt) : Prop where
 pm : (arrOf t).Perm z
 kn : kindOf t = kd
 fl : failedOf t = none
 pn : pendingOf t = #[]
section
variable {prog : Program} {w : World} {A : Around} {E : Value -> Shared -> Prop} {s : Shared} {z : Array Keyed} {κ : Keyed -> Int} {kd : SortKind} {t : SortSt}
def Lts (prog : Program) (w : World) (A : Around) (s : Shared) (kd : SortKind) (κ : Keyed -> Int) (z : Array Keyed) : Prop :=
 ∀ (E : Value -> Shared -> Prop) (p q : Keyed) (Q : Bool -> Shared -> Prop), p ∈ z.toList -> q ∈ z.toList -> Q (decide (κ p < κ q)) s -> wpAny (model prog w) A (keyLt' kd p.1 q.1) Q E s
end
section
variable {prog : Program} {w : World} {A : Around} {E : Value -> Shared -> Prop} {s : Shared}
theorem pairs_mem {vs : List Value} {p : Keyed} (h : p ∈ (vs.toArray.zip vs.toArray).toList) : p.1 ∈ vs /\ p.2 = p.1 := by
 rw [Array.toList_zip] at h
 simp at h
 rw [List.zip_eq_zipWith, List.zipWith_self] at h
 obtain ⟨a, ha, e⟩ := List.mem_map.mp h
 subst e
 exact ⟨ha, rfl⟩
theorem pairs_fst (vs : List Value) : (vs.toArray.zip vs.toArray).toList.map (·.1) = vs := by
 rw [Array.toList_zip]
 exact List.map_fst_zip (Nat.le_refl _)
end
end Srt
end L2
namespace L2
namespace Srt
open PySem PyProof.Rows
def Two (h : Heap) (p : Addr) (x y : Int) : Prop := ∃ (o : Obj) (t u : Tok) (n : Nat), h.get? p = some o /\ o.cls = .type "tuple" /\ o.data = .seq #[.int x t, .int y u] n
section
variable {prog : Program} {w : World} {A : Around} {E : Value -> Shared -> Prop} {s : Shared}
end
end Srt
end L2
namespace L2
namespace Srt
open PySem PyProof.Rows
section
variable {prog : Program} {w : World} {A : Around} {E : Value -> Shared -> Prop} {R : Result -> Shared -> Prop} {s : Shared} {I S ax : Addr} {items : Array Value} {h₀ : Heap} {κ : Value -> Int}
def Prs (h : Heap) (κ : Value -> Int) (lo : Int) (v : Value) : Prop := ∃ p x y, v = .ref p /\ Two h p x y /\ κ v = x * 64 + y /\ lo <= y /\ y < lo + 64
end
end Srt
end L2
namespace L2
open PySem PyProof.Rows
section
variable {X : Cx} {pins : List (Addr × Obj)} {σ : St} {H : Hp} {s : Shared}
def Ite (K : W.Frag) (a : Addr) : It :=
 ⟨fun i H => ∃ xs x, SqL K H a xs /\ xs[i]? = some x, fun i H x H' => ∃ p y, H p = none /\ x = .ref p /\ H' = upd H p (.tup [.int i, y]) /\ ∀ xs, SqL K H a xs -> xs[i]? = some y, fun i H => ∃ xs, SqL K H a xs /\ xs.length <= i⟩
theorem Inv.turned2 {h' : Heap} {t' : Nat} {e it : Addr} {oe oi : Obj} (I : Inv X pins σ H s) (ge : s.heap.get? e = some oe) (gi : s.heap.get? it = some oi) (ne : e ≠ it) (he : ∃ o, h'.get? e = some o /\ o.isFreed = false) (hi : ∃ o, h'.get? it = some o /\ o.isFreed = false)
 (k : ∀ b o, b ≠ e -> b ≠ it -> s.heap.get? b = some o -> h'.get? b = some o) (fe : um X pins H e) (fi : um X pins H it) : ∃ h2 : Heap, h2.objs.size = s.heap.objs.size /\ Inv X pins σ H { s with heap := h2, toks := t' } /\ ∀ b o, h2.get? b = some o -> h'.get? b = some o := by
 obtain ⟨o1, g1, z1⟩ := he
 obtain ⟨o2, g2, z2⟩ := hi
 refine ⟨(s.heap.update it fun _ => o2).update e fun _ => o1, by rw [Heap.size_update, Heap.size_update], ?_, ?_⟩
 ·have I1 : Inv X pins σ H { s with heap := s.heap.update it fun _ => o2, toks := t' } := I.turned (fun b o hb q => (Heap.get?_update_other _ _ (Ne.symm hb)).trans q) fi.1 fi.2.1 fi.2.2.2.1 fi.2.2.2.2.1 fi.2.2.2.2.2
  exact I1.turned (t' := t') (fun b o hb q => (Heap.get?_update_other _ _ (Ne.symm hb)).trans q) fe.1 fe.2.1 fe.2.2.2.1 fe.2.2.2.2.1 fe.2.2.2.2.2
 ·intro b o q
  by_cases b1 : b = e
  ·subst b1
   have ge' : (s.heap.update it fun _ => o2).get? b = some oe := (Heap.get?_update_other _ _ (Ne.symm ne)).trans ge
   rw [Heap.get?_update_self _ ge' z1] at q
   cases q; exact g1
  ·rw [Heap.get?_update_other _ _ (Ne.symm b1)] at q
   by_cases b2 : b = it
   ·subst b2
    rw [Heap.get?_update_self _ gi z2] at q
    cases q; exact g2
   ·rw [Heap.get?_update_other _ _ (Ne.symm b2)] at q
    exact k b o b1 b2 q
theorem Bt {P : Program} {w : World} {K : W.Frag} {elts : List Expr} {cx : _} {pos : Pos} (a e it : Addr) (ne : e ≠ it) :
 wG P w K (.Tuple elts cx pos) (Ite K a) [e, it] e (fun i h => ∃ old, IsEnum h e it (i : Nat) old /\ h.IsListIter it a i) where
 mem := by simp
 obj := fun i h st b hb => by
  obtain ⟨old, h1, o, h2, c, d⟩ := st
  rcases List.mem_cons.mp hb with rfl | hb
  ·exact ⟨_, h1, fun v z => by
    have z' : Data.fields _ = Data.cell v := z
    cases z'⟩
  ·have z := List.mem_singleton.mp hb
   subst z
   exact ⟨o, h2, fun v z => by rw [d] at z; cases z⟩
 keep := fun i h h' st k => by
  obtain ⟨old, h1, h2⟩ := st
  exact ⟨old, k e (by simp) _ h1, h2.at fun o q => k it (by simp) o q⟩
 item := by
  intro X hP hw hK hc i pins s σ H E I hf st hg
  subst hP hw hK
  obtain ⟨xs, x, hq, hx⟩ := hg
  obtain ⟨its, rv, p, hz⟩ := I.list hq
  obtain ⟨u, hu, ru⟩ := rv.get hx
  have fe := hf e (by simp)
  have fi := hf it (by simp)
  obtain ⟨old, h1, h2⟩ := st
  obtain ⟨oi, gi, ci, di⟩ := id h2
  refine wpAny_pyNext_enum_item h1 h2 p.isList (x := u) (by simpa using hu) ne fun h' e1 i1 t1 z1 k1 => ?_
  obtain ⟨oi', gi', ci', di'⟩ := id i1
  obtain ⟨h3, z3, I3, k3⟩ := I.turned2 (t' := s.toks + 1) (h' := h') h1 gi ne ⟨_, e1, rfl⟩ ⟨_, gi', Obj.isFreed_of_fields di'⟩ k1 fe fi
  have hn := I.hok.fresh (Nat.le_refl s.heap.objs.size)
  have I4 : Inv X pins σ (upd H s.heap.objs.size (.tup [.int i, x])) { s with heap := h', toks := s.toks + 1 } :=
   I3.laid (t' := s.toks + 1) k3 (Nat.le_of_eq z3) (show ObjOk X.prog X.w _ h' _ (.tup [.int i, x]) from ⟨by show 2 <= sizeLine; rw [sizeLine_eq]; decide, [.int i s.toks, u], .cons ⟨_, rfl⟩ (.cons ru .nil), ⟨_, t1, rfl, 0, rfl⟩⟩)
  have le : e < s.heap.objs.size := Heap.lt_size h1
  have li : it < s.heap.objs.size := Heap.lt_size gi
  have nH : ∀ b, b < s.heap.objs.size -> upd H s.heap.objs.size (.tup [.int i, x]) b = H b := fun b l => ar (Nat.ne_of_lt l)
  refine ⟨_, rfl, wpAny_letOwnedTupleGo_enum (s := { s with heap := h', toks := s.toks + 1 }) e1 fun h5 e5 s5 => ?_⟩
  have I5 : Inv X pins σ (upd H s.heap.objs.size (.tup [.int i, x])) { s with heap := h5, toks := s.toks + 1 } :=
   I4.turned (t' := s.toks + 1) (fun b o hb q => (s5.2 b hb).trans q) ((nH e le).trans fe.1) fe.2.1 fe.2.2.2.1 fe.2.2.2.2.1 fe.2.2.2.2.2
  refine ⟨.ref s.heap.objs.size, _, I5, rfl, ⟨_, x, hn, rfl, rfl, fun ys hy => by rw [I.list_inj hy hq]; exact hx⟩, ⟨u, e5, i1.at fun o q => (s5.2 it (Ne.symm ne)).trans q⟩, fun b hb => ?_⟩
  rcases List.mem_cons.mp hb with rfl | hb
  ·exact (nH _ le).trans fe.1
  ·rw [List.mem_singleton.mp hb]; exact (nH _ li).trans fi.1
 done := by
  intro X hP hw hK hc i pins s σ H E I hf st hg
  subst hP hw hK
  obtain ⟨xs, hq, hx⟩ := hg
  obtain ⟨its, rv, p, hz⟩ := I.list hq
  have fi := hf it (by simp)
  have hl := rv.length
  obtain ⟨old, h1, h2⟩ := st
  exact wpAny_pyNext_enum_end (I.ok.hd hc) h1 h2 p.isList (by simp; omega) fun h' eb => ⟨rfl, I.turned (t' := s.toks) (fun b o hb q => eb b o hb q) fi.1 fi.2.1 fi.2.2.2.1 fi.2.2.2.2.1 fi.2.2.2.2.2⟩
 self := fun _ _ _ _ _ ⟨_, st, _⟩ h => wpAny_pyIter_enum st h
def EO (K : W.Frag) (ta : TA) : TI := fun σ H R => ta σ H fun vs H1 => ∃ a, vs = [.ref a] /\ (∃ xs, SqL K H1 a xs) /\ R (Ite K a) H1
theorem DS {arg : Expr} {ta : TA} {p pos : Pos} {elts : List Expr} {cx : _} {tp : Pos} (K : W.Frag) (hg : Gl X "enumerate") (hm : X.mg "enumerate" = none) (ha : PA X [arg] ta) (hs : starEach [arg] X.env = [(false, eval arg X.env)] := by rfl) (hK : X.K = K := by rfl) :
 PI X (.Tuple elts cx tp) (.Call (.Name "enumerate" p) [arg] [] pos) (EO K ta) := by
 subst hK
 intro pins s σ H R I h
 refine Call_ (lJ I hg hm PyProof.Rows.boot_enumerate (PyProof.Rows.callWith_type1 (thn (ha pos pins s σ H _ I h) fun us s1 ⟨vs, H1, I1, r1, q1⟩ => ?_) hs rfl))
 obtain ⟨a, e, ⟨xs, hq⟩, q⟩ := q1
 subst e
 obtain ⟨u, rfl, ru⟩ := iD r1
 cases (show u = Value.ref a from ru)
 obtain ⟨its, rv, pl, hz⟩ := I1.list hq
 refine call_enumerate_list pl.isList fun h' e1 i1 z1 k1 => wpAny_pyIter_enum (s := { s1 with heap := h' }) e1 ?_
 refine ⟨_, [s1.heap.objs.size + 1, s1.heap.objs.size], _, _, H1, rfl, I1.kept (t' := s1.toks) k1, Bt a _ _ (Nat.succ_ne_self _), ⟨_, e1, i1⟩, fun b hb => ?_, q⟩
 rcases List.mem_cons.mp hb with rfl | hb
 ·exact I1.fpOk (Nat.le_succ _) (I1.hok.fresh (Nat.le_succ _))
 ·rw [List.mem_singleton.mp hb]; exact I1.fpOk (Nat.le_refl _) (I1.hok.fresh (Nat.le_refl _))
end
end L2
namespace L2
open PySem PyProof.Rows
section
variable {X : Cx} {pins : List (Addr × Obj)} {σ : St} {H : Hp} {s : Shared}
def rX : Value -> List Nat
 | .str x _ => x.cps.toList
 | _ => []
def IsS (v : Value) : Prop := ∃ x t, v = .str x t
abbrev InO (ls : List (List Nat)) : Prop := ls.Pairwise fun a b => ¬ b < a
theorem jE : ∀ {a b : List (List Nat)}, a.Perm b -> InO a -> InO b -> a = b
 | [], _, p, _, _ => p.nil_eq
 | x :: r, b, p, ha, hb => by
  cases b with
  | nil => exact absurd p.length_eq (by simp)
  | cons y t =>
   have hx : x ∈ y :: t := p.mem_iff.mp (.head _)
   have hy : y ∈ x :: r := p.mem_iff.mpr (.head _)
   have e : x = y := by
    rcases List.mem_cons.mp hx with h | h
    ·exact h
    ·rcases List.mem_cons.mp hy with h' | h'
     ·exact h'.symm
     ·exact List.le_antisymm (List.not_lt.mp ((List.pairwise_cons.mp ha).1 y h')) (List.not_lt.mp ((List.pairwise_cons.mp hb).1 x h))
   subst e
   rw [jE (List.Perm.cons_inv p) (List.pairwise_cons.mp ha).2 (List.pairwise_cons.mp hb).2]
theorem sH : ∀ {vs : List Value}, (∀ v ∈ vs, IsS v) -> Vals ((vs.map rX).map T) vs
 | [], _ => .nil
 | v :: vs, h => by
  obtain ⟨x, t, rfl⟩ := h v (List.mem_cons_self ..)
  exact .cons ⟨t, rfl⟩ (sH fun u m => h u (List.mem_cons_of_mem _ m))
theorem tR : ∀ {ls : List (List Nat)} {vs : List Value}, Vals (ls.map T) vs -> (∀ v ∈ vs, IsS v) /\ vs.map rX = ls
 | [], _, .nil => ⟨(fun _ m => nomatch m), rfl⟩
 | l :: ls, _, .cons e t => by
  obtain ⟨k, rfl⟩ := e
  obtain ⟨a, b⟩ := tR t
  refine ⟨fun v m => ?_, by rw [List.map_cons, b]; rfl⟩
  rcases List.mem_cons.mp m with rfl | m
  ·exact ⟨_, _, rfl⟩
  ·exact a v m
theorem tK : ∀ {vs : List Value}, (∀ v ∈ vs, IsS v) -> ∃ ss, StrsAre vs ss
 | [], _ => ⟨[], .nil⟩
 | v :: vs, h => by
  obtain ⟨x, t, rfl⟩ := h v (List.mem_cons_self ..)
  obtain ⟨ss, r⟩ := tK fun u m => h u (List.mem_cons_of_mem _ m)
  exact ⟨x :: ss, .cons x t r⟩
theorem zF {vs : List Value} (hv : ∀ v ∈ vs, IsS v) {xs : Array Keyed} (hp : xs.Perm (pairsOf vs)) (hs : SortedToK strKind xs (pairsOf vs).size) :
 (xs.map (·.2)).toList.Perm vs /\ InO ((xs.map (·.2)).toList.map rX) := by
 have pl : xs.toList.Perm (vs.toArray.zip vs.toArray).toList := Array.perm_iff_toList_perm.mp hp
 have e2 : (xs.map (·.2)).toList = xs.toList.map (·.1) := by
  rw [Array.toList_map]
  exact List.map_congr_left fun p m => (Srt.pairs_mem (pl.mem_iff.mp m)).2
 have p1 : (xs.map (·.2)).toList.Perm vs := by
  rw [e2]
  have := pl.map (·.1)
  rwa [Srt.pairs_fst] at this
 refine ⟨p1, ?_⟩
 rw [e2, List.map_map]
 have sz : xs.size = (pairsOf vs).size := hp.size_eq
 refine List.pairwise_iff_getElem.mpr fun i j hi hj hij => ?_
 have hi' : i < xs.size := by simpa using hi
 have hj' : j < xs.size := by simpa using hj
 have l := hs i j (Nat.le_of_lt hij) (by omega)
 have kk : ∀ k (h : k < xs.size), KK strKind xs k = rX xs[k].1 := fun k h => by
  have m : xs[k] ∈ xs.toList := by simp
  obtain ⟨x, t, e⟩ := hv _ (Srt.pairs_mem (pl.mem_iff.mp m)).1
  unfold KK
  rw [Array.getElem?_eq_getElem h]
  show (strKind.keyOf xs[k].1).getD strKind.dflt = _
  rw [e]; rfl
 rw [kk i hi', kk j hj'] at l
 have l' : decide (rX xs[j].1 < rX xs[i].1) = false := l
 simp only [List.getElem_map, Array.getElem_toList, Function.comp_apply]
 exact of_decide_eq_false l'
def zv (K : W.Frag) : List V -> Hp -> VK -> Prop
 | [.ref p], H, Q => ∃ ls : List (List Nat), SqL K H p (ls.map T) /\ ls.length < 64 /\ ∀ out : List (List Nat), out.Perm ls -> InO out -> ∀ l, H l = none -> Q (.ref l) (upd H l (.lst (out.map T)))
 | _, _, _ => False
theorem wL (K : W.Frag) (hK : X.K = K := by rfl) : CallR X (.builtin "sorted") (zv K) := by
 subst hK
 intro pins s σ H xs us Q I r h
 unfold zv at h
 split at h
 ·rename_i p
  obtain ⟨ls, hq, h64, q⟩ := h
  obtain ⟨u, rfl, rx⟩ := iD r
  cases (show u = Value.ref p from rx)
  obtain ⟨its, r', pl, hz⟩ := I.list hq
  obtain ⟨hv, em⟩ := tR r'
  obtain ⟨ss, hS⟩ := tK hv
  have len : its.length < 64 := by have := r'.length; rw [List.length_map] at this; omega
  refine sortedK strKind_oneLt pl.isList hS.keysOf (fun v₁ v₂ rest e => keyKind_strs (by rw [<- e]; exact hS)) len fun st' hp hs => ?_
  obtain ⟨p1, o1⟩ := zF hv hp hs
  generalize hout : (arrOf st').map (·.2) = out at p1 o1
  obtain ⟨c, ea⟩ := sortedAll_at s.heap its out
  have kp : ∀ b o, s.heap.get? b = some o -> (sortedAll s.heap its out).get? b = some o := fun _ _ e => sortedAll_old e
  have hv2 : ∀ v ∈ out.toList, IsS v := fun v m => hv v (p1.mem_iff.mp m)
  have pm : (out.toList.map rX).Perm ls := by have := p1.map rX; rwa [em] at this
  refine ⟨.ref (s.heap.objs.size + 1), _, I.laid (t' := s.toks) (a := s.heap.objs.size + 1) kp (Nat.le_succ _) (show ObjOk X.prog X.w _ (sortedAll s.heap its out) _ (.lst ((out.toList.map rX).map T)) from ⟨?_, out.toList, c, sH hv2, by rw [Array.toArray_toList]; exact ea⟩), rfl, q _ pm o1 _ (I.hok.fresh (Nat.le_succ _))⟩
  rw [List.length_map, pm.length_eq, sizeLine_eq]; omega
 ·exact h.elim
theorem uY {P : Program} {w : World} : ∀ {vs : List (Key × Value)} {us : List Value}, us.length = vs.length -> (∀ (j : Nat) (v : Value), us[j]? = some v -> ∃ k x, vs[j]? = some (k, x) /\ (cP P w).is k v = true) -> Vals (vs.map fun e => kV e.1) us
 | [], [], _, _ => .nil
 | e :: vs, u :: us, hl, h => by
  obtain ⟨k, x, e1, r⟩ := h 0 u rfl
  simp at e1
  subst e1
  refine .cons ?_ (uY (by simpa using hl) fun j v q => by simpa using h (j + 1) v (by simpa using q))
  cases k with
  | inl i => obtain ⟨t, z⟩ := Value.isInt_shape r; exact ⟨t, z⟩
  | inr x => obtain ⟨t, z⟩ := Value.isStrOf_shape r; exact ⟨t, z⟩
 | [], _ :: _, hl, _ => by simp at hl
 | _ :: _, [], hl, _ => by simp at hl
def zp : List V -> Hp -> VK -> Prop
 | [.ref d], H, Q => ∃ (kvs : List (Key × V)) (ls : List (List Nat)), H d = some (.dK kvs) /\ kvs.map (fun e => kV e.1) = ls.map T /\ ls.length < 64 /\ ∀ out : List (List Nat), out.Perm ls -> InO out -> ∀ l, H l = none -> Q (.ref l) (upd H l (.lst (out.map T)))
 | _, _, _ => False
theorem ou (hc : X.calm = true) : CallR X (.builtin "sorted") zp := by
 intro pins s σ H xs us Q I r h
 unfold zp at h
 split at h
 ·rename_i d
  obtain ⟨kvs, ls, hd, hks, h64, q⟩ := h
  obtain ⟨u, rfl, rx⟩ := iD r
  cases (show u = Value.ref d from rx)
  obtain ⟨z, lo, vs, kv, D⟩ := EK I.hok hd
  obtain ⟨ep, hat⟩ := D.dictAt
  have len : vs.length = kvs.length := (KV.length kv).symm
  have ek : kvs.map (fun e => kV e.1) = vs.map fun e => kV e.1 := by
   have := congrArg (List.map kV) (KV.keys kv)
   simpa [List.map_map, Function.comp_def] using this
  refine Calls.call_function_entry kind_sorted plain_sorted entry_sorted (args_sorted1 _) ?_
  unfold Builtin.«sorted»
  refine wpAny_bind (m := checkCount "sorted" 1 1 _) (wpAny_pure ?_)
  refine wpAny_bind (PySem.W.kdu_collect (PySem.W.kdl_dict (knd := cP X.prog X.w) (kvs := vs) (ep := ep) lo) (I.ok.hd hc) hat (by omega) fun h' tk acc kp it => ?_)
  have rv : Vals (ls.map T) acc.toList := by
   rw [<- hks, ek]
   exact uY (P := X.prog) (w := X.w) (by rw [Array.length_toList]; exact it.1) fun j v e => it.2 j v (by rw [<- Array.getElem?_toList]; exact e)
  obtain ⟨hv, em⟩ := tR rv
  obtain ⟨ss, hS⟩ := tK hv
  have len2 : acc.toList.length < 64 := by have := rv.length; rw [List.length_map] at this; omega
  refine wpAny_bind (wpAny_newList ?_)
  have hoL : (h'.push (seqObj "list" acc.toList.toArray 0)).get? h'.objs.size = some (seqObj "list" acc.toList.toArray 0) := Heap.get?_push_size _ rfl
  refine wpAny_bind (wpAny_holding (wpAny_call_entry slot_list_sort ⟨_, hoL, rfl⟩ entry_list_sort (list_sort_treeK strKind_oneLt hoL hS.keysOf (fun v₁ v₂ rest e => keyKind_strs (by rw [<- e]; exact hS)) len2 fun st' hp hs => ⟨_, rfl, ?_⟩) (args_list_sort _)))
  refine wpAny_pure ⟨_, rfl, ?_⟩
  obtain ⟨p1, o1⟩ := zF hv hp hs
  generalize hout : (arrOf st').map (·.2) = out at p1 o1
  obtain ⟨c, ea⟩ := sortedHeap_at (out := out) hoL
  have I1 : Inv X pins σ H { s with heap := h', toks := tk } := I.kept kp
  have kp2 : ∀ b o, h'.get? b = some o -> (sortedHeap (h'.push (seqObj "list" acc.toList.toArray 0)) h'.objs.size acc.toList out).get? b = some o := fun b o e => by
   have l1 := Heap.lt_size e
   rw [sortedHeap_old (Nat.ne_of_lt l1) (by rw [size_push']; exact Nat.lt_succ_of_lt l1), Heap.get?_push_ne _ _ _ (Nat.ne_of_lt l1)]
   exact e
  have hv2 : ∀ v ∈ out.toList, IsS v := fun v m => hv v (p1.mem_iff.mp m)
  have pm : (out.toList.map rX).Perm ls := by have := p1.map rX; rwa [em] at this
  refine ⟨.ref h'.objs.size, _, I1.laid (t' := tk) (a := h'.objs.size) kp2 (Nat.le_refl _) (show ObjOk X.prog X.w _ _ _ (.lst ((out.toList.map rX).map T)) from ⟨?_, out.toList, c, sH hv2, by rw [Array.toArray_toList]; exact ea⟩), rfl, q _ pm o1 _ (I1.hok.fresh (Nat.le_refl _))⟩
  rw [List.length_map, pm.length_eq, sizeLine_eq]; omega
 ·exact h.elim
def F4 (K : W.Frag) : List V -> Hp -> VK -> Prop
 | [.ref p], H, Q => ∃ bs : List Bool, SqL K H p (bs.map V.bl) /\ Q (.bl (bs.any id)) H
 | _, _, _ => False
theorem DT (K : W.Frag) (hc : X.calm = true) (hK : X.K = K := by rfl) : CallR X (.builtin "any") (F4 K) := by
 subst hK
 intro pins s σ H xs us Q I r h
 unfold F4 at h
 split at h
 ·rename_i p
  obtain ⟨bs, hq, q⟩ := h
  obtain ⟨u, rfl, rx⟩ := iD r
  cases (show u = Value.ref p from rx)
  obtain ⟨its, rv, pl, hz⟩ := I.list hq
  have hne : p ≠ s.heap.objs.size := Nat.ne_of_lt (by obtain ⟨_, e, _⟩ := pl.isList; exact Heap.lt_size e)
  have hb : LSm.BoolsAre its bs := oG rv
  refine call_any_walk (wpAny_pyIter_list pl.isList ?_)
  refine ⟨s.heap.objs.size, [s.heap.objs.size, p], [s.heap.objs.size], its.toArray.size, _, _, fun i => (bs[i]?).getD false, rfl, Walks.list (A := X.A.in1) (I.ok.hd hc) _ p hne its.toArray,
   ⟨⟨_, Heap.get?_push_size _ rfl, rfl, rfl⟩, pl.isList.push _⟩, fun i v s' Q' E' hP hQ => ?_, fun h' tk hk => ?_⟩
  ·obtain ⟨b, e, rfl⟩ := hb.get i v (by simpa using hP)
   simp only [e, Option.getD_some] at hQ
   exact wpAny_truthy_bool hQ
  ·have e : ((List.range its.toArray.size).any fun i => (bs[i]?).getD false) = bs.any id := by
    rw [List.size_toArray, hb.length]; exact LSm.range_any bs
   rw [e]
   exact ⟨.bl (bs.any id), H, I.kept (LSm.kept_iter hk), rfl, q⟩
 ·exact h.elim
end
section
variable {X : Cx} {tg : Expr}
theorem zl {pins : List (Addr × Obj)} {σ : St} {H : Hp} {s : Shared} {R : It -> Hp -> Prop} {E : Value -> Shared -> Prop} {lo hi c : Int} {t u v : Tok} {tk : Nat} (I : Inv X pins σ H s) (h1 : 0 <= lo) (h2 : lo < 1000000) (h3 : -1000000 <= hi) (h4 : hi < 1000000) (h5 : 1 <= c) (h6 : c < 1000000)
 (q : R (yQ lo c (rsz lo hi c)) H) : wpAny (model X.prog X.w) X.A (pyIter (.ref s.heap.objs.size)) (PIE X pins σ tg R) E { s with heap := s.heap.push { cls := .type "range", data := .fields #[.int lo t, .int hi u, .int c v] }, toks := tk } := by
 have hd : 0 <= (hi - lo - 1) / c \/ ¬ lo < hi := by
  by_cases h : lo < hi
  ·exact .inl (Int.ediv_nonneg (by omega) (by omega))
  ·exact .inr h
 have hd2 : lo < hi -> (hi - lo - 1) / c < 1000000 := fun h => by
  have := Int.ediv_le_self c (show 0 <= hi - lo - 1 by omega)
  omega
 have e2 : ((rsz lo hi c : Nat) : Int) - ((0 : Nat) : Int) = Builtin.Range.rangeSize lo hi c := by
  unfold rsz Builtin.Range.rangeSize
  rw [if_pos (show c > 0 by omega)]
  split <;> omega
 refine wpAny_pyIter_range (IsRange.new ..) ?_ ?_
 ·have fits : ∀ z : Int, -(2 ^ 62) <= z -> z < 2 ^ 62 -> Builtin.Range.rangeFitsLong z = true := fun z z1 z2 => by
   simp only [Builtin.Range.rangeFitsLong, Bool.and_eq_true, decide_eq_true_eq]; omega
  have hr : 0 <= ((rsz lo hi c : Nat) : Int) /\ ((rsz lo hi c : Nat) : Int) <= 1000000 := by
   unfold rsz
   split
   ·rename_i h; have := hd2 h; omega
   ·omega
  unfold Builtin.Range.small
  rw [<- e2, fits lo (by omega) (by omega), fits hi (by omega) (by omega), fits c (by omega) (by omega), fits _ (by omega) (by omega), if_pos (show c > 0 by omega), fits (hi + (c - 1)) (by omega) (by omega), Bool.or_true]
  rfl
 have I1 : Inv X pins σ H { s with heap := s.heap.push { cls := .type "range", data := .fields #[.int lo t, .int hi u, .int c v] }, toks := tk } := I.kept fun b o e => Heap.get?_push_of_some _ e
 refine ⟨(s.heap.push { cls := .type "range", data := .fields #[.int lo t, .int hi u, .int c v] }).objs.size, [(s.heap.push { cls := .type "range", data := .fields #[.int lo t, .int hi u, .int c v] }).objs.size], _, _, H, rfl,
  I1.kept (t' := tk) fun b o e => Heap.get?_push_of_some _ e, xX _ lo c (rsz lo hi c), ?_, fun b hb => ?_, q⟩
 ·have e1 : lo + ((0 : Nat) : Int) * c = lo := by simp
  show IsRangeIter _ _ (lo + ((0 : Nat) : Int) * c) (((rsz lo hi c : Nat) : Int) - ((0 : Nat) : Int)) c
  rw [e1, e2]
  exact Heap.get?_push_size _ rfl
 ·have e : b = (s.heap.push { cls := .type "range", data := .fields #[.int lo t, .int hi u, .int c v] }).objs.size := by simpa using hb
  subst e
  exact I1.fpOk (Nat.le_refl _) (I1.hok.fresh (Nat.le_refl _))
def Bw (ta : TA) : TI := fun σ H R => ta σ H fun vs H1 => ∃ i j c : Int, vs = [.int i, .int j, .int c] /\ (0 <= i /\ i < 1000000 /\ -1000000 <= j /\ j < 1000000 /\ 1 <= c /\ c < 1000000) /\ R (yQ i c (rsz i j c)) H1
theorem yG {a b c : Expr} {ta : TA} {p pos : Pos} (hg : Gl X "range") (hm : X.mg "range" = none) (ha : PA X [a, b, c] ta) (hs : starEach [a, b, c] X.env = [(false, eval a X.env), (false, eval b X.env), (false, eval c X.env)] := by rfl) (hs2 : starEach [b, c] X.env = [(false, eval b X.env), (false, eval c X.env)] := by rfl) :
 PI X tg (.Call (.Name "range" p) [a, b, c] [] pos) (Bw ta) := by
 intro pins s σ H R I h
 refine Call_ (lJ I hg hm boot_range (PyProof.Rows.callWith_type1 (thn (ha pos pins s σ H _ I h) fun us s1 ⟨vs, H1, I1, r1, q1⟩ => ?_) (by rw [hs, hs2]) (by rw [hs2]; rfl)))
 obtain ⟨i, j, k, e, ⟨q1, q2, q3, q4, q5, q6⟩, q⟩ := q1
 subst e
 cases r1 with
 | cons r rr =>
  cases rr with
  | cons r' rr =>
   cases rr with
   | cons r'' rr =>
    cases rr
    obtain ⟨t, rfl⟩ := r
    obtain ⟨t', rfl⟩ := r'
    obtain ⟨t'', rfl⟩ := r''
    exact call_range_3 (by omega) (zl I1 q1 q2 q3 q4 q5 q6 q) (Or.inl (PyProof.noPylong_small (by omega)))
end
open Lean Meta Simp
def DI : List Name := E8 ++ [`L2.GH, `L2.zM, `L2.EM, `L2.tTryN]
def Dz : List Name := FU ++ [`L2.zv, `L2.zp, `L2.gListD, `L2.F4, `L2.gInL, `L2.FZ]
end L2
namespace L2
open PySem PyProof.Rows
section
variable {X : Cx} {pins : List (Addr × Obj)} {σ : St} {H : Hp} {s : Shared}
end
namespace Srt
def HH (h : Heap) (p : Addr) (x y z : Int) : Prop := ∃ (o : Obj) (t u r : Tok) (n : Nat), h.get? p = some o /\ o.cls = .type "tuple" /\ o.data = .seq #[.int x t, .int y u, .int z r] n
section
variable {prog : Program} {w : World} {A : Around} {E : Value -> Shared -> Prop} {s : Shared}
end
end Srt
section
variable {X : Cx} {pins : List (Addr × Obj)} {σ : St} {H : Hp} {s : Shared}
end
end L2
namespace L2
namespace Rv
open PySem PyProof.Rows
section
variable {prog : Program} {w : World} {A : Around} {E : Value -> Shared -> Prop} {s : Shared}
theorem enum_item {e it : Addr} {i : Nat} {x old : Value} {T : Heap -> Prop} {Q : Value -> Shared -> Prop} (en : IsEnum s.heap e it i old) (ne : e ≠ it)
 (tk : ∀ h h' : Heap, T h -> Heap.SameBut e h h' -> T h') (tp : ∀ (h : Heap) (o : Obj), T h -> T (h.push o))
 (inner : ∀ Q' : Value -> Shared -> Prop, (∀ h', T h' -> Heap.SameBut it s.heap h' -> Q' x { s with heap := h' }) -> wpAny (model prog w) A (Builtin.SmallTypes.nextOf (.ref it)) Q' E s)
 (k : ∀ h', IsEnumOut h' e it ((i : Int) + 1) x s.heap.objs.size -> T h' -> h'.get? s.heap.objs.size = some { cls := .type "tuple", data := .seq #[.int i s.toks, x] } -> h'.objs.size = s.heap.objs.size + 1 ->
  (∀ b o, b ≠ e -> b ≠ it -> s.heap.get? b = some o -> h'.get? b = some o) -> Q (.ref s.heap.objs.size) { s with heap := h', toks := s.toks + 1 }) :
 wpAny (model prog w) A (Builtin.«enumerate.__next__» ⟨[.ref e], []⟩) (fun fin s' => ∃ v, fin = .done (.ret v) /\ Q v s') E s := by
 obtain ⟨hp, g, d, tn, os⟩ := s
 show wpAny (model prog w) A (field (.ref e) 2 >>= _) _ _ _
 refine wpAny_bind (wpAny_field en rfl (x := .ref it) rfl (wpAny_bind (inner _ fun a1 t1 sb1 => ?_)))
 have n1 : IsEnum a1 e it i old := (sb1.2 e ne).trans en
 have z1 : a1.objs.size = hp.objs.size := sb1.1
 have lt : e < hp.objs.size := Heap.lt_size en
 show wpAny (model prog w) A (field (.ref e) 3 >>= _) _ _ ⟨a1, g, d, tn, os⟩
 refine wpAny_bind (wpAny_field n1 rfl (x := rawInt i) rfl ?_)
 show wpAny (model prog w) A (field (.ref e) 4 >>= _) _ _ ⟨a1, g, d, tn, os⟩
 refine wpAny_bind (wpAny_field n1 rfl (x := .none) rfl ?_)
 show wpAny (model prog w) A (mkInt i >>= _) _ _ ⟨a1, g, d, tn, os⟩
 refine wpAny_bind (wpAny_mkInt ?_)
 show wpAny (model prog w) A (setField (.ref e) 3 (rawInt ((i : Int) + 1)) >>= _) _ _ ⟨a1, g, d, tn + 1, os⟩
 refine wpAny_bind (wpAny_setField_rec n1 (by simp) fun a2 n2 sb2 => ?_)
 replace sb2 : Heap.SameBut e a1 a2 := sb2
 replace n2 : IsEnum a2 e it ((i : Int) + 1) old := n2
 show wpAny (model prog w) A (setField (.ref e) 4 .none >>= _) _ _ ⟨a2, g, d, tn + 1, os⟩
 refine wpAny_bind (wpAny_setField_rec n2 (by simp) fun a3 n3 sb3 => ?_)
 replace sb3 : Heap.SameBut e a2 a3 := sb3
 replace n3 : IsEnum a3 e it ((i : Int) + 1) old := n3
 show wpAny (model prog w) A (newTuple [.int i tn, x] >>= _) _ _ ⟨a3, g, d, tn + 1, os⟩
 refine wpAny_bind (wpAny_newTuple ?_)
 have z3 : a3.objs.size = hp.objs.size := by rw [sb3.1, sb2.1, z1]
 have t3 := tk _ _ (tk _ _ t1 sb2) sb3
 have k3 : ∀ b o, b ≠ e -> b ≠ it -> hp.get? b = some o -> a3.get? b = some o := fun b o b1 b2 q => sb3.extBut b o b1 (sb2.extBut b o b1 (sb1.extBut b o b2 q))
 have n4 : IsEnum (a3.push { cls := .type "tuple", data := .seq #[.int i tn, x] }) e it ((i : Int) + 1) old := Heap.get?_push_of_some _ n3
 have g4 : (a3.push { cls := .type "tuple", data := .seq #[.int i tn, x] }).get? hp.objs.size = some { cls := .type "tuple", data := .seq #[.int i tn, x] } := by rw [<- z3]; exact Heap.get?_push_size _ rfl
 have z4 : (a3.push { cls := .type "tuple", data := .seq #[.int i tn, x] }).objs.size = hp.objs.size + 1 := by rw [Heap.size_push, z3]
 have t4 := tp _ { cls := .type "tuple", data := .seq #[.int i tn, x] } t3
 have k4 : ∀ b o, b ≠ e -> b ≠ it -> hp.get? b = some o -> (a3.push { cls := .type "tuple", data := .seq #[.int i tn, x] }).get? b = some o := fun b o b1 b2 q => Heap.get?_push_of_some _ (k3 b o b1 b2 q)
 rw [z3]
 generalize a3.push { cls := .type "tuple", data := .seq #[.int i tn, x] } = a4 at n4 g4 z4 t4 k4 ⊢
 clear k3 t3 n3 sb3 n2 sb2 n1 sb1 t1
 show wpAny (model prog w) A (Builtin.SmallTypes.ownedTupleIsFree (.ref e) >>= _) _ _ ⟨a4, g, d, tn + 1, os⟩
 refine wpAny_bind ?_
 unfold Builtin.SmallTypes.ownedTupleIsFree
 refine wpAny_bind (wpAny_field n4 rfl (x := .none) rfl (wpAny_pure ?_))
 simp only [if_true]
 refine wpAny_bind (wpAny_rule (wpAny_bind (wpAny_field n4 rfl (x := old) rfl (wpAny_bind (wpAny_setField_rec n4 (by simp) fun a5 n5 sb5 => ?_)))))
 replace sb5 : Heap.SameBut e a4 a5 := sb5
 replace n5 : IsEnum a5 e it ((i : Int) + 1) x := n5
 show wpAny (model prog w) A (Builtin.SmallTypes.ownedTupleHandOut (.ref e) (.ref hp.objs.size) >>= _) _ _ ⟨a5, g, d, tn + 1, os⟩
 refine wpAny_bind ?_
 unfold Builtin.SmallTypes.ownedTupleHandOut
 refine wpAny_bind (wpAny_setField_rec n5 (by simp) fun a6 n6 sb6 => ?_)
 replace sb6 : Heap.SameBut e a5 a6 := sb6
 replace n6 : IsEnumOut a6 e it ((i : Int) + 1) x hp.objs.size := n6
 refine wpAny_setField_rec n6 (by simp) fun a7 n7 sb7 => ?_
 replace sb7 : Heap.SameBut e a6 a7 := sb7
 replace n7 : IsEnumOut a7 e it ((i : Int) + 1) x hp.objs.size := n7
 have up : ∀ b o, b ≠ e -> a4.get? b = some o -> a7.get? b = some o := fun b o b1 q => sb7.extBut b o b1 (sb6.extBut b o b1 (sb5.extBut b o b1 q))
 exact wpAny_bind (wpAny_letGo (wpAny_pure ⟨_, rfl, k a7 n7 (tk _ _ (tk _ _ (tk _ _ t4 sb5) sb6) sb7) (up _ _ (Nat.ne_of_gt lt) g4) (by rw [sb7.1, sb6.1, sb5.1, z4]) fun b o b1 b2 q => up b o b1 (k4 b o b1 b2 q)⟩))
end
end Rv
open PySem PyProof.Rows
section
variable {X : Cx} {pins : List (Addr × Obj)} {σ : St} {H : Hp} {s : Shared}
end
end L2
namespace L2
open PySem PyProof.Rows
def FE (J : It) (g : TG) (tb : TS) (D : kh) (σ : St) (H : Hp) : Prop := ∃ W : Nat -> Nat -> St -> Hp -> Prop, (∃ m, W 0 m σ H) /\ ∀ i m σ H, W i m σ H ->
 (J.stop i H /\ D.nx σ H) \/ (J.go i H /\ ∃ N : St -> Hp -> Prop, (∀ σ' H', N σ' H' -> ∃ m', m' < m /\ W (i + 1) m' σ' H') /\ ∀ x H', J.yld i H x H' -> g x σ H' fun σ2 H2 => tb { D with nx := N, ct := N, bk := D.nx } σ2 H2)
theorem Ef {K : W.Frag} {ta : TA} {g : TG} {tb : TS} {D : kh} {σ : St} {H : Hp} (h : ta σ H fun vs H1 => ∃ a, vs = [.ref a] /\ (∃ xs, SqL K H1 a xs) /\ FE (Ite K a) g tb D σ H1) : BD (EO K ta) g tb D σ H := h
theorem Dv {K : W.Frag} {a : Addr} {xs : List V} {g : TG} {tb : TS} {D : kh} {σ : St} {H : Hp} (Pv : Nat -> St -> Hp -> Prop) (h0 : Pv 0 σ H) (hl : ∀ i σ H, i <= xs.length -> Pv i σ H -> SqL K H a xs)
 (hs : ∀ i x σ H p, xs[i]? = some x -> H p = none -> Pv i σ H -> g (.ref p) σ (upd H p (.tup [.int i, x])) fun σ2 H2 => tb { D with nx := Pv (i + 1), ct := Pv (i + 1), bk := D.nx } σ2 H2) (hd : ∀ σ H, Pv xs.length σ H -> D.nx σ H) : FE (Ite K a) g tb D σ H := by
 refine ⟨fun i m σ H => m = xs.length - i /\ i <= xs.length /\ Pv i σ H, ⟨_, rfl, Nat.zero_le _, h0⟩, ?_⟩
 rintro i m σ H ⟨rfl, hi, p⟩
 have q := hl i σ H hi p
 rcases Nat.lt_or_ge i xs.length with lt | ge
 ·refine .inr ⟨⟨xs, xs[i], q, by simp [lt]⟩, Pv (i + 1), fun σ' H' p' => ⟨_, by omega, rfl, lt, p'⟩, ?_⟩
  rintro x H' ⟨r, y, hr, rfl, rfl, hy⟩
  exact hs i y σ H r (hy xs q) hr p
 ·obtain rfl : i = xs.length := Nat.le_antisymm hi ge
  exact .inl ⟨⟨xs, q, Nat.le_refl _⟩, hd σ H p⟩
theorem iU {J : It} {H1 : Hp} {D : Addr} {Q : VK} {σr : St} {tt : TT} {te : TE} (h : ∃ W : Nat -> Nat -> List V -> Hp -> Prop, (∃ m, W 0 m [] (upd H1 D (.lst []))) /\
 ∀ i m ys H2, W i m ys H2 -> H2 D = some (.lst ys) /\ ((J.stop i H2 /\ Q (.ref D) H2) \/ (J.go i H2 /\ ∀ x H3, J.yld i H2 x H3 ->
  tt (some x :: σr) H3 fun b H4 => if b = true then te (some x :: σr) H4 fun y H5 => H5 D = some (.lst ys) /\ ys.length < sizeLine /\ ∃ m', m' < m /\ W (i + 1) m' (ys ++ [y]) (upd H5 D (.lst (ys ++ [y])))
   else ∃ m', m' < m /\ W (i + 1) m' ys H4))) :
 ∃ W : Nat -> Nat -> List V -> Hp -> Prop, (∃ m, W 0 m [] (upd H1 D (.lst []))) /\
  ∀ i m ys H2, W i m ys H2 -> H2 D = some (.lst ys) /\ ((J.stop i H2 /\ Q (.ref D) H2) \/ (J.go i H2 /\ ∀ x H3, J.yld i H2 x H3 -> ∀ zs : St, zs.length = 1 ->
   jq 0 x (zs ++ σr) H3 fun σ4 H4 => (∃ zs4 : St, zs4.length = 1 /\ σ4 = zs4 ++ σr) /\
    tt σ4 H4 fun b H5 => if b = true then te σ4 H5 fun y H6 => H6 D = some (.lst ys) /\ ys.length < sizeLine /\ ∃ m', m' < m /\ W (i + 1) m' (ys ++ [y]) (upd H6 D (.lst (ys ++ [y])))
     else ∃ m', m' < m /\ W (i + 1) m' ys H5)) := by
 obtain ⟨W, h0, h⟩ := h
 refine ⟨W, h0, fun i m ys H2 w => ?_⟩
 obtain ⟨h1, h2⟩ := h i m ys H2 w
 refine ⟨h1, h2.imp id fun ⟨g1, g2⟩ => ⟨g1, fun x H3 y zs hz => ?_⟩⟩
 obtain ⟨z, rfl⟩ := ex1 hz
 exact ⟨⟨[some x], rfl, rfl⟩, g2 x H3 y⟩
theorem cmS {tl : TE} {ks : List Nat} {σ : St} {H : Hp} {Q : VK} {tt : TT} {te : TE} (C : Hp -> Prop) (hC : ∀ D ys, H D = none -> C (upd H D (.lst ys))) (l : List Nat) (p : Nat -> Bool) (f : Nat -> V) (hl : ∀ R : VK, R (T l) H -> tl σ H R) (ha : ∀ c ∈ l, c < 128) (hz : l.length <= sizeLine)
 (hp : ∀ c ∈ l, ∀ H (R : Bool -> Hp -> Prop), C H -> R (p c) H -> tt (some (T [c]) :: ks.map fun k => (σ[k]?).join) H R) (hf : ∀ c ∈ l, p c = true -> ∀ H (R : VK), C H -> R (f c) H -> te (some (T [c]) :: ks.map fun k => (σ[k]?).join) H R)
 (q : ∀ D, H D = none -> Q (.ref D) (upd H D (.lst ((l.filter p).map f)))) : hE (Gw tl) 1 (jq 0) ks tt te σ H Q := by
 refine hl _ ⟨by simpa [cs] using ha, fun D hD => ?_⟩
 have P : ∀ x ∈ l.map fun c => T [c], ∃ c ∈ l, x = T [c] := fun x hx => by
  obtain ⟨c, hc, rfl⟩ := List.mem_map.mp hx; exact ⟨c, hc, rfl⟩
 let hd : V -> Nat := fun v => match v with | .str y => (cs y).headD 0 | _ => 0
 have hhd : ∀ c, hd (T [c]) = c := fun c => rfl
 refine iU (qG (Dc l) C (fun v => p (hd v)) (fun v => f (hd v)) (by simpa using hz) (fun x hx H R c r => ?_) (fun x hx hb H R c r => ?_) D hD (fun ys => hC D ys hD) ?_)
 ·obtain ⟨y, hy, rfl⟩ := P x hx
  exact hp y hy H R c r
 ·obtain ⟨y, hy, rfl⟩ := P x hx
  exact hf y hy hb H R c r
 ·have e : ((l.map fun c => T [c]).filter fun v => p (hd v)).map (fun v => f (hd v)) = (l.filter p).map f := by
   rw [List.filter_map, List.map_map]
   rfl
  rw [e]; exact q D hD
theorem cmR {ta : TA} {ks : List Nat} {σ : St} {H : Hp} {Q : VK} {tt : TT} {te : TE} (C : Hp -> Prop) (hC : ∀ D ys, H D = none -> C (upd H D (.lst ys))) (n : Nat) (p : Nat -> Bool) (f : Nat -> V) (hl : ∀ R : List V -> Hp -> Prop, R [.int n] H -> ta σ H R) (hz : n <= sizeLine)
 (hp : ∀ k, k < n -> ∀ H (R : Bool -> Hp -> Prop), C H -> R (p k) H -> tt (some (.int k) :: ks.map fun k => (σ[k]?).join) H R) (hf : ∀ k, k < n -> p k = true -> ∀ H (R : VK), C H -> R (f k) H -> te (some (.int k) :: ks.map fun k => (σ[k]?).join) H R)
 (q : ∀ D, H D = none -> Q (.ref D) (upd H D (.lst (((List.range n).filter p).map f)))) : hE (Di ta) 1 (jq 0) ks tt te σ H Q := by
 have hz' : (n : Int) < 2 ^ 62 := by
  have : sizeLine < 2 ^ 62 := by rw [sizeLine_eq]; decide
  have h2 : n < 2 ^ 62 := by omega
  have e : ((2 ^ 62 : Nat) : Int) = (2 : Int) ^ 62 := by decide
  omega
 refine hl _ ⟨n, rfl, by omega, hz', ?_⟩
 rw [Int.toNat_natCast]
 intro D hD
 have P : ∀ x ∈ (List.range n).map fun k => V.int (k : Nat), ∃ k, k < n /\ x = .int (k : Nat) := fun x hx => by
  obtain ⟨c, hc, rfl⟩ := List.mem_map.mp hx; exact ⟨c, by simpa using hc, rfl⟩
 let hd : V -> Nat := fun v => match v with | .int i => i.toNat | _ => 0
 have hhd : ∀ c : Nat, hd (.int c) = c := fun c => Int.toNat_natCast c
 refine iU (qG (Db n) C (fun v => p (hd v)) (fun v => f (hd v)) (by simpa using hz) (fun x hx H R c' r => ?_) (fun x hx hb H R c' r => ?_) D hD (fun ys => hC D ys hD) ?_)
 ·obtain ⟨c, hc, rfl⟩ := P x hx
  rw [hhd] at r
  exact hp c hc H R c' r
 ·obtain ⟨c, hc, rfl⟩ := P x hx
  rw [hhd] at r hb
  exact hf c hc hb H R c' r
 ·have e : (((List.range n).map fun k => V.int (k : Nat)).filter fun v => p (hd v)).map (fun v => f (hd v)) = ((List.range n).filter p).map f := by
   rw [List.filter_map, List.map_map]
   have e1 : ((fun v => p (hd v)) ∘ fun k : Nat => V.int (k : Nat)) = p := by funext k; simp only [Function.comp, hhd]
   have e2 : ((fun v => f (hd v)) ∘ fun k : Nat => V.int (k : Nat)) = f := by funext k; simp only [Function.comp, hhd]
   rw [e1, e2]
  rw [e]; exact q D hD
theorem cmT {K : W.Frag} {tl : TE} {ks : List Nat} {σ : St} {H H1 : Hp} {Q : VK} {tt : TT} {te : TE} (a : Addr) (vs : List V) (C : Hp -> Prop) (hC : ∀ D ys, H1 D = none -> C (upd H1 D (.lst ys))) (hT : ∀ H, C H -> SqT K H a vs) (p : V -> Bool) (f : V -> V)
 (hl : ∀ R : VK, R (.ref a) H1 -> tl σ H R) (h1 : SqT K H1 a vs) (hz : vs.length <= sizeLine)
 (hp : ∀ x ∈ vs, ∀ H (R : Bool -> Hp -> Prop), C H -> R (p x) H -> tt (some x :: ks.map fun k => (σ[k]?).join) H R) (hf : ∀ x ∈ vs, p x = true -> ∀ H (R : VK), C H -> R (f x) H -> te (some x :: ks.map fun k => (σ[k]?).join) H R)
 (q : ∀ D, H1 D = none -> Q (.ref D) (upd H1 D (.lst ((vs.filter p).map f)))) : hE (Fr K tl) 1 (jq 0) ks tt te σ H Q :=
 hl _ ⟨a, rfl, ⟨vs, h1⟩, fun D hD => iU (tm C (BQ hT) p f hz hp hf D hD (fun ys => hC D ys hD) (q D hD))⟩
theorem cmL {K : W.Frag} {tl : TE} {ks : List Nat} {σ : St} {H H1 : Hp} {Q : VK} {tt : TT} {te : TE} (a : Addr) (vs : List V) (C : Hp -> Prop) (hC : ∀ D ys, H1 D = none -> C (upd H1 D (.lst ys))) (hT : ∀ H, C H -> SqL K H a vs) (p : V -> Bool) (f : V -> V)
 (hl : ∀ R : VK, R (.ref a) H1 -> tl σ H R) (h1 : SqL K H1 a vs) (hz : vs.length <= sizeLine)
 (hp : ∀ x ∈ vs, ∀ H (R : Bool -> Hp -> Prop), C H -> R (p x) H -> tt (some x :: ks.map fun k => (σ[k]?).join) H R) (hf : ∀ x ∈ vs, p x = true -> ∀ H (R : VK), C H -> R (f x) H -> te (some x :: ks.map fun k => (σ[k]?).join) H R)
 (q : ∀ D, H1 D = none -> Q (.ref D) (upd H1 D (.lst ((vs.filter p).map f)))) : hE (Aq K tl) 1 (jq 0) ks tt te σ H Q :=
 hl _ ⟨a, rfl, ⟨vs, h1⟩, fun D hD => iU (tm C (BE hT) p f hz hp hf D hD (fun ys => hC D ys hD) (q D hD))⟩
theorem HE {ta : TA} {ks : List Nat} {σ : St} {H : Hp} {Q : VK} {tt : TT} {te : TE} (C : Hp -> Prop) (hC : ∀ D ys, H D = none -> C (upd H D (.lst ys))) (lo hi : Int) (n : Nat) (hn : (hi - lo).toNat = n) (p : V -> Bool) (f : V -> V) (hl : ∀ R : List V -> Hp -> Prop, R [.int lo, .int hi] H -> ta σ H R) (hb : -(2 ^ 62) <= lo /\ lo < 2 ^ 62 /\ -(2 ^ 62) <= hi /\ hi < 2 ^ 62) (hz : n <= sizeLine)
 (hp : ∀ k : Nat, k < n -> ∀ H (R : Bool -> Hp -> Prop), C H -> R (p (.int (lo + k))) H -> tt (some (.int (lo + k)) :: ks.map fun k => (σ[k]?).join) H R) (hf : ∀ k : Nat, k < n -> p (.int (lo + k)) = true -> ∀ H (R : VK), C H -> R (f (.int (lo + k))) H -> te (some (.int (lo + k)) :: ks.map fun k => (σ[k]?).join) H R)
 (q : ∀ D, H D = none -> Q (.ref D) (upd H D (.lst ((((List.range n).map fun k : Nat => V.int (lo + k)).filter p).map f)))) : hE (EI ta) 1 (jq 0) ks tt te σ H Q := by
 refine hl _ ⟨lo, hi, rfl, hb, ?_⟩
 rw [hn]
 intro D hD
 have P : ∀ x ∈ (List.range n).map fun k : Nat => V.int (lo + k), ∃ k : Nat, k < n /\ x = .int (lo + k) := fun x hx => by
  obtain ⟨c, hc, rfl⟩ := List.mem_map.mp hx; exact ⟨c, by simpa using hc, rfl⟩
 refine iU (qG (Bu lo n) C p f (by simpa using hz) (fun x hx H R c' r => ?_) (fun x hx hb H R c' r => ?_) D hD (fun ys => hC D ys hD) (q D hD))
 ·obtain ⟨c, hc, rfl⟩ := P x hx
  exact hp c hc H R c' r
 ·obtain ⟨c, hc, rfl⟩ := P x hx
  exact hf c hc hb H R c' r
inductive A2 {α β : Type} (R : α -> β -> Prop) : List α -> List β -> Prop
 | nil : A2 R [] []
 | cons {a : α} {b : β} {as : List α} {bs : List β} : R a b -> A2 R as bs -> A2 R (a :: as) (b :: bs)
namespace A2
variable {α β : Type} {R S : α -> β -> Prop}
theorem len {as : List α} {bs : List β} (h : A2 R as bs) : as.length = bs.length := by
 induction h with
 | nil => rfl
 | cons _ _ ih => simp [ih]
theorem imp {as : List α} {bs : List β} (h : A2 R as bs) (f : ∀ a b, a ∈ as -> b ∈ bs -> R a b -> S a b) : A2 S as bs := by
 induction h with
 | nil => exact .nil
 | cons r _ ih => exact .cons (f _ _ (.head _) (.head _) r) (ih fun a b ha hb => f a b (.tail _ ha) (.tail _ hb))
theorem at_ {as : List α} {bs : List β} (h : A2 R as bs) : ∀ {i : Nat} {a : α}, as[i]? = some a -> ∃ b, bs[i]? = some b /\ R a b := by
 induction h with
 | nil => intro i a e; simp at e
 | cons r _ ih =>
  intro i a e
  cases i with
  | zero => cases e; exact ⟨_, rfl, r⟩
  | succ i => exact ih (i := i) (by simpa using e)
theorem app {as : List α} {bs : List β} (h : A2 R as bs) {cs : List α} {ds : List β} (g : A2 R cs ds) : A2 R (as ++ cs) (bs ++ ds) := by
 induction h with
 | nil => exact g
 | cons r _ ih => exact .cons r ih
theorem snoc {as : List α} {bs : List β} {a : α} {b : β} (h : A2 R as bs) (r : R a b) : A2 R (as ++ [a]) (bs ++ [b]) := h.app (.cons r .nil)
end A2
def sp6 (f : V -> V -> V -> V -> V -> V -> Hp -> VK -> XK -> Prop) : Sp := fun vs H Q E => match vs with
 | [x, y, z, u, v, a] => f x y z u v a H Q E
 | _ => False
theorem sp6.inv {vs : List V} {H : Hp} {Q : VK} {E : XK} {f} (h : sp6 f vs H Q E) : ∃ x y z u v a, vs = [x, y, z, u, v, a] /\ f x y z u v a H Q E := by
 unfold sp6 at h
 split at h
 ·exact ⟨_, _, _, _, _, _, rfl, h⟩
 ·exact h.elim
theorem sp6.len {vs : List V} {H : Hp} {Q : VK} {E : XK} {f} (h : sp6 f vs H Q E) : vs.length = 6 := by obtain ⟨_, _, _, _, _, _, rfl, _⟩ := sp6.inv h; rfl
def sp7 (f : V -> V -> V -> V -> V -> V -> V -> Hp -> VK -> XK -> Prop) : Sp := fun vs H Q E => match vs with
 | [x, y, z, u, v, a, b] => f x y z u v a b H Q E
 | _ => False
theorem sp7.inv {vs : List V} {H : Hp} {Q : VK} {E : XK} {f} (h : sp7 f vs H Q E) : ∃ x y z u v a b, vs = [x, y, z, u, v, a, b] /\ f x y z u v a b H Q E := by
 unfold sp7 at h
 split at h
 ·exact ⟨_, _, _, _, _, _, _, rfl, h⟩
 ·exact h.elim
theorem sp7.len {vs : List V} {H : Hp} {Q : VK} {E : XK} {f} (h : sp7 f vs H Q E) : vs.length = 7 := by obtain ⟨_, _, _, _, _, _, _, rfl, _⟩ := sp7.inv h; rfl
theorem ex7 {α : Type} {us : List α} (hl : us.length = 7) : ∃ a0 a1 a2 a3 a4 a5 a6, us = [a0, a1, a2, a3, a4, a5, a6] := by
 match us, hl with
 | [a0, a1, a2, a3, a4, a5, a6], _ => exact ⟨_, _, _, _, _, _, _, rfl⟩
open Lean Meta Simp
def Dx : List Name := DI ++ [`L2.start, `Option.join]
def DU : List Name := Dz ++ [`L2.gCnt, `L2.gSortT, `L2.sp5, `L2.sp6, `L2.sp7]
def FK : Name -> Bool
 | .str _ s => s.startsWith "sp_"
 | _ => false
end L2
namespace L2
open PySem PyProof.Rows Builtin Builtin.Str
def rpN (c : Nat) (l : List Nat) : List Nat := ((l.reverse.dropWhile (· != c)).drop 1).reverse
theorem BC {c : Nat} {l : List Nat} {i : Nat} (h : l[i]? = some c) (hn : ∀ k : Nat, i < k -> l[k]? ≠ some c) : rpN c l = l.take i := by
 have hi : i < l.length := by
  rcases Nat.lt_or_ge i l.length with z | z
  ·exact z
  ·rw [List.getElem?_eq_none z] at h; cases h
 have e : l = l.take i ++ c :: l.drop (i + 1) := by
  have e1 := List.take_append_drop i l
  have e2 : l.drop i = c :: l.drop (i + 1) := by
   rw [List.drop_eq_getElem_cons hi]
   rw [List.getElem?_eq_getElem hi] at h
   injection h with h
   rw [h]
  rw [<- e2, e1]
 have hd : ∀ x ∈ (l.drop (i + 1)).reverse, (x != c) = true := by
  intro x hx
  obtain ⟨j, hj⟩ := List.mem_iff_getElem?.mp (List.mem_reverse.mp hx)
  rw [List.getElem?_drop] at hj
  have := hn (i + 1 + j) (by omega)
  rw [hj] at this
  simp only [bne_iff_ne, ne_eq]
  intro z; exact this (by rw [z])
 unfold rpN
 have e3 : l.reverse = (l.drop (i + 1)).reverse ++ c :: (l.take i).reverse := by
  conv => lhs; rw [e]
  simp
 rw [e3, List.dropWhile_append_of_pos hd]
 simp
theorem ya {c : Nat} {l : List Nat} (hn : ∀ k : Nat, l[k]? ≠ some c) : rpN c l = [] := by
 have hd : ∀ x ∈ l.reverse, (x != c) = true := by
  intro x hx
  obtain ⟨j, hj⟩ := List.mem_iff_getElem?.mp (List.mem_reverse.mp hx)
  have := hn j
  rw [hj] at this
  simp only [bne_iff_ne, ne_eq]
  intro z; exact this (by rw [z])
 unfold rpN
 have : l.reverse.dropWhile (· != c) = [] := by
  have z := List.dropWhile_append_of_pos (l₂ := []) hd
  rw [List.append_nil] at z
  exact z
 rw [this]; rfl
section
variable {X : Cx}
def gRp : V -> List V -> Hp -> VK -> Prop
 | .str x, [.str y], H, Q => ∃ c, cs y = [c] /\ (cs x).length <= sizeLine /\ ∀ p b e, H p = none -> Q (.ref p) (upd H p (.tup [T (rpN c (cs x)), T b, T e]))
 | _, _, _, _ => False
theorem wS : MtR X "str.rpartition" gRp := by
 intro pins s σ H x xs v us Q I rx rs h
 unfold gRp at h
 split at h
 ·rename_i x y
  obtain ⟨c, hc, hz, q⟩ := h
  obtain ⟨t, rfl⟩ := rx
  obtain ⟨u, rfl, t', rfl⟩ := iD rs
  have hy := wx hc
  subst hy
  obtain ⟨⟨l⟩⟩ := x
  have fin : ∀ (b e : List Nat) (k : Nat) (a t1 t2 : Nat) (t3 : Nat), EP X pins σ Q (.ref s.heap.objs.size) { s with toks := k, heap := s.heap.push { cls := .type "tuple", data := .seq [.str (S (rpN c l)) t1, .str (S b) t2, .str (S e) t3].toArray } } := fun b e k a t1 t2 t3 =>
   ⟨.ref s.heap.objs.size, _, I.laid (t' := k) (fun _ _ q => Heap.get?_push_of_some _ q) (Nat.le_refl _) (show ObjOk X.prog X.w _ _ _ (.tup [T (rpN c l), T b, T e]) from ⟨by show 3 <= sizeLine; decide, [.str (S (rpN c l)) t1, .str (S b) t2, .str (S e) t3], .cons ⟨_, rfl⟩ (.cons ⟨_, rfl⟩ (.cons ⟨_, rfl⟩ .nil)), IsTup.new _ _⟩), rfl, q _ b e I.fresh⟩
  refine call_meets F.slot_str_rpartition (typeIs_str _ _ _) F.entry_str_rpartition (F.args_str_rpartition_2 _ _) (meets_str_rpartition ⟨⟨l⟩⟩ ⟨#[c]⟩ t t' rfl hz) ?_
  rcases StrLaws.last_spec ⟨⟨l⟩⟩ ⟨#[c]⟩ with ⟨e0, hn⟩ | ⟨i, e0, ha, hn⟩
  ·rw [e0]
   have e1 : rpN c l = [] := ya fun k z => hn k ((StrLaws.subAt_one ⟨⟨l⟩⟩ c k).mpr z)
   have := fin [] l (s.toks + 1) 0 s.toks s.toks t
   rw [e1] at this
   exact this
  ·rw [e0]
   have e1 : rpN c l = l.take i := BC ((StrLaws.subAt_one ⟨⟨l⟩⟩ c i).mp ha) fun k z w => hn k z ((StrLaws.subAt_one ⟨⟨l⟩⟩ c k).mpr w)
   have e2 : strSub ⟨⟨l⟩⟩ 0 i = S (rpN c l) := by
    rw [e1]
    have := StrLaws.strSub_toList ⟨⟨l⟩⟩ 0 i
    rw [Nat.sub_zero, List.drop_zero] at this
    show (⟨_⟩ : Str) = ⟨⟨l.take i⟩⟩
    congr 1
    exact Array.toList_inj.mp this
   dsimp only
   rw [e2]
   exact fin [c] (cs (strSub ⟨⟨l⟩⟩ (i + 1) l.length)) (s.toks + 1 + 1) 0 s.toks t' (s.toks + 1)
 ·exact h.elim
end
end L2
namespace L2
open PySem PyProof.Rows
section
variable {prog : Program} {w : World} {A : Around} {E : Value -> Shared -> Prop} {s : Shared} {it d : Addr} {i ep : Nat} {od : Obj} {es : Array DictEntry}
theorem wz {Q : Value -> Shared -> Prop} (lo : (d == sysModules) = false) (ho : s.heap.get? d = some od) (ex : od.ExactDict) (hd : od.data = .dict es ep)
 (q : Q (.ref s.heap.objs.size) { s with heap := s.heap.push { cls := .type "dict_keyiterator", data := .fields #[.ref d, .int 0 0, .int es.size 0, .int ep 0] } }) : wpAny (model prog w) A (pyIter (.ref d)) Q E s := by
 have ty : s.TypeIs (.ref d) "dict" := ⟨od, ho, ex.1⟩
 refine wpAny_pyIter_slot ty F.slot_dict_iter (wpAny_call_entry F.slot_dict_iter ty F.entry_dict_iter ?_ (F.args_dict_iter_1 _))
 unfold Builtin.«dict.__iter__» Builtin.Dict.dictSlotNone
 refine wpAny_bind (wpAny_bind (wpAny_notOrdered_dict ty ?_)); show wpAny _ _ (pure (Value.ref d)) _ _ s
 refine wpAny_pure ?_; show wpAny _ _ (Builtin.Dict.showsAll d >>= _) _ _ s
 unfold Builtin.Dict.showsAll; rw [if_neg (by rw [lo]; exact Bool.false_ne_true)]
 refine wpAny_bind (wpAny_pure (wpAny_bind (wpAny_dictEntries ho hd (wpAny_bind (wpAny_dictEpoch ho hd ?_)))))
 refine wpAny_bind (wpAny_newObj_type (wpAny_pure ⟨_, rfl, "dict_keyiterator", _, ⟨_, Heap.get?_push_size _ rfl, rfl⟩, F.slot_dict_keyiterator_next.lookup, by simpa [rawInt] using q⟩))
theorem DK {e : DictEntry} {Q : Option Value -> Shared -> Prop} (hi : s.heap.IsKeyIter it d i es.size ep) (hod : s.heap.get? d = some od) (hdd : od.data = .dict es ep) (hx : es[i]? = some e)
 (q : ∀ h', h'.IsKeyIter it d (i + 1) es.size ep -> Heap.SameBut it s.heap h' -> Q (some e.key) { s with heap := h' }) : wpAny (model prog w) A (pyNext (.ref it)) Q E s := by
 obtain ⟨o, ho, hc, hd⟩ := id hi
 have ty := hi.typeIs
 unfold pyNext
 refine wpAny_bind (wpAny_attempt (wpAny_callSpecial?_slot (name := Str.ofString "__next__") ty F.slot_dict_keyiterator_next (wpAny_call_entry F.slot_dict_keyiterator_next ty F.entry_dict_keyiterator_next ?_ (F.args_dict_keyiterator_next_1 _))))
 refine wpAny_bind (wpAny_pure (wpAny_bind (wpAny_bind ?_)))
 first | refine wpAny_bind (wpAny_typeNameOfWhole_keyiter ty (wpAny_pure (wpAny_bind (wpAny_fieldsOf ho hd ?_)))) | refine wpAny_bind (wpAny_typeNameOf_keyiter ty (wpAny_pure (wpAny_bind (wpAny_fieldsOf ho hd ?_))))
 simp only [show Builtin.Dict_items.ownsTuple "dict_keyiterator" = false by decide, Bool.false_eq_true, if_false]
 show wpAny _ _ (if (Value.ref d == Value.none) = true then _ else _) _ _ s; rw [if_neg (show ¬ ((Value.ref d == Value.none) = true) from Bool.false_ne_true)]
 refine wpAny_bind (wpAny_pure (wpAny_bind (wpAny_dictEntries hod hdd ?_))); rw [if_neg (by simp)]
 refine wpAny_bind (wpAny_pure (wpAny_bind (wpAny_dictEpoch hod hdd ?_))); rw [if_neg (by simp)]
 refine wpAny_pure ?_
 have lt : i < es.size := (Array.getElem?_eq_some_iff.mp hx).1
 have ee : es[i] = e := (Array.getElem?_eq_some_iff.mp hx).2
 simp only [show ¬ ((i : Int) < 0) from by omega, if_false, Int.toNat_natCast, Array.getElem?_eq_getElem lt]; refine wpAny_bind ?_
 first | refine wpAny_bind (wpAny_typeNameOfWhole_keyiter ty (wpAny_pure (wpAny_bind (wpAny_isOneOf_keyiter ty ?_)))) | refine wpAny_bind (wpAny_typeNameOf_keyiter ty (wpAny_pure (wpAny_bind (wpAny_isOneOf_keyiter ty ?_))))
 show wpAny _ _ (setField (.ref it) 1 (rawInt ((i : Int) + 1)) >>= _) _ _ s; refine wpAny_bind (wpAny_setField ho hd (by simp) ?_)
 have hi' : (s.heap.update it (Obj.mapFields (·.setIfInBounds 1 (rawInt ((i : Int) + 1))))).IsKeyIter it d (i + 1) es.size ep := ⟨_, Heap.get?_update_self _ ho (Obj.isFreed_of_fields (Obj.data_mapFields hd _)), (Obj.cls_mapFields ..).trans hc, by rw [Obj.data_mapFields hd]; simp [rawInt]⟩
 refine wpAny_bind (wpAny_holding (wpAny_bind (wpAny_isOneOf_keyiter (s := { s with heap := s.heap.update it (Obj.mapFields (·.setIfInBounds 1 (rawInt ((i : Int) + 1)))) }) hi'.typeIs ?_)))
 show wpAny _ _ (pure es[i].key) _ _ _; rw [ee]
 exact wpAny_pure (wpAny_pure ⟨_, rfl, wpAny_pure (q _ hi' (Heap.SameBut.update ..))⟩)
theorem E5 {Q : Option Value -> Shared -> Prop} (hh : A.handled = none) (hi : s.heap.IsKeyIter it d i es.size ep) (hod : s.heap.get? d = some od) (hdd : od.data = .dict es ep) (hx : es.size <= i)
 (q : ∀ h', Heap.ExtBut it s.heap h' -> Q none { s with heap := h' }) : wpAny (model prog w) A (pyNext (.ref it)) Q E s := by
 obtain ⟨o, ho, hc, hd⟩ := id hi
 have ty := hi.typeIs
 unfold pyNext
 refine wpAny_bind (wpAny_attempt (wpAny_callSpecial?_slot (name := Str.ofString "__next__") ty F.slot_dict_keyiterator_next (wpAny_call_entry F.slot_dict_keyiterator_next ty F.entry_dict_keyiterator_next ?_ (F.args_dict_keyiterator_next_1 _))))
 refine wpAny_bind (wpAny_pure (wpAny_bind (wpAny_bind ?_)))
 first | refine wpAny_bind (wpAny_typeNameOfWhole_keyiter ty (wpAny_pure (wpAny_bind (wpAny_fieldsOf ho hd ?_)))) | refine wpAny_bind (wpAny_typeNameOf_keyiter ty (wpAny_pure (wpAny_bind (wpAny_fieldsOf ho hd ?_))))
 simp only [show Builtin.Dict_items.ownsTuple "dict_keyiterator" = false by decide, Bool.false_eq_true, if_false]
 show wpAny _ _ (if (Value.ref d == Value.none) = true then _ else _) _ _ s; rw [if_neg (show ¬ ((Value.ref d == Value.none) = true) from Bool.false_ne_true)]
 refine wpAny_bind (wpAny_pure (wpAny_bind (wpAny_dictEntries hod hdd ?_))); rw [if_neg (by simp)]
 refine wpAny_bind (wpAny_pure (wpAny_bind (wpAny_dictEpoch hod hdd ?_))); rw [if_neg (by simp)]
 refine wpAny_pure ?_
 simp only [show ¬ ((i : Int) < 0) from by omega, if_false, Int.toNat_natCast, Array.getElem?_eq_none hx]; refine wpAny_bind ?_
 first | refine wpAny_bind (wpAny_typeNameOfWhole_keyiter ty (wpAny_pure ?_)) | refine wpAny_bind (wpAny_typeNameOf_keyiter ty (wpAny_pure ?_))
 show wpAny _ _ (setField (.ref it) 0 .none >>= _) _ _ s; refine wpAny_bind (wpAny_setField ho hd (by simp) ?_)
 show wpAny _ _ (newExc (.type "StopIteration") [] >>= _) _ _ _; refine wpAny_bind ?_
 simp only [newExc, newTuple]; refine wpAny_bind (wpAny_newObj_type ?_ (by size_fits))
 refine wpAny_bind (m := firstArgMember _ _) (wpAny_of_eq (a := Value.none) (by first | rfl | (simp only [firstArgMember]; rfl)) (wpAny_newObj_type ?_ (by size_fits)))
 simp only [raiseNew]; refine wpAny_bind (wpAny_handled ?_)
 rw [show A.in1.handled = none from hh]; refine wpAny_bind (wpAny_pure (wpAny_throw ?_))
 refine wpAny_bind (wpAny_isInstance (T := "StopIteration") (b := true) ⟨_, Heap.get?_push_size _ rfl, rfl⟩ isSubtype_stop (wpAny_pure (q _ (((Heap.SameBut.update ..).extBut.push _).push _))))
end
abbrev Pt := List Nat × List Nat
def ltP (a b : Pt) : Prop := a.1 < b.1 \/ (a.1 = b.1 /\ a.2 < b.2)
instance (a b : Pt) : Decidable (ltP a b) := by unfold ltP; infer_instance
namespace Srt
def HI (h : Heap) (p : Addr) (e : Pt) : Prop := ∃ (o : Obj) (t u : Tok) (n : Nat), h.get? p = some o /\ o.cls = .type "tuple" /\ o.data = .seq #[.str ⟨⟨e.1⟩⟩ t, .str ⟨⟨e.2⟩⟩ u] n
section
variable {prog : Program} {w : World} {A : Around} {E : Value -> Shared -> Prop} {s : Shared}
end
end Srt
section
variable {X : Cx} {pins : List (Addr × Obj)} {σ : St} {H : Hp} {s : Shared}
end
def CEl (J : It) (n : Nat) (g : TG) (ks : List Nat) (tt : TT) (te : TE) (σ : St) (H1 : Hp) (Q : VK) : Prop := ∀ D, H1 D = none -> ∃ W : Nat -> Nat -> List V -> Hp -> Prop, (∃ m, W 0 m [] (upd H1 D (.lst []))) /\
 ∀ i m ys H2, W i m ys H2 -> H2 D = some (.lst ys) /\ ((J.stop i H2 /\ Q (.ref D) H2) \/ (J.go i H2 /\ ∀ x H3, J.yld i H2 x H3 -> ∀ zs : St, zs.length = n ->
  g x (zs ++ ks.map fun k => (σ[k]?).join) H3 fun σ4 H4 => (∃ zs4 : St, zs4.length = n /\ σ4 = zs4 ++ ks.map fun k => (σ[k]?).join) /\
   tt σ4 H4 fun b H5 => if b = true then te σ4 H5 fun y H6 => H6 D = some (.lst ys) /\ ys.length < sizeLine /\ ∃ m', m' < m /\ W (i + 1) m' (ys ++ [y]) (upd H6 D (.lst (ys ++ [y])))
    else ∃ m', m' < m /\ W (i + 1) m' ys H5))
theorem Hj {K : W.Frag} {tl : TE} {n : Nat} {g : TG} {ks : List Nat} {tt : TT} {te : TE} {σ : St} {H : Hp} {Q : VK} (h : tl σ H fun x H1 => ∃ a, x = .ref a /\ (∃ xs, SqL K H1 a xs) /\ CEl (Itl K a) n g ks tt te σ H1 Q) : hE (Aq K tl) n g ks tt te σ H Q := h
theorem GA {K : W.Frag} {n : Nat} {g : TG} {ks : List Nat} {tt : TT} {te : TE} {σ : St} {H1 : Hp} {Q : VK} (a : Addr) (xs : List V) (P : Addr -> Nat -> List V -> Hp -> Prop) (hz : xs.length < sizeLine)
 (h0 : ∀ D, H1 D = none -> P D 0 [] (upd H1 D (.lst []))) (hD : ∀ D i ys H', P D i ys H' -> H' D = some (.lst ys) /\ SqL K H' a xs /\ ys.length <= i)
 (hs : ∀ D i y ys H' (zs : St) (N1 : VK) (N0 : Hp -> Prop), xs[i]? = some y -> P D i ys H' -> zs.length = n -> (∀ v H6, H6 D = some (.lst ys) -> P D (i + 1) (ys ++ [v]) (upd H6 D (.lst (ys ++ [v]))) -> N1 v H6) -> (∀ H6, P D (i + 1) ys H6 -> N0 H6) ->
  g y (zs ++ ks.map fun k => (σ[k]?).join) H' fun σ4 H4 => (∃ zs4 : St, zs4.length = n /\ σ4 = zs4 ++ ks.map fun k => (σ[k]?).join) /\ tt σ4 H4 fun b H5 => if b = true then te σ4 H5 N1 else N0 H5)
 (hd : ∀ D ys H', P D xs.length ys H' -> Q (.ref D) H') : CEl (Itl K a) n g ks tt te σ H1 Q := by
 intro D hDn
 refine ⟨fun i m ys H' => m = xs.length - i /\ i <= xs.length /\ P D i ys H', ⟨_, rfl, Nat.zero_le _, h0 D hDn⟩, ?_⟩
 rintro i m ys H' ⟨rfl, hi, p⟩
 obtain ⟨d1, d2, d3⟩ := hD D i ys H' p
 refine ⟨d1, ?_⟩
 rcases Nat.lt_or_ge i xs.length with lt | ge
 ·refine .inr ⟨⟨xs, xs[i], d2, by simp [lt]⟩, ?_⟩
  rintro x H3 ⟨rfl, hx⟩ zs hzs
  exact hs D i x ys _ zs _ _ (hx xs d2) p hzs (fun v H6 h6 p6 => ⟨h6, by omega, _, by omega, rfl, lt, p6⟩) fun H6 p6 => ⟨_, by omega, rfl, lt, p6⟩
 ·obtain rfl : i = xs.length := Nat.le_antisymm hi ge
  exact .inl ⟨⟨xs, d2, Nat.le_refl _⟩, hd D ys H' p⟩
section
variable {X : Cx} {pos : Pos}
end
open Lean Meta Simp
def D4 : List Name := Dx ++ [`L2.tDNewT, `L2.rExtT, `L2.tPar3]
def DV : List Name := DU ++ [`L2.gSortDT, `L2.gRp]
def Eg (e : Lean.Expr) : MetaM (Option Lean.Expr) := do
 let .const n us := e.getAppFn | return none
 let fr := FK n || D4.contains n
 unless fr || DV.contains n do return none
 let some (.defnInfo d) := (<- getEnv).find? n | return none
 let v := d.value.instantiateLevelParams d.levelParams us
 if e.getAppNumArgs < v.getNumHeadLambdas then return none
 let b := v.beta e.getAppArgs
 if fr then return some b
 match <- reduceMatcher? b with
 | .reduced r => return some r
 | .notMatcher => return some b
 | _ => return none
dsimproc_decl B9 (_) := fun e => do
 match <- Eg e with
 | some r => return .visit r
 | none => return .continue
end L2
namespace K19
open PySem L2
structure Row where
 pa : List Nat
 cu : List Nat
 am : Int
def sg (a s : Int) (k : Nat) : Nat := 97 + ((a + s * k) % 26).toNat
def Hv (d : List (Pt × Int)) (k : Pt) (v : Int) : List (Pt × Int) := if (d.any fun e => decide (e.1 = k)) = true then d.map (fun e => if e.1 = k then (e.1, v) else e) else d ++ [(k, v)]
def He (d : List (Pt × Int)) (k : Pt) : Option Int := (d.find? fun e => decide (e.1 = k)).map (·.2)
def stp (d : List (Pt × Int)) (r : Row) : List (Pt × Int) := Hv d (r.pa, r.cu) ((He d (r.pa, r.cu)).getD 0 + r.am)
def dk (rs : List Row) : List (Pt × Int) := rs.foldl stp []
def val (rs : List Row) (k : Pt) : Int := (He (dk rs) k).getD 0
def res (rs : List Row) (out : List Pt) : List Row := (out.filter fun k => decide (val rs k ≠ 0)).map fun k => ⟨k.1, k.2, val rs k⟩
end K19
namespace L2
open PySem PyProof.Rows
theorem Ci {H : Hp} {a : Addr} {o : HO} (h : H a = some o) : upd H a o = H := by
 funext b
 by_cases e : b = a
 ·subst e; rw [ae, h]
 ·rw [ar e]
def isD : HO -> Bool
 | .dK _ => true
 | .dT _ => true
 | _ => false
def iH : HO -> Nat
 | .dK kvs => kvs.length
 | .dT kvs => kvs.length
 | _ => 0
def uQ (H : Hp) (u : HO) (i : Nat) (x v : V) : Prop := match u with
 | .dK kvs => ∃ k, kvs[i]? = some (k, v) /\ x = kV k
 | .dT kvs => ∃ k q, kvs[i]? = some (k, v) /\ x = .ref q /\ H q = some (.tup (k.map kV))
 | _ => False
theorem DM {P : Program} {w : World} {k : Key} {u : Value} (h : (cP P w).is k u = true) : RelV (kV k) u := by
 cases k with
 | inl i => obtain ⟨t, z⟩ := Value.isInt_shape h; exact ⟨t, z⟩
 | inr x => obtain ⟨t, z⟩ := Value.isStrOf_shape h; exact ⟨t, z⟩
theorem EG {α β : Type} {R : α -> β -> Prop} {xs : List α} {ys : List β} (h : Paired R xs ys) : ∀ {i : Nat} {y : β}, ys[i]? = some y -> ∃ x, xs[i]? = some x /\ R x y := by
 induction h with
 | nil => intro i y e; simp at e
 | cons r _ ih =>
  intro i y e
  cases i with
  | zero => cases e; exact ⟨_, rfl, r⟩
  | succ i => exact ih (i := i) (by simpa using e)
section
variable {X : Cx} {pins : List (Addr × Obj)} {σ : St} {H : Hp} {s : Shared} {a : Addr}
theorem zH (I : Inv X pins σ H s) {u : HO} (hu : isD u = true) (x : ObjOk X.prog X.w H s.heap a u) : ∃ (o : Obj) (es : Array DictEntry) (ep : Nat), s.heap.get? a = some o /\ o.ExactDict /\ o.data = .dict es ep /\ (a == sysModules) = false /\ es.size = iH u /\
 ∀ i e, es[i]? = some e -> ∃ x v, uQ H u i x v /\ RelV x e.key /\ RelV v e.val := by
 cases u with
 | dK kvs =>
  obtain ⟨z, lo, vs, rel, o, es, ep, ho, ex, hd, hk, hp, hn⟩ := x
  have hl : es.size = vs.length := by rw [<- hp.length]; simp
  refine ⟨o, es, ep, ho, ex, hd, lo, by rw [hl]; exact rel.length.symm, fun i e he => ?_⟩
  have hi : i < vs.length := by rw [<- hl]; exact (Array.getElem?_eq_some_iff.mp he).1
  obtain ⟨p1, p2⟩ := hp.get? (e := e) (k := vs[i].1) (v := vs[i].2) (by rw [Array.getElem?_toList]; exact he) (by simp [hi])
  obtain ⟨⟨k, v⟩, hx, e1, e2⟩ := EG rel (y := vs[i]) (List.getElem?_eq_getElem hi)
  have e1' : k = vs[i].1 := e1
  refine ⟨kV k, v, ⟨k, hx, rfl⟩, by rw [e1']; exact DM p1, by rw [p2]; exact e2⟩
 | dT kvs =>
  obtain ⟨z, lo, xs, rel, o, es, ep, ho, ex, hd, he, hn⟩ := x
  have hl : es.size = xs.length := size_of_entries he
  refine ⟨o, es, ep, ho, ex, hd, lo, by rw [hl]; exact (Paired.length rel).symm, fun i e h => ?_⟩
  rw [entry_at he i] at h
  obtain ⟨q, hq, rfl⟩ := Option.map_eq_some_iff.mp h
  obtain ⟨⟨k, v⟩, hx, e1, e2, e3⟩ := EG rel hq
  exact ⟨.ref q.2.1, v, ⟨k, q.2.1, hx, rfl, e2⟩, rfl, e3⟩
 | _ => cases hu
theorem Inv.freeze (I : Inv X pins σ H s) {u : HO} (hu : isD u = true) (e : Rd H a u) : ∃ (o : Obj) (es : Array DictEntry) (ep : Nat), s.heap.get? a = some o /\ o.ExactDict /\ o.data = .dict es ep /\ (a == sysModules) = false /\ es.size = iH u /\ (H a = some u \/ H a = some (.frz o u)) /\ Inv X pins σ (upd H a (.frz o u)) s := by
 have x := CN I.hok e
 obtain ⟨o, es, ep, ho, ex, hd, lo, hz, _⟩ := zH I hu x
 rcases e with e | ⟨o', e⟩
 ·refine ⟨o, es, ep, ho, ex, hd, lo, hz, .inl e, ?_⟩
  have no : ∀ b w, H b = some w -> isD w = false -> b ≠ a := fun b w q n z => by rw [z, e] at q; cases q; rw [hu] at n; cases n
  exact I.write (x := a) (e := a) (t' := s.toks) (h' := s.heap) (by rw [e]; cases u <;> first | exact True.intro | cases hu) (.inl rfl) (fun _ _ _ q => q) ⟨o, ho⟩ ⟨ho, x.stay (fun _ _ _ q => q) (fun c z => by rw [ar (no c _ z rfl)]; exact z) fun c xs z => by rw [ar (no c _ z rfl)]; exact z⟩
 ·have h1 := (show ObjOk X.prog X.w H s.heap a (.frz o' u) from I.hok a _ e).1
  rw [ho] at h1; cases h1
  refine ⟨o, es, ep, ho, ex, hd, lo, hz, .inr e, ?_⟩
  rw [Ci e]; exact I
theorem Inv.thaw (I : Inv X pins σ H s) {o : Obj} {u : HO} (e : H a = some (.frz o u)) (nf : ∀ o' u', X.H₀ a ≠ some (.frz o' u')) : Inv X pins σ (upd H a u) s := by
 have na : ∀ b, H b = none -> b ≠ a := fun b n z => by rw [z, e] at n; cases n
 have no : ∀ b w, H b = some w -> (∀ o x, w ≠ .frz o x) -> b ≠ a := fun b w q n z => by rw [z, e] at q; cases q; exact n _ _ rfl
 have own : ∀ {d : Addr} c, H c = some (.own d) -> upd H a u c = some (.own d) := fun c z => by rw [ar (no c _ z (by intro _ _ y; cases y))]; exact z
 have tup : ∀ c xs, H c = some (.tup xs) -> upd H a u c = some (.tup xs) := fun c xs z => by rw [ar (no c _ z (by intro _ _ y; cases y))]; exact z
 refine ⟨I.ok, I.os, I.bare, ⟨I.base.keep, I.base.slot, fun b ob q n hx => ?_, I.base.there, fun b xs q => tup b xs (I.base.tups b xs q), fun b ob x q => ?_, fun b ps q => ?_⟩, I.loc, I.cell, ?_, fun x c ec => ?_, fun p hp => ?_, fun b ob q => ?_, I.len⟩
 ·have h := I.base.free b ob q n hx
  rw [ar (na b h)]; exact h
 ·have h := I.base.frzs b ob x q
  by_cases eb : b = a
  ·subst eb; exact absurd q (nf _ _)
  ·rw [ar eb]; exact h
 ·obtain ⟨m, h⟩ := I.base.tbls b ps q
  exact ⟨m, by rw [ar (no b _ h (by intro _ _ z; cases z))]; exact h⟩
 ·rw [ar (na _ I.free)]; exact I.free
 ·have h := I.freeC x c ec
  rw [ar (na _ h)]; exact h
 ·obtain ⟨p1, p2, p3⟩ := I.pin p hp
  exact ⟨p1, by rw [ar (na _ p2)]; exact p2, p3⟩
 ·by_cases eb : b = a
  ·subst eb
   rw [ae] at q; cases q
   exact (show ObjOk X.prog X.w H s.heap b (.frz o u) from I.hok _ _ e).2.stay (fun _ _ _ z => z) own tup
  ·rw [ar eb] at q
   exact (I.hok b ob q).stay (fun _ _ _ z => z) own tup
def Th (H H1 : Hp) (P : Hp -> Prop) : Prop := ∃ a o u, H1 a = some (.frz o u) /\ ((H a = some u /\ isD u = true /\ P (upd H1 a u)) \/ (H a = some (.frz o u) /\ P H1))
theorem Inv.th {H1 : Hp} {s1 : Shared} {σ1 : St} {P : Hp -> Prop} (I : Inv X pins σ H s) (I1 : Inv X pins σ1 H1 s1) (h : Th H H1 P) : ∃ H2, Inv X pins σ1 H2 s1 /\ P H2 := by
 obtain ⟨a, o, u, e1, ⟨e2, hu, q⟩ | ⟨e2, q⟩⟩ := h
 ·exact ⟨_, I1.thaw e1 (fun o' u' z => by rw [I.base.frzs _ _ _ z] at e2; cases e2; cases hu), q⟩
 ·exact ⟨_, I1, q⟩
def EH (te : TE) : TE := fun σ H Q => te σ H fun v H1 => Th H H1 (Q v)
theorem Em {e : Expr} {te : TE} (he : PE X e te) : PE X e (EH te) := by
 intro pins s σ H Q I h
 refine thn (he pins s σ H _ I h) fun u s1 ⟨v, H1, I1, r, q⟩ => ?_
 obtain ⟨H2, I2, q2⟩ := I.th I1 q
 exact ⟨v, H2, I2, r, q2⟩
def CO (ts : TS) : TS := fun D σ H => ts { nx := fun σ' H1 => Th H H1 (D.nx σ'), rt := fun v H1 => Th H H1 (D.rt v), bk := fun σ' H1 => Th H H1 (D.bk σ'), ct := fun σ' H1 => Th H H1 (D.ct σ') } σ H
theorem zS {st : Stmt} {ts : TS} (h : PS X st ts) : PS X st (CO ts) := by
 intro pins s σ H D I q
 refine thn (h pins s σ H _ I q) fun f s1 hf => ?_
 cases f with
 | next =>
  obtain ⟨σ', H', I', z⟩ := hf
  obtain ⟨H2, I2, q2⟩ := I.th I' z
  exact ⟨σ', H2, I2, q2⟩
 | brk =>
  obtain ⟨σ', H', I', z⟩ := hf
  obtain ⟨H2, I2, q2⟩ := I.th I' z
  exact ⟨σ', H2, I2, q2⟩
 | cont =>
  obtain ⟨σ', H', I', z⟩ := hf
  obtain ⟨H2, I2, q2⟩ := I.th I' z
  exact ⟨σ', H2, I2, q2⟩
 | ret u =>
  obtain ⟨v, σ', H', I', r, z⟩ := hf
  obtain ⟨H2, I2, q2⟩ := I.th I' z
  exact ⟨v, σ', H2, I2, r, q2⟩
def Itk (a : Addr) (o : Obj) (u : HO) : It :=
 ⟨fun i H => i < iH u /\ H a = some (.frz o u), fun i H x H' => H' = H /\ ∃ v, uQ H u i x v, fun i H => iH u <= i /\ H a = some (.frz o u)⟩
theorem vL (I : Inv X pins σ H s) {o : Obj} {es : Array DictEntry} {ep : Nat} {u : HO} (hu : isD u = true) (hd : o.data = .dict es ep) (e : H a = some (.frz o u)) : s.heap.get? a = some o /\ es.size = iH u /\ ∀ i e, es[i]? = some e -> ∃ x v, uQ H u i x v /\ RelV x e.key /\ RelV v e.val := by
 obtain ⟨ho, x⟩ := (show ObjOk X.prog X.w H s.heap a (.frz o u) from I.hok a _ e)
 obtain ⟨o', es', ep', ho', ex, hd', lo, hz, h⟩ := zH I hu x
 rw [ho] at ho'; cases ho'
 rw [hd] at hd'
 injection hd' with h2 h3
 subst h2
 exact ⟨ho, hz, h⟩
theorem AU {P : Program} {w : World} {K : W.Frag} {tg : Expr} (a it : Addr) (o : Obj) (es : Array DictEntry) (ep : Nat) (u : HO) (hu : isD u = true) (hd : o.data = .dict es ep) : wG P w K tg (Itk a o u) [it] it (fun i h => h.IsKeyIter it a i es.size ep) where
 mem := by simp
 obj := fun i h st b hb => by
  have e : b = it := by simpa using hb
  subst e
  obtain ⟨o, e, c, d⟩ := st
  exact ⟨o, e, fun v z => by rw [d] at z; cases z⟩
 keep := fun i h h' st k => st.at fun o e => k it (by simp) o e
 item := by
  intro X hP hw hK hc i pins s σ H E I hf st hg
  subst hP hw hK
  obtain ⟨hi, hq⟩ := hg
  obtain ⟨ho, hz, hen⟩ := vL I hu hd hq
  obtain ⟨f0, f1, f2, f3, f4, f5⟩ := hf it (by simp)
  have hx : es[i]? = some es[i] := by simp [show i < es.size by omega]
  obtain ⟨x, v, en, rx, rv⟩ := hen i _ hx
  refine DK st ho hd hx fun h' st' sb => ?_
  have I1 : Inv X pins σ H { s with heap := h' } := I.turned (t' := s.toks) (fun b o hb e => (sb.2 b hb).trans e) f0 f1 f3 f4 f5
  obtain ⟨oi, e, c, d⟩ := id st'
  exact ⟨_, rfl, rm (s := { s with heap := h' }) e c d (by decide) ⟨x, H, I1, rx, ⟨rfl, v, en⟩, st', fun b hb => (hf b hb).1⟩⟩
 done := by
  intro X hP hw hK hc i pins s σ H E I hf st hg
  subst hP hw hK
  obtain ⟨hi, hq⟩ := hg
  obtain ⟨ho, hz, hen⟩ := vL I hu hd hq
  obtain ⟨f0, f1, f2, f3, f4, f5⟩ := hf it (by simp)
  exact E5 (I.ok.hd hc) st ho hd (by omega) fun h' eb => ⟨rfl, I.turned (t' := s.toks) (fun b o hb e => eb b o hb e) f0 f1 f3 f4 f5⟩
 self := fun _ _ _ _ _ st h => wpAny_pyIter_keyiter st h
def Ch (td : TE) : TI := fun σ H R => td σ H fun x H1 => ∃ b u, x = .ref b /\ isD u = true /\ Rd H1 b u /\ ∀ o, (H1 b = some u \/ H1 b = some (.frz o u)) -> R (Itk b o u) (upd H1 b (.frz o u))
theorem Ai {tg l : Expr} {td : TE} (hl : PE X l td) : PI X tg l (Ch td) := by
 intro pins s σ H R I h
 refine thn (hl pins s σ H _ I h) fun v s1 ⟨x, H1, I1, rx, b, u, ex, hu, hr, q⟩ => ?_
 subst ex
 cases (show v = Value.ref b from rx)
 obtain ⟨o, es, ep, ho, ex, hd, lo, hz, hor, I2⟩ := I1.freeze hu hr
 refine wz lo ho ex hd ?_
 refine ⟨s1.heap.objs.size, [s1.heap.objs.size], _, Itk b o u, _, rfl, I2.kept (t' := s1.toks) (fun c ob e => Heap.get?_push_of_some _ e), AU b _ o es ep u hu hd, ⟨_, Heap.get?_push_size _ rfl, rfl, rfl⟩, fun c hc => ?_, q o hor⟩
 rw [List.mem_singleton.mp hc]
 exact I2.fpOk (Nat.le_refl _) (I2.hok.fresh (Nat.le_refl _))
end
theorem GV {td : TE} {n : Nat} {g : TG} {ks : List Nat} {tt : TT} {te : TE} {σ : St} {H : Hp} {Q : VK} (h : td σ H fun x H1 => ∃ b u, x = .ref b /\ isD u = true /\ Rd H1 b u /\ ∀ o, (H1 b = some u \/ H1 b = some (.frz o u)) -> CEl (Itk b o u) n g ks tt te σ (upd H1 b (.frz o u)) fun v H2 => Th H H2 (Q v)) : EH (hE (Ch td) n g ks tt te) σ H Q := h
theorem GG {n : Nat} {g : TG} {ks : List Nat} {tt : TT} {te : TE} {σ : St} {H1 : Hp} {Q : VK} (b : Addr) (o : Obj) (u : HO) (P : Addr -> Nat -> List V -> Hp -> Prop) (hz : iH u < sizeLine)
 (h0 : ∀ D, H1 D = none -> P D 0 [] (upd H1 D (.lst []))) (hD : ∀ D i ys H', P D i ys H' -> H' D = some (.lst ys) /\ H' b = some (.frz o u) /\ ys.length <= i)
 (hs : ∀ D i y v ys H' (zs : St) (N1 : VK) (N0 : Hp -> Prop), i < iH u -> uQ H' u i y v -> P D i ys H' -> zs.length = n -> (∀ v H6, H6 D = some (.lst ys) -> P D (i + 1) (ys ++ [v]) (upd H6 D (.lst (ys ++ [v]))) -> N1 v H6) -> (∀ H6, P D (i + 1) ys H6 -> N0 H6) ->
  g y (zs ++ ks.map fun k => (σ[k]?).join) H' fun σ4 H4 => (∃ zs4 : St, zs4.length = n /\ σ4 = zs4 ++ ks.map fun k => (σ[k]?).join) /\ tt σ4 H4 fun b H5 => if b = true then te σ4 H5 N1 else N0 H5)
 (hd : ∀ D ys H', P D (iH u) ys H' -> Q (.ref D) H') : CEl (Itk b o u) n g ks tt te σ H1 Q := by
 intro D hDn
 refine ⟨fun i m ys H' => m = iH u - i /\ i <= iH u /\ P D i ys H', ⟨_, rfl, Nat.zero_le _, h0 D hDn⟩, ?_⟩
 rintro i m ys H' ⟨rfl, hi, p⟩
 obtain ⟨d1, d2, d3⟩ := hD D i ys H' p
 refine ⟨d1, ?_⟩
 rcases Nat.lt_or_ge i (iH u) with lt | ge
 ·refine .inr ⟨⟨lt, d2⟩, ?_⟩
  rintro x H3 ⟨rfl, v, hx⟩ zs hzs
  exact hs D i x v ys _ zs _ _ lt hx p hzs (fun v H6 h6 p6 => ⟨h6, by omega, _, by omega, rfl, lt, p6⟩) fun H6 p6 => ⟨_, by omega, rfl, lt, p6⟩
 ·obtain rfl : i = iH u := Nat.le_antisymm hi ge
  exact .inl ⟨⟨Nat.le_refl _, d2⟩, hd D ys H' p⟩
section
variable {X : Cx} {pos : Pos}
def Ck (K : W.Frag) (n : Nat) (t : TGs) : TG := fun v σ H Q => ∃ a xs, v = .ref a /\ SqL K H a xs /\ xs.length = n /\ t xs σ H Q
theorem Eh (K : W.Frag) {es : List Expr} {k : Nat} {t : TGs} {n : Nat} (hc : X.calm = true) (h : PGs X es t) (hK : X.K = K := by rfl)
 (hn : (assignEach es X.env).length = n := by rfl) (hst : (assignEach es X.env).findIdx? (·.1) = none := by rfl) : PG X (.Tuple es k pos) (Ck K n t) := by
 subst hK
 intro pins s σ H v u Q I r hw
 obtain ⟨a, xs, e1, hq, hl, hw⟩ := hw
 subst e1
 cases r
 obtain ⟨its, rv, pl, hz⟩ := I.list hq
 have hl2 := rv.length
 rw [PyProof.Rows.assign_Tuple]
 refine wpAny_bind (wpAny_standAt ?_)
 have hs : (assignEach es X.env).length = its.toArray.size := by rw [hn, List.size_toArray]; omega
 unfold unpack
 rw [hs, hst]
 refine wpAny_bind (wpAny_holding (PySem.W.kun_itemsOf (I.ok.hd hc) pl.isList fun h' hx => ?_))
 exact h pins _ σ H xs _ Q (I.kept (t' := s.toks) fun b o e => hx b o (Nat.ne_of_lt (Heap.lt_size e)) e) (by simpa using rv) hw
end
section
variable {X : Cx}
def AI : Value -> Bool
 | .bool b => b
 | _ => false
def Hd (K : W.Frag) : V -> List V -> Hp -> VK -> Prop := fun x vs H Q => ∃ (p : Addr) (bs : List Bool), x = .ref p /\ vs = [.bl true] /\ SqL K H p (bs.map V.bl) /\ Q (.int (bs.countP id : Nat)) H
theorem sx {A : Around} {s : Shared} {bs : List Bool} {its : List Value} (r : Vals (bs.map V.bl) its) : ∀ y, y ∈ its.toArray -> SeqAt.EqAt A s y (.bool true) (AI y) := fun y hy => by
 obtain ⟨j, hj⟩ := List.getElem?_of_mem (by simpa using hy)
 obtain ⟨b, _, rfl⟩ := (oG r).get j y hj
 have := SeqAt.EqAt.bool_bool (A := A) (s := s) b true
 rwa [show (b == true) = AI (.bool b) by cases b <;> rfl] at this
theorem xA : ∀ {bs : List Bool} {its : List Value}, Vals (bs.map V.bl) its -> its.countP AI = bs.countP id
 | [], _, .nil => rfl
 | b :: r, _, .cons e t => by
  cases (show _ = Value.bool b from e)
  rw [List.countP_cons, List.countP_cons, xA t]; rfl
theorem DE (K : W.Frag) (hK : X.K = K := by rfl) : MtM X "list.count" (Hd K) := by
 subst hK
 intro pins s σ H x vs v us Q I rx rv h
 obtain ⟨p, bs, rfl, rfl, hq, q⟩ := h
 cases rx
 obtain ⟨u, rfl, ru⟩ := rv.one
 cases (show u = Value.bool true from ru)
 obtain ⟨its, r, pl, hz⟩ := I.list hq
 obtain ⟨⟨oc, od, ot, os⟩, e, c, n, d⟩ := pl.isList
 simp only at c d
 subst c; subst d
 refine call_meets F.slot_list_count ⟨_, e, rfl⟩ F.entry_list_count (F.args_list_count_2 _ _) (SeqAt.list_countAt p its.toArray n od os (.bool true) AI) ⟨e, sx r, ?_⟩
 exact ⟨.int _, H, I.tok _, ⟨_, by rw [List.toList_toArray, xA r]⟩, q⟩
def GL (K : W.Frag) : V -> List V -> Hp -> VK -> Prop := fun x vs H Q => ∃ (p : Addr) (bs : List Bool) (j : Nat), x = .ref p /\ vs = [.bl true] /\ SqL K H p (bs.map V.bl) /\ bs[j]? = some true /\ (∀ i, i < j -> bs[i]? = some false) /\ Q (.int j) H
theorem vj : ∀ {bs : List Bool} {its : List Value}, Vals (bs.map V.bl) its -> ∀ {j : Nat} {b : Bool}, bs[j]? = some b -> ∃ h : j < its.length, AI its[j] = b
 | [], _, .nil, j, b, h => by simp at h
 | c :: r, _, .cons e t, j, b, h => by
  cases (show _ = Value.bool c from e)
  cases j with
  | zero => cases h; exact ⟨by simp, rfl⟩
  | succ j =>
   obtain ⟨h1, h2⟩ := vj t (j := j) (by simpa using h)
   exact ⟨by simp; omega, by simpa using h2⟩
theorem Ea (K : W.Frag) (hK : X.K = K := by rfl) : MtM X "list.index" (GL K) := by
 subst hK
 intro pins s σ H x vs v us Q I rx rv h
 obtain ⟨p, bs, j, rfl, rfl, hq, hj, hi, q⟩ := h
 cases rx
 obtain ⟨u, rfl, ru⟩ := rv.one
 cases (show u = Value.bool true from ru)
 obtain ⟨its, r, pl, hz⟩ := I.list hq
 obtain ⟨⟨oc, od, ot, os⟩, e, c, n, d⟩ := pl.isList
 simp only at c d
 subst c; subst d
 obtain ⟨jl, jt⟩ := vj r hj
 have hl := r.length
 refine call_meets F.slot_list_index ⟨_, e, rfl⟩ F.entry_list_index (F.args_list_index_2 _ _) (SeqAt.list_indexAt p its.toArray n od os (.bool true) AI j (by simpa using jl) (by have : sizeLine < 2 ^ 62 := (by rw [sizeLine_eq]; decide); omega) (by simpa using jt) fun m hm lt => ?_) ⟨e, sx r, ?_⟩
 ·obtain ⟨_, h2⟩ := vj r (hi m lt)
  simpa using h2
 ·exact ⟨.int _, H, I.tok _, ⟨_, rfl⟩, q⟩
end
end L2
namespace L2
open PySem
end L2
namespace L2
open PySem PySem.Spec PyProof.Rows
def Cu (K : W.Frag) (neg : Bool) : R2
 | x, .ref p, H, Q => ∃ ls : List (List Nat), (SqL K H p (ls.map T) \/ SqT K H p (ls.map T)) /\ (cy x = true \/ ∃ q ys, x = .ref q /\ (SqL K H q ys \/ SqT K H q ys)) /\ Q (.bl (neg ^^ inV x (ls.map T))) H
 | _, _, _, _ => False
theorem ma (ls : List (List Nat)) : (ls.map T).all cy = true := by
 rw [List.all_eq_true]; intro v m
 obtain ⟨l, _, rfl⟩ := List.mem_map.mp m; rfl
theorem DH (q : Addr) (ls : List (List Nat)) : inV (.ref q) (ls.map T) = false := by
 unfold inV
 rw [List.any_eq_false]
 intro v m
 obtain ⟨l, _, rfl⟩ := List.mem_map.mp m
 exact fun z => nomatch (show false = true from z)
section
variable {X : Cx}
theorem tH {A : Around} {s : Shared} {q : Addr} (hu : A.units < cLine) (hq : (∃ its, s.heap.IsList q its) \/ ∃ its, s.heap.IsTuple q its) : ∀ {ls : List (List Nat)} {us : List Value}, Vals (ls.map T) us -> ∀ u ∈ us, SeqAt.EqAt A s u (.ref q) false
 | [], _, .nil => fun u hu => by cases hu
 | l :: ls, u :: us, .cons r t => fun u' m => by
  rcases List.mem_cons.mp m with rfl | m
  ·obtain ⟨tk, rfl⟩ := r
   rcases hq with ⟨its, h⟩ | ⟨its, h⟩
   ·exact SeqAt.EqAt.str_list _ _ h hu
   ·exact SeqAt.EqAt.str_tuple _ _ h hu
  ·exact tH hu hq t u' m
theorem wI (a : Array Value) : a.any (fun _ => false) = false := by rw [Array.any_eq_false]; simp
theorem Fu (K : W.Frag) (neg : Bool) (hu : X.A.units + 100 < cLine) (hK : X.K = K) : OpR X (compareOp (if neg then .NotIn else .In)) (Cu K neg) := by
 subst hK
 intro pins s σ H x y v u Q I rx ry h
 unfold Cu at h
 cases y with
 | ref p =>
  obtain ⟨ls, hp, hx, q⟩ := h
  rcases hx with fx | ⟨qa, ys, rfl, hq⟩
  ·cases neg with
   | false => exact AV pins s σ H x _ v u Q I rx ry ⟨p, _, rfl, hp, fx, ma ls, by simpa using q⟩
   | true => exact vn pins s σ H x _ v u Q I rx ry ⟨p, _, rfl, hp, fx, ma ls, by simpa using q⟩
  ·rw [DH] at q
   cases rx; cases ry
   have hq' : (∃ its, s.heap.IsList qa its) \/ ∃ its, s.heap.IsTuple qa its := by
    rcases hq with hq | hq
    ·obtain ⟨its, r, pl, hz⟩ := I.list hq; exact .inl ⟨_, pl.isList⟩
    ·obtain ⟨its, r, pl, hz⟩ := I.tuple hq; exact .inr ⟨_, pl⟩
   have hu1 : X.A.in1.units < cLine := by
    show X.A.units + 1 < cLine
    omega
   rcases hp with hp | hp
   ·obtain ⟨its, r, pl, hz⟩ := I.list hp
    cases neg with
    | false => exact SeqAt.in_listAt (fun _ => false) pl.isList (fun w hw => tH hu1 hq' r w (by simpa using hw)) ⟨.bl _, H, I, rfl, by rw [wI]; exact q⟩
    | true => exact SeqAt.notIn_listAt (fun _ => false) pl.isList (fun w hw => tH hu1 hq' r w (by simpa using hw)) ⟨.bl _, H, I, rfl, by rw [wI]; exact q⟩
   ·obtain ⟨its, r, pl, hz⟩ := I.tuple hp
    cases neg with
    | false => exact SeqAt.in_tupleAt (fun _ => false) pl (fun w hw => tH hu1 hq' r w (by simpa using hw)) ⟨.bl _, H, I, rfl, by rw [wI]; exact q⟩
    | true => exact SeqAt.notIn_tupleAt (fun _ => false) pl (fun w hw => tH hu1 hq' r w (by simpa using hw)) ⟨.bl _, H, I, rfl, by rw [wI]; exact q⟩
 | _ => exact h.elim
theorem uS (K : W.Frag) (hu : X.A.units + 100 < cLine) (hK : X.K = K := by rfl) : OpR X (compareOp .NotIn) (Cu K true) := Fu K true hu hK
end
end L2
namespace L2
open PySem PyProof.Rows
section
variable {prog : Program} {w : World} {A : Around} {E : Value -> Shared -> Prop} {s : Shared} {it d : Addr} {i ep : Nat} {od : Obj} {es : Array DictEntry}
theorem Bk {e : DictEntry} {Q : Value -> Shared -> Prop} (hi : s.heap.IsKeyIter it d i es.size ep) (hod : s.heap.get? d = some od) (hdd : od.data = .dict es ep) (hx : es[i]? = some e)
 (q : ∀ h', h'.IsKeyIter it d (i + 1) es.size ep -> Heap.SameBut it s.heap h' -> Q e.key { s with heap := h' }) : wpAny (model prog w) A (Builtin.SmallTypes.nextOf (.ref it)) Q E s := by
 obtain ⟨o, ho, hc, hd⟩ := id hi
 have ty := hi.typeIs
 unfold Builtin.SmallTypes.nextOf
 refine wpAny_bind (wpAny_callSpecial?_slot (name := Str.ofString "__next__") ty F.slot_dict_keyiterator_next (wpAny_call_entry F.slot_dict_keyiterator_next ty F.entry_dict_keyiterator_next ?_ (F.args_dict_keyiterator_next_1 _)))
 refine wpAny_bind (wpAny_pure (wpAny_bind (wpAny_bind ?_)))
 first | refine wpAny_bind (wpAny_typeNameOfWhole_keyiter ty (wpAny_pure (wpAny_bind (wpAny_fieldsOf ho hd ?_)))) | refine wpAny_bind (wpAny_typeNameOf_keyiter ty (wpAny_pure (wpAny_bind (wpAny_fieldsOf ho hd ?_))))
 simp only [show Builtin.Dict_items.ownsTuple "dict_keyiterator" = false by decide, Bool.false_eq_true, if_false]
 show wpAny _ _ (if (Value.ref d == Value.none) = true then _ else _) _ _ s; rw [if_neg (show ¬ ((Value.ref d == Value.none) = true) from Bool.false_ne_true)]
 refine wpAny_bind (wpAny_pure (wpAny_bind (wpAny_dictEntries hod hdd ?_))); rw [if_neg (by simp)]
 refine wpAny_bind (wpAny_pure (wpAny_bind (wpAny_dictEpoch hod hdd ?_))); rw [if_neg (by simp)]
 refine wpAny_pure ?_
 have lt : i < es.size := (Array.getElem?_eq_some_iff.mp hx).1
 have ee : es[i] = e := (Array.getElem?_eq_some_iff.mp hx).2
 simp only [show ¬ ((i : Int) < 0) from by omega, if_false, Int.toNat_natCast, Array.getElem?_eq_getElem lt]; refine wpAny_bind ?_
 first | refine wpAny_bind (wpAny_typeNameOfWhole_keyiter ty (wpAny_pure (wpAny_bind (wpAny_isOneOf_keyiter ty ?_)))) | refine wpAny_bind (wpAny_typeNameOf_keyiter ty (wpAny_pure (wpAny_bind (wpAny_isOneOf_keyiter ty ?_))))
 show wpAny _ _ (setField (.ref it) 1 (rawInt ((i : Int) + 1)) >>= _) _ _ s; refine wpAny_bind (wpAny_setField ho hd (by simp) ?_)
 have hi' : (s.heap.update it (Obj.mapFields (·.setIfInBounds 1 (rawInt ((i : Int) + 1))))).IsKeyIter it d (i + 1) es.size ep := ⟨_, Heap.get?_update_self _ ho (Obj.isFreed_of_fields (Obj.data_mapFields hd _)), (Obj.cls_mapFields ..).trans hc, by rw [Obj.data_mapFields hd]; simp [rawInt]⟩
 refine wpAny_bind (wpAny_holding (wpAny_bind (wpAny_isOneOf_keyiter (s := { s with heap := s.heap.update it (Obj.mapFields (·.setIfInBounds 1 (rawInt ((i : Int) + 1)))) }) hi'.typeIs ?_)))
 show wpAny _ _ (pure es[i].key) _ _ _; rw [ee]
 exact wpAny_pure (wpAny_pure ⟨_, rfl, wpAny_pure (q _ hi' (Heap.SameBut.update ..))⟩)
theorem CF {Q : Value -> Shared -> Prop} (hh : A.handled = none) (hi : s.heap.IsKeyIter it d i es.size ep) (hod : s.heap.get? d = some od) (hdd : od.data = .dict es ep) (hx : es.size <= i)
 (q : ∀ h' e, Heap.ExtBut it s.heap h' -> (∃ o, h'.get? e = some o /\ o.cls = .type "StopIteration") -> E (.ref e) { s with heap := h' }) : wpAny (model prog w) A (Builtin.SmallTypes.nextOf (.ref it)) Q E s := by
 obtain ⟨o, ho, hc, hd⟩ := id hi
 have ty := hi.typeIs
 unfold Builtin.SmallTypes.nextOf
 refine wpAny_bind (wpAny_callSpecial?_slot (name := Str.ofString "__next__") ty F.slot_dict_keyiterator_next (wpAny_call_entry F.slot_dict_keyiterator_next ty F.entry_dict_keyiterator_next ?_ (F.args_dict_keyiterator_next_1 _)))
 refine wpAny_bind (wpAny_pure (wpAny_bind (wpAny_bind ?_)))
 first | refine wpAny_bind (wpAny_typeNameOfWhole_keyiter ty (wpAny_pure (wpAny_bind (wpAny_fieldsOf ho hd ?_)))) | refine wpAny_bind (wpAny_typeNameOf_keyiter ty (wpAny_pure (wpAny_bind (wpAny_fieldsOf ho hd ?_))))
 simp only [show Builtin.Dict_items.ownsTuple "dict_keyiterator" = false by decide, Bool.false_eq_true, if_false]
 show wpAny _ _ (if (Value.ref d == Value.none) = true then _ else _) _ _ s; rw [if_neg (show ¬ ((Value.ref d == Value.none) = true) from Bool.false_ne_true)]
 refine wpAny_bind (wpAny_pure (wpAny_bind (wpAny_dictEntries hod hdd ?_))); rw [if_neg (by simp)]
 refine wpAny_bind (wpAny_pure (wpAny_bind (wpAny_dictEpoch hod hdd ?_))); rw [if_neg (by simp)]
 refine wpAny_pure ?_
 simp only [show ¬ ((i : Int) < 0) from by omega, if_false, Int.toNat_natCast, Array.getElem?_eq_none hx]; refine wpAny_bind ?_
 first | refine wpAny_bind (wpAny_typeNameOfWhole_keyiter ty (wpAny_pure ?_)) | refine wpAny_bind (wpAny_typeNameOf_keyiter ty (wpAny_pure ?_))
 show wpAny _ _ (setField (.ref it) 0 .none >>= _) _ _ s; refine wpAny_bind (wpAny_setField ho hd (by simp) ?_)
 show wpAny _ _ (newExc (.type "StopIteration") [] >>= _) _ _ _; refine wpAny_bind ?_
 simp only [newExc, newTuple]; refine wpAny_bind (wpAny_newObj_type ?_ (by size_fits))
 refine wpAny_bind (m := firstArgMember _ _) (wpAny_of_eq (a := Value.none) (by first | rfl | (simp only [firstArgMember]; rfl)) (wpAny_newObj_type ?_ (by size_fits)))
 simp only [raiseNew]; refine wpAny_bind (wpAny_handled ?_)
 rw [show A.in1.handled = none from hh]; refine wpAny_bind (wpAny_pure (wpAny_throw ?_))
 exact q _ _ (((Heap.SameBut.update ..).extBut.push _).push _) ⟨_, Heap.get?_push_size _ rfl, rfl⟩
theorem yS {e : Addr} {de : DictEntry} {old : Value} {Q : Option Value -> Shared -> Prop} (en : IsEnum s.heap e it i old) (hi : s.heap.IsKeyIter it d i es.size ep) (hod : s.heap.get? d = some od) (hdd : od.data = .dict es ep) (hx : es[i]? = some de) (ne : e ≠ it)
 (k : ∀ h', IsEnumOut h' e it ((i : Int) + 1) de.key s.heap.objs.size -> h'.IsKeyIter it d (i + 1) es.size ep -> h'.get? s.heap.objs.size = some { cls := .type "tuple", data := .seq #[.int i s.toks, de.key] } -> h'.objs.size = s.heap.objs.size + 1 ->
  (∀ b o, b ≠ e -> b ≠ it -> s.heap.get? b = some o -> h'.get? b = some o) -> Q (some (.ref s.heap.objs.size)) { s with heap := h', toks := s.toks + 1 }) :
 wpAny (model prog w) A (pyNext (.ref e)) Q E s := by
 have ty : s.TypeIs (.ref e) "enumerate" := ⟨_, en, rfl⟩
 unfold pyNext
 refine wpAny_bind (wpAny_attempt (wpAny_callSpecial?_slot (name := Str.ofString "__next__") ty F.slot_enumerate_next (wpAny_call_entry F.slot_enumerate_next ty F.entry_enumerate_next ?_ (F.args_enumerate_next_1 _))))
 exact Rv.enum_item (T := fun h => h.IsKeyIter it d (i + 1) es.size ep) en ne (fun h h' t sb => t.at fun o q => (sb.2 it (Ne.symm ne)).trans q) (fun h o t => t.at fun o q => Heap.get?_push_of_some _ q) (fun Q' q => Bk hi hod hdd hx q) fun h' a b c d f => wpAny_pure (k h' a b c d f)
theorem sP {e : Addr} {old : Value} {Q : Option Value -> Shared -> Prop} (hh : A.handled = none) (en : IsEnum s.heap e it i old) (hi : s.heap.IsKeyIter it d i es.size ep) (hod : s.heap.get? d = some od) (hdd : od.data = .dict es ep) (hx : es.size <= i)
 (k : ∀ h', Heap.ExtBut it s.heap h' -> Q none { s with heap := h' }) : wpAny (model prog w) A (pyNext (.ref e)) Q E s := by
 have ty : s.TypeIs (.ref e) "enumerate" := ⟨_, en, rfl⟩
 unfold pyNext
 refine wpAny_bind (wpAny_attempt (wpAny_callSpecial?_slot (name := Str.ofString "__next__") ty F.slot_enumerate_next (wpAny_call_entry F.slot_enumerate_next ty F.entry_enumerate_next ?_ (F.args_enumerate_next_1 _))))
 show wpAny (model prog w) _ (field (.ref e) 2 >>= _) _ _ s
 refine wpAny_bind (wpAny_field en rfl (x := .ref it) rfl (wpAny_bind (CF hh hi hod hdd hx fun h' b eb hb => ?_)))
 obtain ⟨o, q1, q2⟩ := hb
 exact wpAny_bind (wpAny_isInstance (T := "StopIteration") (b := true) ⟨o, q1, q2⟩ isSubtype_stop (wpAny_pure (k _ eb)))
theorem Bl (lo : (d == sysModules) = false) (ex : od.ExactDict) (hd : od.data = .dict es ep) :
 Meets (Builtin.«enumerate.__new__» ⟨[.type "enumerate", .ref d], []⟩) (fun _ R s => s.heap.get? d = some od /\ R (.ok (.ret (.ref (s.heap.push { cls := .type "dict_keyiterator", data := .fields #[.ref d, .int 0 0, .int es.size 0, .int ep 0] }).objs.size))) { s with heap := (s.heap.push { cls := .type "dict_keyiterator", data := .fields #[.ref d, .int 0 0, .int es.size 0, .int ep 0] }).push { cls := .type "enumerate", data := .fields #[.none, .bool false, .ref s.heap.objs.size, rawInt 0, .none, .none] } }) :=
 .of_wp fun prog w A R s ⟨hl, h⟩ => by
  obtain ⟨hp, g, d', tn, os⟩ := s
  have sub := sub_enumerate
  wp_walk using AutoSeq1.wpAny_loadPart' hl
  refine wpAny_stack_any fun st => wpAny_pure ?_
  split
  ·rename_i c _ _ _ _ _
   cases (c == Value.type "enumerate") <;> (wp_walk using AutoSeq1.wpAny_loadPart' hl, wz lo hl ex hd; exact ⟨_, rfl, h⟩)
  ·wp_walk using AutoSeq1.wpAny_loadPart' hl, wz lo hl ex hd
   exact ⟨_, rfl, h⟩
theorem zh {Q : Value -> Shared -> Prop} (lo : (d == sysModules) = false) (ho : s.heap.get? d = some od) (ex : od.ExactDict) (hd : od.data = .dict es ep)
 (h : ∀ h' e, e = s.heap.objs.size + 1 -> IsEnum h' e s.heap.objs.size 0 .none -> h'.IsKeyIter s.heap.objs.size d 0 es.size ep -> (∀ b o, s.heap.get? b = some o -> h'.get? b = some o) -> Q (.ref e) { s with heap := h' }) :
 wpAny (model prog w) A (call (.type "enumerate") [.ref d]) Q E s := by
 refine callType_new F.called_enumerate (by decide) (F.typeCall_enumerate_1 _) (F.newCall_enumerate_1 _) (fun obj => F.args_object_init_2 obj _) F.entry_enumerate_new (Bl lo ex hd) ⟨ho, ?_⟩
 have gk : (s.heap.push { cls := .type "dict_keyiterator", data := .fields #[.ref d, .int 0 0, .int es.size 0, .int ep 0] }).get? s.heap.objs.size = some { cls := .type "dict_keyiterator", data := .fields #[.ref d, .int 0 0, .int es.size 0, .int ep 0] } := Heap.get?_push_size _ rfl
 have zk : (s.heap.push { cls := .type "dict_keyiterator", data := .fields #[.ref d, .int 0 0, .int es.size 0, .int ep 0] }).objs.size = s.heap.objs.size + 1 := Heap.size_push ..
 have kk : ∀ b o, s.heap.get? b = some o -> (s.heap.push { cls := .type "dict_keyiterator", data := .fields #[.ref d, .int 0 0, .int es.size 0, .int ep 0] }).get? b = some o := fun b o q => Heap.get?_push_of_some _ q
 generalize s.heap.push { cls := .type "dict_keyiterator", data := .fields #[.ref d, .int 0 0, .int es.size 0, .int ep 0] } = hp at gk zk kk ⊢
 have en : IsEnum (hp.push { cls := .type "enumerate", data := .fields #[.none, .bool false, .ref s.heap.objs.size, rawInt 0, .none, .none] }) hp.objs.size s.heap.objs.size 0 .none := Heap.get?_push_size _ rfl
 exact ⟨⟨_, en, rfl⟩, h _ _ zk en ⟨_, Heap.get?_push_of_some _ gk, rfl, rfl⟩ fun b o q => Heap.get?_push_of_some _ (kk b o q)⟩
end
section
variable {X : Cx} {pins : List (Addr × Obj)} {σ : St} {H : Hp} {s : Shared}
def Itd (a : Addr) (o : Obj) (u : HO) : It :=
 ⟨fun i H => i < iH u /\ H a = some (.frz o u), fun i H x H' => ∃ p y v, H p = none /\ x = .ref p /\ H' = upd H p (.tup [.int i, y]) /\ uQ H u i y v, fun i H => iH u <= i /\ H a = some (.frz o u)⟩
theorem zj {P : Program} {w : World} {K : W.Frag} {elts : List Expr} {cx : _} {pos : Pos} (a e it : Addr) (ne : e ≠ it) (o : Obj) (es : Array DictEntry) (ep : Nat) (u : HO) (hu : isD u = true) (hd : o.data = .dict es ep) :
 wG P w K (.Tuple elts cx pos) (Itd a o u) [e, it] e (fun i h => ∃ old, IsEnum h e it (i : Nat) old /\ h.IsKeyIter it a i es.size ep) where
 mem := by simp
 obj := fun i h st b hb => by
  obtain ⟨old, h1, o, h2, c, d⟩ := st
  rcases List.mem_cons.mp hb with rfl | hb
  ·exact ⟨_, h1, fun v z => by
    have z' : Data.fields _ = Data.cell v := z
    cases z'⟩
  ·have z := List.mem_singleton.mp hb
   subst z
   exact ⟨o, h2, fun v z => by rw [d] at z; cases z⟩
 keep := fun i h h' st k => by
  obtain ⟨old, h1, h2⟩ := st
  exact ⟨old, k e (by simp) _ h1, h2.at fun o q => k it (by simp) o q⟩
 item := by
  intro X hP hw hK hc i pins s σ H E I hf st hg
  subst hP hw hK
  obtain ⟨hi, hq⟩ := hg
  obtain ⟨ho, hz, hen⟩ := vL I hu hd hq
  have hx : es[i]? = some es[i] := by simp [show i < es.size by omega]
  obtain ⟨x, v, en, rx, rv⟩ := hen i _ hx
  have fe := hf e (by simp)
  have fi := hf it (by simp)
  obtain ⟨old, h1, h2⟩ := st
  obtain ⟨oi, gi, ci, di⟩ := id h2
  refine yS h1 h2 ho hd hx ne fun h' e1 i1 t1 z1 k1 => ?_
  obtain ⟨oi', gi', ci', di'⟩ := id i1
  obtain ⟨h3, z3, I3, k3⟩ := I.turned2 (t' := s.toks + 1) (h' := h') h1 gi ne ⟨_, e1, rfl⟩ ⟨_, gi', Obj.isFreed_of_fields di'⟩ k1 fe fi
  have hn := I.hok.fresh (Nat.le_refl s.heap.objs.size)
  have I4 : Inv X pins σ (upd H s.heap.objs.size (.tup [.int i, x])) { s with heap := h', toks := s.toks + 1 } :=
   I3.laid (t' := s.toks + 1) k3 (Nat.le_of_eq z3) (show ObjOk X.prog X.w _ h' _ (.tup [.int i, x]) from ⟨by show 2 <= sizeLine; rw [sizeLine_eq]; decide, [.int i s.toks, es[i].key], .cons ⟨_, rfl⟩ (.cons rx .nil), ⟨_, t1, rfl, 0, rfl⟩⟩)
  have le : e < s.heap.objs.size := Heap.lt_size h1
  have li : it < s.heap.objs.size := Heap.lt_size gi
  have nH : ∀ b, b < s.heap.objs.size -> upd H s.heap.objs.size (.tup [.int i, x]) b = H b := fun b l => ar (Nat.ne_of_lt l)
  refine ⟨_, rfl, wpAny_letOwnedTupleGo_enum (s := { s with heap := h', toks := s.toks + 1 }) e1 fun h5 e5 s5 => ?_⟩
  have I5 : Inv X pins σ (upd H s.heap.objs.size (.tup [.int i, x])) { s with heap := h5, toks := s.toks + 1 } :=
   I4.turned (t' := s.toks + 1) (fun b o hb q => (s5.2 b hb).trans q) ((nH e le).trans fe.1) fe.2.1 fe.2.2.2.1 fe.2.2.2.2.1 fe.2.2.2.2.2
  refine ⟨.ref s.heap.objs.size, _, I5, rfl, ⟨_, x, v, hn, rfl, rfl, en⟩, ⟨_, e5, i1.at fun o q => (s5.2 it (Ne.symm ne)).trans q⟩, fun b hb => ?_⟩
  rcases List.mem_cons.mp hb with rfl | hb
  ·exact (nH _ le).trans fe.1
  ·rw [List.mem_singleton.mp hb]; exact (nH _ li).trans fi.1
 done := by
  intro X hP hw hK hc i pins s σ H E I hf st hg
  subst hP hw hK
  obtain ⟨hi, hq⟩ := hg
  obtain ⟨ho, hz, hen⟩ := vL I hu hd hq
  have fi := hf it (by simp)
  obtain ⟨old, h1, h2⟩ := st
  exact sP (I.ok.hd hc) h1 h2 ho hd (by omega) fun h' eb => ⟨rfl, I.turned (t' := s.toks) (fun b o hb q => eb b o hb q) fi.1 fi.2.1 fi.2.2.2.1 fi.2.2.2.2.1 fi.2.2.2.2.2⟩
 self := fun _ _ _ _ _ ⟨_, st, _⟩ h => wpAny_pyIter_enum st h
def B4 (ta : TE) : TI := fun σ H R => ta σ H fun x H1 => ∃ b u, x = .ref b /\ isD u = true /\ Rd H1 b u /\ ∀ o, (H1 b = some u \/ H1 b = some (.frz o u)) -> R (Itd b o u) (upd H1 b (.frz o u))
theorem Cg {arg : Expr} {ta : TE} {p pos : Pos} {elts : List Expr} {cx : _} {tp : Pos} (hg : Gl X "enumerate") (hm : X.mg "enumerate" = none) (ha : PE X arg ta) (hs : starEach [arg] X.env = [(false, eval arg X.env)] := by rfl) :
 PI X (.Tuple elts cx tp) (.Call (.Name "enumerate" p) [arg] [] pos) (B4 ta) := by
 intro pins s σ H R I h
 refine Call_ (lJ I hg hm PyProof.Rows.boot_enumerate (PyProof.Rows.callWith_type1 ?_ hs rfl))
 rw [hs]
 refine Calls.spliced_cons (thn (ha pins s σ H _ I h) fun v s1 ⟨x, H1, I1, rx, b, u, ex, hu, hr, q⟩ => ?_)
 subst ex
 cases (show v = Value.ref b from rx)
 obtain ⟨o, es, ep, ho, ex, hd, lo, hz, hor, I2⟩ := I1.freeze hu hr
 refine Calls.spliced_nil (zh lo ho ex hd fun h' e he en ki k => wpAny_pyIter_enum (s := { s1 with heap := h' }) en ?_)
 have ne : e ≠ s1.heap.objs.size := by rw [he]; exact Nat.succ_ne_self _
 refine ⟨_, [e, s1.heap.objs.size], _, _, _, rfl, I2.kept (t' := s1.toks) k, zj b _ _ ne o es ep u hu hd, ⟨_, en, ki⟩, fun c hc => ?_, q o hor⟩
 rcases List.mem_cons.mp hc with rfl | hc
 ·exact I2.fpOk (by rw [he]; exact Nat.le_succ _) (I2.hok.fresh (by rw [he]; exact Nat.le_succ _))
 ·rw [List.mem_singleton.mp hc]; exact I2.fpOk (Nat.le_refl _) (I2.hok.fresh (Nat.le_refl _))
theorem Eu {td : TE} {g : TG} {tb : TS} {D : kh} {σ : St} {H : Hp} (h : td σ H fun x H1 => ∃ b u, x = .ref b /\ isD u = true /\ Rd H1 b u /\ ∀ o, (H1 b = some u \/ H1 b = some (.frz o u)) -> FE (Itd b o u) g tb { nx := fun σ' H2 => Th H H2 (D.nx σ'), rt := fun v H2 => Th H H2 (D.rt v), bk := fun σ' H2 => Th H H2 (D.bk σ'), ct := fun σ' H2 => Th H H2 (D.ct σ') } σ (upd H1 b (.frz o u))) : CO (BD (B4 td) g tb) D σ H := h
theorem DB {b : Addr} {o : Obj} {u : HO} {g : TG} {tb : TS} {D : kh} {σ : St} {H : Hp} (Pv : Nat -> St -> Hp -> Prop) (h0 : Pv 0 σ H) (hl : ∀ i σ H, Pv i σ H -> H b = some (.frz o u))
 (hs : ∀ i x v σ H p, i < iH u -> uQ H u i x v -> H p = none -> Pv i σ H -> g (.ref p) σ (upd H p (.tup [.int i, x])) fun σ2 H2 => tb { D with nx := Pv (i + 1), ct := Pv (i + 1), bk := D.nx } σ2 H2) (hd : ∀ σ H, Pv (iH u) σ H -> D.nx σ H) : FE (Itd b o u) g tb D σ H := by
 refine ⟨fun i m σ H => m = iH u - i /\ i <= iH u /\ Pv i σ H, ⟨_, rfl, Nat.zero_le _, h0⟩, ?_⟩
 rintro i m σ H ⟨rfl, hi, p⟩
 have q := hl i σ H p
 rcases Nat.lt_or_ge i (iH u) with lt | ge
 ·refine .inr ⟨⟨lt, q⟩, Pv (i + 1), fun σ' H' p' => ⟨_, by omega, rfl, lt, p'⟩, ?_⟩
  rintro y H' ⟨r, x, v, hr, rfl, rfl, en⟩
  exact hs i x v σ H r lt en hr p
 ·obtain rfl : i = iH u := Nat.le_antisymm hi ge
  exact .inl ⟨⟨Nat.le_refl _, q⟩, hd σ H p⟩
end
end L2
set_option maxHeartbeats 400000
namespace K7
open PySem L2
structure Adr where
 ni : Addr
 qY : FuncData
 nK : Addr
 rn : FuncData
 lP : Addr
 pA : FuncData
 qz : Addr
 tP : FuncData
 sW : Addr
 uE : FuncData
 iI : Addr
 k6 : FuncData
 lG : Addr
 pU : FuncData
 qy : Addr
 tN : FuncData
 nu : Addr
 qM : FuncData
 wA : Addr
 xN : FuncData
 gW : Addr
 j8 : FuncData
 hJ : Addr
 j9 : FuncData
 eN : Addr
 gM : FuncData
 lB : Addr
 oR : FuncData
 ik : Addr
 oX : FuncData
 iG : Addr
 k8 : FuncData
 gY : Addr
 j3 : FuncData
 eQ : Addr
 gK : FuncData
 hZ : Addr
 j4 : FuncData
 gp : Addr
 jd : FuncData
 nE : Addr
 qN : FuncData
 lC : Addr
 pE : FuncData
 kP : Addr
 pD : FuncData
 nC : Addr
 rg : FuncData
 ir : Addr
 oC : FuncData
 eC : Addr
 jo : FuncData
 gF : Addr
 iY : FuncData
 jG : Addr
 mR : FuncData
 dR : Addr
 il : FuncData
 iE : Addr
 lA : FuncData
 dW : Addr
 iu : FuncData
 dC : Addr
 gX : FuncData
 eB : Addr
 iV : FuncData
 oQ : Addr
 Cy : FuncData
 dh : Addr
 gJ : FuncData
 dZ : Addr
 fP : FuncData
 c9 : Addr
 eY : FuncData
 dQ : Addr
 iy : FuncData
 gq : Addr
 jg : FuncData
 iz : Addr
 oY : FuncData
 jN : Addr
 mK : FuncData
 lM : Addr
 oJ : FuncData
 gn : Addr
 jr : FuncData
 gG : Addr
 i9 : FuncData
 d7 : Addr
 fU : FuncData
 gl : Addr
 jy : FuncData
 gt : Addr
 jz : FuncData
 gg : Addr
 iZ : FuncData
 fB : Addr
 iC : FuncData
 bM : Addr
 aZ : Addr
 bg : Addr
 aI : Addr
 aU : Addr
 a_ : Addr
 aF : Addr
 bA : Addr
 aV : Addr
 aQ : Addr
 ay : Addr
 aH : Addr
 nW : Addr
abbrev zzK (K : W.Frag) (a b : Addr) (c : Bool) : Prop := PySem.W.kitOne K (.ref a) (.ref b) = some c
abbrev zzX (K : W.Frag) (a : Addr) : Prop := PySem.W.excIn K a [.type "ValueError", .type "Exception", .type "BaseException", .type "object"] "ValueError.__new__" = true
structure Txt (K : W.Frag) (mg : Str -> Option Value) (a : Adr) : Prop where
 m_ : Fun K "is_whole" "is_whole" eJ a.ni a.qY
 y0 : mg "is_whole" = some (.ref a.ni)
 mU : Fun K "is_among" "is_among" eX a.nK a.rn
 zg : mg "is_among" = some (.ref a.nK)
 fW : Fun K "signs_lie" "signs_lie" dH a.lP a.pA
 q_ : mg "signs_lie" = some (.ref a.lP)
 ja : Fun K "is_name" "is_name" fH a.qz a.tP
 u_ : mg "is_name" = some (.ref a.qz)
 lH : Fun K "is_day" "is_day" h_ a.sW a.uE
 xC : mg "is_day" = some (.ref a.sW)
 iJ : Fun K "is_currency" "is_currency" cQ a.iI a.k6
 tX : mg "is_currency" = some (.ref a.iI)
 kW : Fun K "are_names" "are_names" dF a.lG a.pU
 xE : mg "are_names" = some (.ref a.lG)
 i6 : Fun K "is_path" "is_path" fG a.qy a.tN
 uW : mg "is_path" = some (.ref a.qy)
 nv : Fun K "names_of" "names_of" eL a.nu a.qM
 yW : mg "names_of" = some (.ref a.nu)
 wE : Fun K "above" "above" jP a.wA a.xN
 Do : mg "above" = some (.ref a.wA)
 dN : Fun K "_law_cell_at" "_law_cell_at" cD a.gW a.j8
 hU : mg "_law_cell_at" = some (.ref a.gW)
 ic : Fun K "_law_name_by" "_law_name_by" cB a.hJ a.j9
 sT : mg "_law_name_by" = some (.ref a.hJ)
 eV : Fun K "_law_currency_by" "_law_currency_by" bN a.eN a.gM
 m7 : mg "_law_currency_by" = some (.ref a.eN)
 dJ : Fun K "_law_read" "_law_read" dI a.lB a.oR
 lW : mg "_law_read" = some (.ref a.lB)
 fZ : Fun K "_law_word" "_law_word" cY a.ik a.oX
 qW : mg "_law_word" = some (.ref a.ik)
 d8 : Fun K "_law_is_day" "_law_is_day" cT a.iG a.k8
 mO : mg "_law_is_day" = some (.ref a.iG)
 h9 : Fun K "_law_top_due" "_law_top_due" cE a.gY a.j3
 sF : mg "_law_top_due" = some (.ref a.gY)
 eI : Fun K "_law_is_currency" "_law_is_currency" bP a.eQ a.gK
 nA : mg "_law_is_currency" = some (.ref a.eQ)
 ie : Fun K "_law_add_due" "_law_add_due" cC a.hZ a.j4
 sk : mg "_law_add_due" = some (.ref a.hZ)
 gz : Fun K "_law_shut_due" "_law_shut_due" cv a.gp a.jd
 rR : mg "_law_shut_due" = some (.ref a.gp)
 nJ : Fun K "_law_due" "_law_due" eW a.nE a.qN
 yE : mg "_law_due" = some (.ref a.nE)
 fM : Fun K "_law_done" "_law_done" dG a.lC a.pE
 qL : mg "_law_done" = some (.ref a.lC)
 ll : Fun K "_law_told" "_law_told" dM a.kP a.pD
 xj : mg "_law_told" = some (.ref a.kP)
 nL : Fun K "_law_odd" "_law_odd" eT a.nC a.rg
 zf : mg "_law_odd" = some (.ref a.nC)
 lN : Fun K "_law_deed" "_law_deed" cK a.ir a.oC
 xH : mg "_law_deed" = some (.ref a.ir)
 gE : Fun K "_law_way_good" "_law_way_good" bH a.eC a.jo
 rN : mg "_law_way_good" = some (.ref a.eC)
 dv : Fun K "_law_one_good" "_law_one_good" cq a.gF a.iY
 j5 : mg "_law_one_good" = some (.ref a.gF)
 jR : Fun K "_law_asked" "_law_asked" dg a.jG a.mR
 wb : mg "_law_asked" = some (.ref a.jG)
 fE : Fun K "_law_none_good" "_law_none_good" bC a.dR a.il
 qd : mg "_law_none_good" = some (.ref a.dR)
 d9 : Fun K "_law_listed" "_law_listed" cS a.iE a.lA
 mS : mg "_law_listed" = some (.ref a.iE)
 cV : Fun K "_law_went_good" "_law_went_good" bB a.dW a.iu
 jn : mg "_law_went_good" = some (.ref a.dW)
 e_ : Fun K "_law_again_good" "_law_again_good" bz a.dC a.gX
 nU : mg "_law_again_good" = some (.ref a.dC)
 gh : Fun K "_law_end_good" "_law_end_good" bL a.eB a.iV
 rC : mg "_law_end_good" = some (.ref a.eB)
 G5 : Fun K "law" "law" e9 a.oQ a.Cy
 HF : mg "law" = some (.ref a.oQ)
 eS : Fun K "__init__" "Account.__init__" bO a.dh a.gJ
 yw : kj K a.ay "__init__" a.dh
 dY : Fun K "stands_on" "Account.stands_on" bE a.dZ a.fP
 fS : kj K a.ay "stands_on" a.dZ
 e7 : Fun K "stands_later" "Account.stands_later" bq a.c9 a.eY
 i5 : kj K a.ay "stands_later" a.c9
 jB : Fun K "__init__" "Chart.__init__" bW a.dQ a.iy
 zQ : kj K a.aH "__init__" a.dQ
 gf : Fun K "add_top" "Chart.add_top" cw a.gq a.jg
 jA : kj K a.aH "add_top" a.gq
 qZ : Fun K "add" "Chart.add" cH a.iz a.oY
 wa : kj K a.aH "add" a.iz
 pe : Fun K "shut" "Chart.shut" df a.jN a.mK
 t5 : kj K a.aH "shut" a.jN
 ip : Fun K "has" "Chart.has" dL a.lM a.oJ
 jJ : kj K a.aH "has" a.lM
 bT : Fun K "account" "Chart.account" cr a.gn a.jr
 bX : kj K a.aH "account" a.gn
 gm : Fun K "kind_of" "Chart.kind_of" cp a.gG a.i9
 i3 : kj K a.aH "kind_of" a.gG
 dX : Fun K "currency_of" "Chart.currency_of" bF a.d7 a.fU
 fX : kj K a.aH "currency_of" a.d7
 gu : Fun K "span_of" "Chart.span_of" cg a.gl a.jy
 jj : kj K a.aH "span_of" a.gl
 f_ : Fun K "is_open" "Chart.is_open" cf a.gt a.jz
 iS : kj K a.aH "is_open" a.gt
 gb : Fun K "beneath" "Chart.beneath" cj a.gg a.iZ
 fF : kj K a.aH "beneath" a.gg
 jw : Fun K "accounts" "Chart.accounts" bY a.fB a.iC
 iB : kj K a.aH "accounts" a.fB
 oO : mg "HouseError" = some (.ref a.bM)
 uI : mg "BadName" = some (.ref a.aZ)
 sw : mg "BadDay" = some (.ref a.bg)
 mL : mg "BadCurrency" = some (.ref a.aI)
 me : mg "BadPath" = some (.ref a.aU)
 uz : mg "BadKind" = some (.ref a.a_)
 rf : mg "NoAccount" = some (.ref a.aF)
 vH : mg "Twice" = some (.ref a.bA)
 ql : mg "NotOpen" = some (.ref a.aV)
 sO : mg "HasBelow" = some (.ref a.aQ)
 ve : mg "Account" = some (.ref a.ay)
 Av : mg "Chart" = some (.ref a.aH)
 aX : Cls K a.ay
 gZ : NoAttr K a.ay "kind"
 hX : NoAttr K a.ay "currency"
 eF : NoAttr K a.ay "first"
 bK : NoAttr K a.ay "until"
 eE : NoAttr K a.ay "below"
 sq : Mk K a.ay a.dh
 aR : Cls K a.aH
 bJ : NoAttr K a.aH "by_path"
 xI : Mk K a.aH a.dQ
 tV : zzX K a.aI
 tY : da K a.aI
 iL : PySem.W.exmOne K (.ref a.aI) (.ref a.bM) = some true
 ig : zzK K a.aI a.aI true
 kK : zzK K a.aI a.bg false
 kH : zzK K a.aI a.a_ false
 kG : zzK K a.aI a.aZ false
 ko : zzK K a.aI a.aU false
 jV : zzK K a.aI a.aQ false
 i8 : zzK K a.aI a.aF false
 km : zzK K a.aI a.aV false
 my : zzK K a.aI a.bA false
 iF : PySem.W.kitOne K (.ref a.aI) (.type "ValueError") = some true
 yo : zzX K a.bg
 BG : da K a.bg
 d6 : PySem.W.exmOne K (.ref a.bg) (.ref a.bM) = some true
 lR : zzK K a.bg a.aI false
 rW : zzK K a.bg a.bg true
 qo : zzK K a.bg a.a_ false
 qf : zzK K a.bg a.aZ false
 qc : zzK K a.bg a.aU false
 pX : zzK K a.bg a.aQ false
 mW : zzK K a.bg a.aF false
 qk : zzK K a.bg a.aV false
 sQ : zzK K a.bg a.bA false
 mz : PySem.W.kitOne K (.ref a.bg) (.type "ValueError") = some true
 Bg : zzX K a.a_
 Bj : da K a.a_
 lr : PySem.W.exmOne K (.ref a.a_) (.ref a.bM) = some true
 kc : zzK K a.a_ a.aI false
 qx : zzK K a.a_ a.bg false
 pN : zzK K a.a_ a.a_ true
 pG : zzK K a.a_ a.aZ false
 pK : zzK K a.a_ a.aU false
 nD : zzK K a.a_ a.aQ false
 mF : zzK K a.a_ a.aF false
 nV : zzK K a.a_ a.aV false
 rH : zzK K a.a_ a.bA false
 lf : PySem.W.kitOne K (.ref a.a_) (.type "ValueError") = some true
 Bd : zzX K a.aZ
 Bh : da K a.aZ
 lv : PySem.W.exmOne K (.ref a.aZ) (.ref a.bM) = some true
 kF : zzK K a.aZ a.aI false
 qE : zzK K a.aZ a.bg false
 pV : zzK K a.aZ a.a_ false
 oW : zzK K a.aZ a.aZ true
 oH : zzK K a.aZ a.aU false
 nk : zzK K a.aZ a.aQ false
 mj : zzK K a.aZ a.aF false
 pi : zzK K a.aZ a.aV false
 rE : zzK K a.aZ a.bA false
 kQ : PySem.W.kitOne K (.ref a.aZ) (.type "ValueError") = some true
 qB : zzX K a.aU
 AN : da K a.aU
 dO : PySem.W.exmOne K (.ref a.aU) (.ref a.bM) = some true
 kq : zzK K a.aU a.aI false
 qA : zzK K a.aU a.bg false
 oB : zzK K a.aU a.a_ false
 ph : zzK K a.aU a.aZ false
 pq : zzK K a.aU a.aU true
 nj : zzK K a.aU a.aQ false
 mJ : zzK K a.aU a.aF false
 pP : zzK K a.aU a.aV false
 rV : zzK K a.aU a.bA false
 lI : PySem.W.kitOne K (.ref a.aU) (.type "ValueError") = some true
 yR : zzX K a.aQ
 zw : da K a.aQ
 ky : PySem.W.exmOne K (.ref a.aQ) (.ref a.bM) = some true
 jW : zzK K a.aQ a.aI false
 oP : zzK K a.aQ a.bg false
 nN : zzK K a.aQ a.a_ false
 mV : zzK K a.aQ a.aZ false
 nh : zzK K a.aQ a.aU false
 mB : zzK K a.aQ a.aQ true
 lz : zzK K a.aQ a.aF false
 ng : zzK K a.aQ a.aV false
 qj : zzK K a.aQ a.bA false
 kg : PySem.W.kitOne K (.ref a.aQ) (.type "ValueError") = some true
 yj : zzX K a.aF
 xn : da K a.aF
 db : PySem.W.exmOne K (.ref a.aF) (.ref a.bM) = some true
 iO : zzK K a.aF a.aI false
 nP : zzK K a.aF a.bg false
 ms : zzK K a.aF a.a_ false
 mH : zzK K a.aF a.aZ false
 mE : zzK K a.aF a.aU false
 kM : zzK K a.aF a.aQ false
 ku : zzK K a.aF a.aF true
 mv : zzK K a.aF a.aV false
 oI : zzK K a.aF a.bA false
 jO : PySem.W.kitOne K (.ref a.aF) (.type "ValueError") = some true
 uU : zzX K a.aV
 AL : da K a.aV
 fO : PySem.W.exmOne K (.ref a.aV) (.ref a.bM) = some true
 kb : zzK K a.aV a.aI false
 qb : zzK K a.aV a.bg false
 oF : zzK K a.aV a.a_ false
 oa : zzK K a.aV a.aZ false
 pd : zzK K a.aV a.aU false
 mX : zzK K a.aV a.aQ false
 mG : zzK K a.aV a.aF false
 oZ : zzK K a.aV a.aV true
 rO : zzK K a.aV a.bA false
 lD : PySem.W.kitOne K (.ref a.aV) (.type "ValueError") = some true
 zV : zzX K a.bA
 Et : da K a.bA
 hG : PySem.W.exmOne K (.ref a.bA) (.ref a.bM) = some true
 mq : zzK K a.bA a.aI false
 tE : zzK K a.bA a.bg false
 rF : zzK K a.bA a.a_ false
 rS : zzK K a.bA a.aZ false
 rK : zzK K a.bA a.aU false
 qm : zzK K a.bA a.aQ false
 pL : zzK K a.bA a.aF false
 rP : zzK K a.bA a.aV false
 tZ : zzK K a.bA a.bA true
 nS : PySem.W.kitOne K (.ref a.bA) (.type "ValueError") = some true
 Dw : mg "KINDS" = some (.ref a.nW)
 nW : ∃ (o : Obj) (its : Array Value) (n : Nat), K.lookup a.nW = some o /\ o.cls = .type "tuple" /\ o.data = .seq its n /\ its.size <= sizeLine /\ Vals (([[104, 97, 118, 101], [111, 119, 101], [111, 119, 110], [103, 97, 105, 110], [99, 111, 115, 116]] : List (List Nat)).map T) its.toList
 wk : mg "ValueError" = none
 GI : mg "abs" = none
 EN : mg "all" = none
 G4 : mg "any" = none
 yZ : mg "bool" = none
 qV : mg "enumerate" = none
 tD : mg "int" = none
 aP : mg "isinstance" = none
 g_ : mg "len" = none
 yx : mg "list" = none
 Cz : mg "min" = none
 eG : mg "range" = none
 jk : mg "sorted" = none
 sR : mg "str" = none
 Eb : mg "tuple" = none
theorem uk : bootBuiltins "ValueError" = some (.type "ValueError") := by decide +kernel
theorem Fj : bootBuiltins "abs" = some (.builtin "abs") := by decide +kernel
theorem B8 : bootBuiltins "all" = some (.builtin "all") := by decide +kernel
theorem Fl : bootBuiltins "any" = some (.builtin "any") := by decide +kernel
theorem vB : bootBuiltins "bool" = some (.type "bool") := by decide +kernel
theorem nM : bootBuiltins "int" = some (.type "int") := by decide +kernel
theorem aJ : bootBuiltins "isinstance" = some (.builtin "isinstance") := by decide +kernel
theorem eO : bootBuiltins "len" = some (.builtin "len") := by decide +kernel
theorem vk : bootBuiltins "list" = some (.type "list") := by decide +kernel
theorem yL : bootBuiltins "min" = some (.builtin "min") := by decide +kernel
theorem gT : bootBuiltins "sorted" = some (.builtin "sorted") := by decide +kernel
theorem nB : bootBuiltins "str" = some (.type "str") := by decide +kernel
theorem Cf : bootBuiltins "tuple" = some (.type "tuple") := by decide +kernel
local macro_rules | `(tactic| walk_at "sc") => `(tactic| exact ⟨rfl, rfl, rfl, by decide +kernel, rfl, by decide +kernel, by decide +kernel⟩)
section
variable {K : W.Frag} {f : Addr} {fd : FuncData}
theorem xy : aM ["thing"] ["thing"] (ai eJ) := by walk_at "sc"
theorem xS (F : Fun K "is_whole" "is_whole" eJ f fd) : Binds K fd ["thing"] [] := F.binds fun _ _ _ _ _ _ us hl => by obtain ⟨_, rfl⟩ := ex1 hl; rfl
theorem wZ : aM ["thing", "least", "most"] ["thing", "least", "most"] (ai eX) := by walk_at "sc"
theorem ym (F : Fun K "is_among" "is_among" eX f fd) : Binds K fd ["thing", "least", "most"] [] := F.binds fun _ _ _ _ _ _ us hl => by obtain ⟨_, _, _, rfl⟩ := ex3 hl; rfl
theorem wc : aM ["text", "least", "most"] ["text", "least", "most"] (ai dH) := by walk_at "sc"
theorem ol (F : Fun K "signs_lie" "signs_lie" dH f fd) : Binds K fd ["text", "least", "most"] [] := F.binds fun _ _ _ _ _ _ us hl => by obtain ⟨_, _, _, rfl⟩ := ex3 hl; rfl
theorem yB : aM ["thing"] ["thing"] (ai fH) := by walk_at "sc"
theorem sK (F : Fun K "is_name" "is_name" fH f fd) : Binds K fd ["thing"] [] := F.binds fun _ _ _ _ _ _ us hl => by obtain ⟨_, rfl⟩ := ex1 hl; rfl
theorem A9 : aM ["thing"] ["thing"] (ai h_) := by walk_at "sc"
theorem uw (F : Fun K "is_day" "is_day" h_ f fd) : Binds K fd ["thing"] [] := F.binds fun _ _ _ _ _ _ us hl => by obtain ⟨_, rfl⟩ := ex1 hl; rfl
theorem sV : aM ["thing"] ["thing"] (ai cQ) := by walk_at "sc"
theorem sL (F : Fun K "is_currency" "is_currency" cQ f fd) : Binds K fd ["thing"] [] := F.binds fun _ _ _ _ _ _ us hl => by obtain ⟨_, rfl⟩ := ex1 hl; rfl
theorem v_ : aM ["names"] ["names"] (ai dF) := by walk_at "sc"
theorem wj (F : Fun K "are_names" "are_names" dF f fd) : Binds K fd ["names"] [] := F.binds fun _ _ _ _ _ _ us hl => by obtain ⟨_, rfl⟩ := ex1 hl; rfl
theorem yN : aM ["thing"] ["thing"] (ai fG) := by walk_at "sc"
theorem sN (F : Fun K "is_path" "is_path" fG f fd) : Binds K fd ["thing"] [] := F.binds fun _ _ _ _ _ _ us hl => by obtain ⟨_, rfl⟩ := ex1 hl; rfl
theorem wT : aM ["path"] ["path"] (ai eL) := by walk_at "sc"
theorem wM (F : Fun K "names_of" "names_of" eL f fd) : Binds K fd ["path"] [] := F.binds fun _ _ _ _ _ _ us hl => by obtain ⟨_, rfl⟩ := ex1 hl; rfl
theorem xa : aM ["path", "names"] ["path"] (ai jP) := by walk_at "sc"
theorem BX (F : Fun K "above" "above" jP f fd) : Binds K fd ["path"] [] := F.binds fun _ _ _ _ _ _ us hl => by obtain ⟨_, rfl⟩ := ex1 hl; rfl
theorem rQ : aM ["_law_script", "_law_k"] ["_law_script", "_law_k"] (ai cD) := by walk_at "sc"
theorem rp (F : Fun K "_law_cell_at" "_law_cell_at" cD f fd) : Binds K fd ["_law_script", "_law_k"] [] := F.binds fun _ _ _ _ _ _ us hl => by obtain ⟨_, _, rfl⟩ := ex2 hl; rfl
theorem j6 : aM ["_law_cell", "_law_k", "_law_letters", "_law_first", "_law_size", "_law_at", "_law_signs"] ["_law_cell", "_law_k"] (ai cB) := by walk_at "sc"
theorem rJ (F : Fun K "_law_name_by" "_law_name_by" cB f fd) : Binds K fd ["_law_cell", "_law_k"] [] := F.binds fun _ _ _ _ _ _ us hl => by obtain ⟨_, _, rfl⟩ := ex2 hl; rfl
theorem gO : aM ["_law_cell", "_law_k", "_law_letters", "_law_first", "_law_signs"] ["_law_cell", "_law_k"] (ai bN) := by walk_at "sc"
theorem mt (F : Fun K "_law_currency_by" "_law_currency_by" bN f fd) : Binds K fd ["_law_cell", "_law_k"] [] := F.binds fun _ _ _ _ _ _ us hl => by obtain ⟨_, _, rfl⟩ := ex2 hl; rfl
theorem pH : aM ["_law_path", "_law_names", "_law_sign"] ["_law_path"] (ai dI) := by walk_at "sc"
theorem jX (F : Fun K "_law_read" "_law_read" dI f fd) : Binds K fd ["_law_path"] [] := F.binds fun _ _ _ _ _ _ us hl => by obtain ⟨_, rfl⟩ := ex1 hl; rfl
theorem oK : aM ["_law_e", "_law_found"] ["_law_e"] (ai cY) := by walk_at "sc"
theorem pz (F : Fun K "_law_word" "_law_word" cY f fd) : Binds K fd ["_law_e"] [] := F.binds fun _ _ _ _ _ _ us hl => by obtain ⟨_, rfl⟩ := ex1 hl; rfl
theorem tM : aM ["_law_day"] ["_law_day"] (ai cT) := by walk_at "sc"
theorem lF (F : Fun K "_law_is_day" "_law_is_day" cT f fd) : Binds K fd ["_law_day"] [] := F.binds fun _ _ _ _ _ _ us hl => by obtain ⟨_, rfl⟩ := ex1 hl; rfl
theorem j7 : aM ["_law_rows", "_law_name", "_law_kind", "_law_names"] ["_law_rows", "_law_name", "_law_kind"] (ai cE) := by walk_at "sc"
theorem rq (F : Fun K "_law_top_due" "_law_top_due" cE f fd) : Binds K fd ["_law_rows", "_law_name", "_law_kind"] [] := F.binds fun _ _ _ _ _ _ us hl => by obtain ⟨_, _, _, rfl⟩ := ex3 hl; rfl
theorem mw : aM ["_law_thing"] ["_law_thing"] (ai bP) := by walk_at "sc"
theorem mD (F : Fun K "_law_is_currency" "_law_is_currency" bP f fd) : Binds K fd ["_law_thing"] [] := F.binds fun _ _ _ _ _ _ us hl => by obtain ⟨_, rfl⟩ := ex1 hl; rfl
theorem ka : aM ["_law_rows", "_law_path", "_law_currency", "_law_day", "_law_names", "_law_upper"] ["_law_rows", "_law_path", "_law_currency", "_law_day"] (ai cC) := by walk_at "sc"
theorem rM (F : Fun K "_law_add_due" "_law_add_due" cC f fd) : Binds K fd ["_law_rows", "_law_path", "_law_currency", "_law_day"] [] := F.binds fun _ _ _ _ _ _ us hl => by obtain ⟨_, _, _, _, rfl⟩ := ex4 hl; rfl
theorem ju : aM ["_law_rows", "_law_path", "_law_day", "_law_below"] ["_law_rows", "_law_path", "_law_day"] (ai cv) := by walk_at "sc"
theorem qp (F : Fun K "_law_shut_due" "_law_shut_due" cv f fd) : Binds K fd ["_law_rows", "_law_path", "_law_day"] [] := F.binds fun _ _ _ _ _ _ us hl => by obtain ⟨_, _, _, rfl⟩ := ex3 hl; rfl
theorem wW : aM ["_law_rows", "_law_deed_here"] ["_law_rows", "_law_deed_here"] (ai eW) := by walk_at "sc"
theorem xO (F : Fun K "_law_due" "_law_due" eW f fd) : Binds K fd ["_law_rows", "_law_deed_here"] [] := F.binds fun _ _ _ _ _ _ us hl => by obtain ⟨_, _, rfl⟩ := ex2 hl; rfl
theorem vD : aM ["_law_rows", "_law_kinds", "_law_deed_here"] ["_law_rows", "_law_kinds", "_law_deed_here"] (ai dG) := by walk_at "sc"
theorem pO (F : Fun K "_law_done" "_law_done" dG f fd) : Binds K fd ["_law_rows", "_law_kinds", "_law_deed_here"] [] := F.binds fun _ _ _ _ _ _ us hl => by obtain ⟨_, _, _, rfl⟩ := ex3 hl; rfl
theorem pR : aM ["_law_chart", "_law_deed_here", "_law_found", "_law_e"] ["_law_chart", "_law_deed_here"] (ai dM) := by walk_at "sc"
theorem wt (F : Fun K "_law_told" "_law_told" dM f fd) : Binds K fd ["_law_chart", "_law_deed_here"] [] := F.binds fun _ _ _ _ _ _ us hl => by obtain ⟨_, _, rfl⟩ := ex2 hl; rfl
theorem qP : aM ["_law_names", "_law_path", "_law_day", "_law_cell", "_law_more", "_law_name", "_law_at", "_law_far", "_law_wrong", "_law_when"] ["_law_names", "_law_path", "_law_day", "_law_cell", "_law_more"] (ai eT) := by walk_at "sc"
theorem xu (F : Fun K "_law_odd" "_law_odd" eT f fd) : Binds K fd ["_law_names", "_law_path", "_law_day", "_law_cell", "_law_more"] [] := F.binds fun _ _ _ _ _ _ us hl => by obtain ⟨_, _, _, _, _, rfl⟩ := ex5 hl; rfl
theorem pw : aM ["_law_rows", "_law_names", "_law_coins", "_law_kind", "_law_cell", "_law_more", "_law_base", "_law_day", "_law_known", "_law_path"] ["_law_rows", "_law_names", "_law_coins", "_law_kind", "_law_cell", "_law_more", "_law_base"] (ai cK) := by walk_at "sc"
theorem vP (F : Fun K "_law_deed" "_law_deed" cK f fd) : Binds K fd ["_law_rows", "_law_names", "_law_coins", "_law_kind", "_law_cell", "_law_more", "_law_base"] [] := F.binds fun _ _ _ _ _ _ us hl => by obtain ⟨_, _, _, _, _, _, _, rfl⟩ := ex7 hl; rfl
theorem jc : aM ["_law_chart", "_law_rows", "_law_kinds", "_law_path", "_law_day", "_law_way", "_law_held", "_law_currency", "_law_first", "_law_end", "_law_span", "_law_found", "_law_due_here", "_law_below"] ["_law_chart", "_law_rows", "_law_kinds", "_law_path", "_law_day", "_law_way", "_law_held"] (ai bH) := by walk_at "sc"
theorem qF (F : Fun K "_law_way_good" "_law_way_good" bH f fd) : Binds K fd ["_law_chart", "_law_rows", "_law_kinds", "_law_path", "_law_day", "_law_way", "_law_held"] [] := F.binds fun _ _ _ _ _ _ us hl => by obtain ⟨_, _, _, _, _, _, _, rfl⟩ := ex7 hl; rfl
theorem jp : aM ["_law_chart", "_law_rows", "_law_kinds", "_law_path", "_law_day", "_law_held", "_law_turn", "_law_k"] ["_law_chart", "_law_rows", "_law_kinds", "_law_path", "_law_day", "_law_held", "_law_turn"] (ai cq) := by walk_at "sc"
theorem iT (F : Fun K "_law_one_good" "_law_one_good" cq f fd) : Binds K fd ["_law_chart", "_law_rows", "_law_kinds", "_law_path", "_law_day", "_law_held", "_law_turn"] [] := F.binds fun _ _ _ _ _ _ us hl => by obtain ⟨_, _, _, _, _, _, _, rfl⟩ := ex7 hl; rfl
theorem mT : aM ["_law_chart", "_law_way", "_law_thing", "_law_day", "_law_e"] ["_law_chart", "_law_way", "_law_thing", "_law_day"] (ai dg) := by walk_at "sc"
theorem ui (F : Fun K "_law_asked" "_law_asked" dg f fd) : Binds K fd ["_law_chart", "_law_way", "_law_thing", "_law_day"] [] := F.binds fun _ _ _ _ _ _ us hl => by obtain ⟨_, _, _, _, rfl⟩ := ex4 hl; rfl
theorem og : aM ["_law_chart", "_law_rows", "_law_thing", "_law_day"] ["_law_chart", "_law_rows", "_law_thing", "_law_day"] (ai bC) := by walk_at "sc"
theorem oo (F : Fun K "_law_none_good" "_law_none_good" bC f fd) : Binds K fd ["_law_chart", "_law_rows", "_law_thing", "_law_day"] [] := F.binds fun _ _ _ _ _ _ us hl => by obtain ⟨_, _, _, _, rfl⟩ := ex4 hl; rfl
theorem kX : aM ["_law_chart", "_law_rows", "_law_held", "_law_found"] ["_law_chart", "_law_rows", "_law_held"] (ai cS) := by walk_at "sc"
theorem lS (F : Fun K "_law_listed" "_law_listed" cS f fd) : Binds K fd ["_law_chart", "_law_rows", "_law_held"] [] := F.binds fun _ _ _ _ _ _ us hl => by obtain ⟨_, _, _, rfl⟩ := ex3 hl; rfl
theorem iw : aM ["_law_chart", "_law_rows", "_law_kinds", "_law_deed_here", "_law_day", "_law_held", "_law_turn", "_law_due_here"] ["_law_chart", "_law_rows", "_law_kinds", "_law_deed_here", "_law_day", "_law_held", "_law_turn"] (ai bB) := by walk_at "sc"
theorem iq (F : Fun K "_law_went_good" "_law_went_good" bB f fd) : Binds K fd ["_law_chart", "_law_rows", "_law_kinds", "_law_deed_here", "_law_day", "_law_held", "_law_turn"] [] := F.binds fun _ _ _ _ _ _ us hl => by obtain ⟨_, _, _, _, _, _, _, rfl⟩ := ex7 hl; rfl
theorem ia : aM ["_law_chart", "_law_rows", "_law_kinds", "_law_names", "_law_base", "_law_held", "_law_path", "_law_low", "_law_deeds", "_law_k", "_law_deed_here"] ["_law_chart", "_law_rows", "_law_kinds", "_law_names", "_law_base", "_law_held"] (ai bz) := by walk_at "sc"
theorem nQ (F : Fun K "_law_again_good" "_law_again_good" bz f fd) : Binds K fd ["_law_chart", "_law_rows", "_law_kinds", "_law_names", "_law_base", "_law_held"] [] := F.binds fun _ _ _ _ _ _ us hl => by obtain ⟨_, _, _, _, _, _, rfl⟩ := ex6 hl; rfl
theorem je : aM ["_law_chart", "_law_rows", "_law_kinds", "_law_names", "_law_day", "_law_turn", "_law_path", "_law_things"] ["_law_chart", "_law_rows", "_law_kinds", "_law_names", "_law_day"] (ai bL) := by walk_at "sc"
theorem qI (F : Fun K "_law_end_good" "_law_end_good" bL f fd) : Binds K fd ["_law_chart", "_law_rows", "_law_kinds", "_law_names", "_law_day"] [] := F.binds fun _ _ _ _ _ _ us hl => by obtain ⟨_, _, _, _, _, rfl⟩ := ex5 hl; rfl
theorem Bv : aM ["_law_script", "_law_names", "_law_coins", "_law_base", "_law_charts", "_law_rows", "_law_kinds", "_law_side", "_law_day", "_law_held", "_law_kept", "_law_k", "_law_deed_here", "_law_turn", "_law_which"] ["_law_script"] (ai e9) := by walk_at "sc"
theorem mn : aM ["self", "kind", "currency", "first"] ["self", "kind", "currency", "first"] (ai bO) := by walk_at "sc"
theorem gL (F : Fun K "__init__" "Account.__init__" bO f fd) : Binds K fd ["self", "kind", "currency", "first"] [] := F.binds fun _ _ _ _ _ _ us hl => by obtain ⟨_, _, _, _, rfl⟩ := ex4 hl; rfl
theorem lT : aM ["self", "day"] ["self", "day"] (ai bE) := by walk_at "sc"
theorem fT (F : Fun K "stands_on" "Account.stands_on" bE f fd) : Binds K fd ["self", "day"] [] := F.binds fun _ _ _ _ _ _ us hl => by obtain ⟨_, _, rfl⟩ := ex2 hl; rfl
theorem iP : aM ["self", "day"] ["self", "day"] (ai bq) := by walk_at "sc"
theorem iQ (F : Fun K "stands_later" "Account.stands_later" bq f fd) : Binds K fd ["self", "day"] [] := F.binds fun _ _ _ _ _ _ us hl => by obtain ⟨_, _, rfl⟩ := ex2 hl; rfl
theorem nY : aM ["self"] ["self"] (ai bW) := by walk_at "sc"
theorem on (F : Fun K "__init__" "Chart.__init__" bW f fd) : Binds K fd ["self"] [] := F.binds fun _ _ _ _ _ _ us hl => by obtain ⟨_, rfl⟩ := ex1 hl; rfl
theorem qK : aM ["self", "name", "kind"] ["self", "name", "kind"] (ai cw) := by walk_at "sc"
theorem iR (F : Fun K "add_top" "Chart.add_top" cw f fd) : Binds K fd ["self", "name", "kind"] [] := F.binds fun _ _ _ _ _ _ us hl => by obtain ⟨_, _, _, rfl⟩ := ex3 hl; rfl
theorem nZ : aM ["self", "path", "currency", "day", "upper"] ["self", "path", "currency", "day"] (ai cH) := by walk_at "sc"
theorem vm (F : Fun K "add" "Chart.add" cH f fd) : Binds K fd ["self", "path", "currency", "day"] [] := F.binds fun _ _ _ _ _ _ us hl => by obtain ⟨_, _, _, _, rfl⟩ := ex4 hl; rfl
theorem mP : aM ["self", "path", "day", "account"] ["self", "path", "day"] (ai df) := by walk_at "sc"
theorem ul (F : Fun K "shut" "Chart.shut" df f fd) : Binds K fd ["self", "path", "day"] [] := F.binds fun _ _ _ _ _ _ us hl => by obtain ⟨_, _, _, rfl⟩ := ex3 hl; rfl
theorem vA : aM ["self", "path"] ["self", "path"] (ai dL) := by walk_at "sc"
theorem jU (F : Fun K "has" "Chart.has" dL f fd) : Binds K fd ["self", "path"] [] := F.binds fun _ _ _ _ _ _ us hl => by obtain ⟨_, _, rfl⟩ := ex2 hl; rfl
theorem p_ : aM ["self", "path"] ["self", "path"] (ai cr) := by walk_at "sc"
theorem bV (F : Fun K "account" "Chart.account" cr f fd) : Binds K fd ["self", "path"] [] := F.binds fun _ _ _ _ _ _ us hl => by obtain ⟨_, _, rfl⟩ := ex2 hl; rfl
theorem qi : aM ["self", "path"] ["self", "path"] (ai cp) := by walk_at "sc"
theorem jD (F : Fun K "kind_of" "Chart.kind_of" cp f fd) : Binds K fd ["self", "path"] [] := F.binds fun _ _ _ _ _ _ us hl => by obtain ⟨_, _, rfl⟩ := ex2 hl; rfl
theorem k9 : aM ["self", "path"] ["self", "path"] (ai bF) := by walk_at "sc"
theorem fL (F : Fun K "currency_of" "Chart.currency_of" bF f fd) : Binds K fd ["self", "path"] [] := F.binds fun _ _ _ _ _ _ us hl => by obtain ⟨_, _, rfl⟩ := ex2 hl; rfl
theorem jh : aM ["self", "path", "account"] ["self", "path"] (ai cg) := by walk_at "sc"
theorem iW (F : Fun K "span_of" "Chart.span_of" cg f fd) : Binds K fd ["self", "path"] [] := F.binds fun _ _ _ _ _ _ us hl => by obtain ⟨_, _, rfl⟩ := ex2 hl; rfl
theorem qC : aM ["self", "path", "day"] ["self", "path", "day"] (ai cf) := by walk_at "sc"
theorem iX (F : Fun K "is_open" "Chart.is_open" cf f fd) : Binds K fd ["self", "path", "day"] [] := F.binds fun _ _ _ _ _ _ us hl => by obtain ⟨_, _, _, rfl⟩ := ex3 hl; rfl
theorem qu : aM ["self", "path"] ["self", "path"] (ai cj) := by walk_at "sc"
theorem iM (F : Fun K "beneath" "Chart.beneath" cj f fd) : Binds K fd ["self", "path"] [] := F.binds fun _ _ _ _ _ _ us hl => by obtain ⟨_, _, rfl⟩ := ex2 hl; rfl
theorem n9 : aM ["self"] ["self"] (ai bY) := by walk_at "sc"
theorem pp (F : Fun K "accounts" "Chart.accounts" bY f fd) : Binds K fd ["self"] [] := F.binds fun _ _ _ _ _ _ us hl => by obtain ⟨_, rfl⟩ := ex1 hl; rfl
end
seal L2.PE L2.PT L2.PW L2.PA L2.PS L2.PSs L2.PI L2.PG L2.PGs L2.PO
local macro_rules | `(tactic| walk_at "rd") => `(tactic| try simp only [B9, rdI, V.int.injEq, V.ref.injEq, zA, CK, zL, Aw, Cp, CC, BH, CZ, Cq, L2.start, List.map_cons, List.map_nil, List.cons_append, List.nil_append, List.append_nil, List.length_cons, List.length_nil, List.replicate, List.getElem?_cons_zero, List.getElem?_cons_succ, List.set_cons_zero, List.set_cons_succ, Nat.reduceSub, Nat.reduceAdd, Int.reduceLT, Int.reduceLE, Int.reducePow, Int.reduceNeg, Nat.reducePow, List.cons.injEq, exists_eq_left', exists_eq_left, eq_self, if_false, if_true, ↓reduceIte, ite_not, forall_const, Option.bind_some, id_eq, Ck, Cu])
local macro_rules | `(tactic| walk_at "om") => `(tactic| first | exact Nat.le_trans (by decide) (by assumption : 1000 <= sizeLine) | omega)
section
variable {pS : Addr} {ns : List Int} {P : Program} {w : World} {K : W.Frag} {mg : Str -> Option Value} {base : Heap} {a : Adr}
theorem szl : 1000 <= sizeLine := by rw [sizeLine_eq]; decide
theorem HJ : 1000 < sizeLine := by rw [sizeLine_eq]; decide
theorem itp {c : Prop} [Decidable c] {t e : Prop} (h : c) (x : t) : ite c t e := by rw [if_pos h]; exact x
theorem itn {c : Prop} [Decidable c] {t e : Prop} (h : ¬ c) (x : e) : ite c t e := by rw [if_neg h]; exact x
def sp_qR : Sp := sp1 fun x H Q _ => NoT H /\ asK H x fun _ => Q (.bl (isI x)) H
theorem xm (T : Txt K mg a) : bQ P w K mg base (XE P w) 1 a.ni a.qY ["thing"] sp_qR := by
 refine T.m_.okG xy (fun vs H Q E h => sp1.len h) (fun cdv A outer s H vs Q E hr h => ?_)
 obtain ⟨x0, rfl, h⟩ := sp1.inv h
 try dsimp only [sp_qR, sp1] at h
 obtain ⟨hN, h1⟩ := h
 obtain ⟨t, ht, hb, k⟩ := asK.inv h1
 refine ⟨hN, _, (aj (aA (eU (aG (bI K) rfl T.aP aJ (FA.pa (aa (fv 0) (aa (cU (v := .ty "int") rfl T.tD nM rfl) ad)))) (d5 (BS (aG (bI K) rfl T.aP aJ (FA.pa (aa (fv 0) (aa (cU (v := .ty "bool") rfl T.yZ vB rfl) ad))))))))), ?_⟩
 walk_at "rd"
 simp only [ht]
 rw [<- xq ht] at k
 rcases hb with rfl | rfl | rfl | rfl | rfl | rfl | rfl
 all_goals first
  | exact E7 k
  | exact yu k
def amg (x : V) (lo hi : Int) : Bool := match x with
 | .int i => decide (lo <= i) && decide (i <= hi)
 | _ => false
theorem Aa {x : V} {lo hi : Int} (h : isI x = false) : amg x lo hi = false := by
 unfold amg
 split
 ·cases h
 ·rfl
def sp_rh : Sp := sp3 fun x y z H Q _ => NoT H /\ asI y fun lo => asI z fun hi => asK H x fun _ => Q (.bl (amg x lo hi)) H
theorem w_ (T : Txt K mg a) : bQ P w K mg base (XE P w) 2 a.nK a.rn ["thing", "least", "most"] sp_rh := by
 refine T.mU.okG wZ (fun vs H Q E h => sp3.len h) (fun cdv A outer s H vs Q E hr h => ?_)
 obtain ⟨x0, x1, x2, rfl, h⟩ := sp3.inv h
 try dsimp only [sp_rh, sp3] at h
 obtain ⟨hN, h1⟩ := h
 obtain ⟨lo, rfl, h2⟩ := asI.inv h1
 obtain ⟨hi, rfl, h3⟩ := asI.inv h2
 obtain ⟨t, ht, hb, k⟩ := asK.inv h3
 have G_is_whole := @xm P w K mg base a T
 have b_is_whole := xS T.m_
 refine ⟨hN, _, (aj (aA (eU (aN G_is_whole (hr.mono (by decide)) rfl T.y0 T.m_.kp b_is_whole .nil bb (FA.pa (aa (fv 0) ad))) (d5 (lX gH gH (fv 1) (fv 0) (fv 2)))))), ?_⟩
 walk_at "rd"
 refine ⟨hN, asK.of ht ?_⟩
 cases e : isI x0 with
 | false =>
  rw [Aa e] at k
  exact yu k
 | true =>
  cases x0 with
  | int i =>
   refine E7 ?_
   walk_at "rd"
   split
   ·rename_i h1
    have e : amg (.int i) lo hi = decide (i <= hi) := by simp [amg, h1]
    rw [e] at k; exact k
   ·rename_i h1
    have e : amg (.int i) lo hi = false := by simp [amg, h1]
    rw [e] at k; exact k
  | _ => cases e
theorem r_ {x : V} {lo hi : Int} (h : amg x lo hi = true) : ∃ i, x = .int i /\ lo <= i /\ i <= hi := by
 unfold amg at h
 split at h
 ·rename_i i; simp at h; exact ⟨i, rfl, h.1, h.2⟩
 ·cases h
def sp_vd : Sp := sp1 fun x H Q _ => NoT H /\ asK H x fun _ => Q (.bl (amg x 0 146096)) H
theorem uu (T : Txt K mg a) : bQ P w K mg base (XE P w) 3 a.sW a.uE ["thing"] sp_vd := by
 refine T.lH.okG A9 (fun vs H Q E h => sp1.len h) (fun cdv A outer s H vs Q E hr h => ?_)
 obtain ⟨x0, rfl, h⟩ := sp1.inv h
 try dsimp only [sp_vd, sp1] at h
 obtain ⟨hN, h1⟩ := h
 have G_is_among := @w_ P w K mg base a T
 have b_is_among := ym T.mU
 refine ⟨hN, _, (aj (aA (aN G_is_among (hr.mono (by decide)) rfl T.zg T.mU.kp b_is_among .nil bb (FA.pa (aa (fv 0) (aa ag (aa ag ad))))))), ?_⟩
 walk_at "rd"
 exact ⟨hN, h1⟩
theorem FN (a b : Nat) : leN [a] [b] = decide (a <= b) := by
 unfold leN
 have h : ([b] < [a]) ↔ b < a := by
  rw [List.cons_lt_cons_iff]; simp
 rw [decide_eq_decide.mpr h]
 by_cases h2 : b < a
 ·rw [decide_eq_true h2, decide_eq_false (by walk_at "om")]; rfl
 ·rw [decide_eq_false h2, decide_eq_true (by walk_at "om")]; rfl
local macro_rules | `(tactic| walk_at "rd") => `(tactic| try simp only [B9, rdI, V.int.injEq, V.ref.injEq, zA, CK, zL, Aw, Cp, CC, BH, CZ, Cq, L2.start, List.map_cons, List.map_nil, List.cons_append, List.nil_append, List.append_nil, List.length_cons, List.length_nil, List.replicate, List.getElem?_cons_zero, List.getElem?_cons_succ, List.set_cons_zero, List.set_cons_succ, Nat.reduceSub, Nat.reduceAdd, Int.reduceLT, Int.reduceLE, Int.reducePow, Int.reduceNeg, Nat.reducePow, List.cons.injEq, exists_eq_left', exists_eq_left, eq_self, if_false, if_true, ↓reduceIte, ite_not, forall_const, Option.bind_some, id_eq, Ck, Cu, FN])
def ok (l : List Nat) : Prop := (∀ c ∈ l, c < 128) /\ l.length <= 1000
theorem oE {l : List Nat} (h : ok l) : l.length <= sizeLine := Nat.le_trans h.2 (by rw [sizeLine_eq]; decide)
def lie (l : List Nat) (a b : Nat) : Bool := l.all fun c => decide (a <= c) && decide (c <= b)
def sp_pv : Sp := sp3 fun x y z H Q _ => NoT H /\ asT x fun l => asT y fun lo => asT z fun hi => ok l /\ ∃ a b, lo = [a] /\ hi = [b] /\ Q (.bl (lie l a b)) H
theorem om (T : Txt K mg a) : bQ P w K mg base (XE P w) 1 a.lP a.pA ["text", "least", "most"] sp_pv := by
 refine T.fW.okG wc (fun vs H Q E h => sp3.len h) (fun cdv A outer s H vs Q E hr h => ?_)
 obtain ⟨x0, x1, x2, rfl, h⟩ := sp3.inv h
 try dsimp only [sp_pv, sp3] at h
 obtain ⟨hN, h1⟩ := h
 obtain ⟨l, rfl, h2⟩ := asT.inv h1
 obtain ⟨lo, rfl, h3⟩ := asT.inv h2
 obtain ⟨hi, rfl, hl, a, b, rfl, rfl, k⟩ := asT.inv h3
 refine ⟨hN, _, (aj (aA (aG (zJ K rfl) rfl T.EN B8 (FA.pa (aa (dt rfl (cl := _) (x := "sign") (xs := ["sign"]) (fr := ["least", "most"]) (ks := [1, 2]) (by exact ⟨rfl, by decide +kernel, rfl, by decide +kernel, rfl, cI rfl, rfl, aW rfl, aW (k := fun y => List.lookup y _) rfl, cJ rfl⟩) rfl (zt (fv 0)) (fun _ _ _ _ _ => (bv (i := 0) (fQ (l := ["sign", "least", "most"]) (by decide)) rfl (Or.inl rfl))) (fun _ _ _ _ _ => fI) (fun _ _ _ _ _ => (lX gH gH (fv 1) (fv 0) (fv 2)))) ad))))), ?_⟩
 walk_at "rd"
 refine cmS (fun _ => True) (fun _ _ _ => trivial) l (fun _ => true) (fun c => .bl (decide (a <= c) && decide (c <= b))) (fun R r => r) hl.1 (oE hl) (fun c _ H R _ r => r) (fun c _ _ H R _ r => ?_) (fun D hD => ?_)
 ·walk_at "rd"
  by_cases h1 : a <= c
  ·simp only [h1, decide_true, Bool.true_and] at r ⊢
   exact r
  ·simp only [h1, decide_false, Bool.false_and] at r ⊢
   exact r
 ·refine ⟨l.map fun c => decide (a <= c) && decide (c <= b), SqL.of (by rw [ae, List.filter_eq_self.mpr (by simp), List.map_map]; rfl), H, Gc.none (al _ hD), ?_⟩
  have e : (l.map fun c => decide (a <= c) && decide (c <= b)).all id = lie l a b := by
   rw [List.all_map]; rfl
  rw [e]; exact k
theorem jF {H : Hp} {x : V} {t : String} (ht : cN H x = some t) (h : ¬ ∃ l, x = .str ⟨⟨l⟩⟩) : cF t "str" = false := by
 unfold cN at ht
 split at ht
 case h_4 y => exact absurd ⟨y.cps.toList, rfl⟩ h
 case h_5 => split at ht <;> cases ht <;> decide
 all_goals (cases ht <;> decide)
def okV (x : V) : Prop := ∀ l, x = .str ⟨⟨l⟩⟩ -> ok l
def nm (l : List Nat) : Bool := decide (1 <= l.length) && decide (l.length <= 12) && lie l 97 122
def nameV : V -> Bool
 | .str y => nm (cs y)
 | _ => false
def sp_sr : Sp := sp1 fun x H Q _ => NoT H /\ okV x /\ asK H x fun _ => Q (.bl (nameV x)) H
theorem sG (T : Txt K mg a) : bQ P w K mg base (XE P w) 2 a.qz a.tP ["thing"] sp_sr := by
 refine T.ja.okG yB (fun vs H Q E h => sp1.len h) (fun cdv A outer s H vs Q E hr h => ?_)
 obtain ⟨x0, rfl, h⟩ := sp1.inv h
 try dsimp only [sp_sr, sp1] at h
 obtain ⟨hN, ho, h1⟩ := h
 obtain ⟨t, ht, hb, k⟩ := asK.inv h1
 have G_signs_lie := @om P w K mg base a T
 have b_signs_lie := ol T.fW
 refine ⟨hN, _, (aj (aA (eU (aG (bI K) rfl T.aP aJ (FA.pa (aa (fv 0) (aa (cU (v := .ty "str") rfl T.sR nB rfl) ad)))) (eU (lX gH gH ag (aG (dm K) rfl T.g_ eO (FA.pa (aa (fv 0) ad))) ag) (d5 (aN G_signs_lie (hr.mono (by decide)) rfl T.q_ T.fW.kp b_signs_lie .nil bb (FA.pa (aa (fv 0) (aa (ak [97]) (aa (ak [122]) ad)))))))))), ?_⟩
 by_cases hx : ∃ l, x0 = .str ⟨⟨l⟩⟩
 ·obtain ⟨l, rfl⟩ := hx
  have hl := ho l rfl
  have k' : Q (.bl (nm l)) H := k
  cases ht
  walk_at "rd"
  refine ⟨oE hl, ?_⟩
  split
  ·rename_i h1
   split
   ·rename_i h2
    have e : nm l = lie l 97 122 := by
     unfold nm; rw [decide_eq_true (by walk_at "om"), decide_eq_true (by walk_at "om")]; rfl
    rw [e] at k'
    exact ⟨hN, hl, 97, 122, rfl, rfl, k'⟩
   ·rename_i h2
    have e : nm l = false := by
     unfold nm; rw [decide_eq_false (by walk_at "om" : ¬ l.length <= 12)]; simp
    rw [e] at k'; exact k'
  ·rename_i h1
   have e : nm l = false := by
    unfold nm; rw [decide_eq_false (by walk_at "om" : ¬ 1 <= l.length)]; simp
   rw [e] at k'; exact k'
 ·have e := jF ht hx
  have e2 : nameV x0 = false := by
   cases x0 with
   | str y => exact absurd ⟨y.cps.toList, rfl⟩ hx
   | _ => rfl
  rw [e2] at k
  walk_at "rd"
  simp only [ht]
  rw [e]
  exact yu k
def cur (l : List Nat) : Bool := decide (l.length = 3) && lie l 65 90
def A_ : V -> Bool
 | .str y => cur (cs y)
 | _ => false
theorem xG {x : V} (h : ¬ ∃ l, x = .str ⟨⟨l⟩⟩) : A_ x = false := by
 cases x with
 | str y => exact absurd ⟨y.cps.toList, rfl⟩ h
 | _ => rfl
def sp_uA : Sp := sp1 fun x H Q _ => NoT H /\ okV x /\ asK H x fun _ => Q (.bl (A_ x)) H
theorem sB (T : Txt K mg a) : bQ P w K mg base (XE P w) 2 a.iI a.k6 ["thing"] sp_uA := by
 refine T.iJ.okG sV (fun vs H Q E h => sp1.len h) (fun cdv A outer s H vs Q E hr h => ?_)
 obtain ⟨x0, rfl, h⟩ := sp1.inv h
 try dsimp only [sp_uA, sp1] at h
 have HU := bx hr
 obtain ⟨hN, ho, h1⟩ := h
 obtain ⟨t, ht, hb, k⟩ := asK.inv h1
 have G_signs_lie := @om P w K mg base a T
 have b_signs_lie := ol T.fW
 refine ⟨hN, _, (aj (aA (eU (aG (bI K) rfl T.aP aJ (FA.pa (aa (fv 0) (aa (cU (v := .ty "str") rfl T.sR nB rfl) ad)))) (eU (cz (bo K HU) (aG (dm K) rfl T.g_ eO (FA.pa (aa (fv 0) ad))) ag (aO _)) (d5 (aN G_signs_lie (hr.mono (by decide)) rfl T.q_ T.fW.kp b_signs_lie .nil bb (FA.pa (aa (fv 0) (aa (ak [65]) (aa (ak [90]) ad)))))))))), ?_⟩
 by_cases hs : ∃ l, x0 = .str ⟨⟨l⟩⟩
 ·obtain ⟨l, rfl⟩ := hs
  have hl := ho l rfl
  have k' : Q (.bl (cur l)) H := k
  unfold cur at k'
  walk_at "rd"
  refine ⟨oE hl, ?_⟩
  split
  ·rename_i h1
   rw [decide_eq_true (by omega : l.length = 3)] at k'
   exact ⟨hN, hl, 65, 90, rfl, rfl, k'⟩
  ·rename_i h1
   rw [decide_eq_false (by omega : ¬ l.length = 3)] at k'
   exact k'
 ·rw [xG hs] at k
  walk_at "rd"
  simp only [ht, jF ht hs]
  first | exact k | exact yu k
def sp_pj (K : W.Frag) : Sp := sp1 fun x H Q _ => asR x fun p => NoT H /\ ∃ xs, SqL K H p xs /\ xs.length <= 300 /\ (∀ y ∈ xs, okV y /\ ∃ t, cN H y = some t) /\ Q (.bl (decide (1 <= xs.length) && decide (xs.length <= 6) && xs.all nameV)) H
theorem vW (T : Txt K mg a) : bQ P w K mg base (XE P w) 3 a.lG a.pU ["names"] (sp_pj K) := by
 refine T.kW.okG v_ (fun vs H Q E h => sp1.len h) (fun cdv A outer s H vs Q E hr h => ?_)
 obtain ⟨x0, rfl, h⟩ := sp1.inv h
 try dsimp only [sp_pj, sp1] at h
 obtain ⟨p, rfl, hN, xs, hS, hl, hx, k⟩ := asR.inv h
 have G_is_name := @sG P w K mg base a T
 have b_is_name := sK T.ja
 refine ⟨hN, _, (aj (aA (eU (lX gH gH ag (aG (dm K) rfl T.g_ eO (FA.pa (aa (fv 0) ad))) ag) (d5 (aG (zJ K rfl) rfl T.EN B8 (FA.pa (aa (dt rfl (cl := _) (x := "name") (xs := ["name"]) (fr := []) (ks := []) (by exact ⟨rfl, by decide +kernel, rfl, by decide +kernel, rfl, cI rfl, rfl, aW rfl, aW (k := fun y => List.lookup y _) rfl, cJ rfl⟩) rfl (lg K (fv 0)) (fun _ _ _ _ _ => (bv (i := 0) (fQ (l := ["name"]) (by decide)) rfl (Or.inl rfl))) (fun _ _ _ _ _ => fI) (fun _ _ _ _ _ => (aN G_is_name (hr.mono (by decide)) rfl T.u_ T.ja.kp b_is_name .nil mQ (FA.pa (aa (fv 0) ad))))) ad))))))), ?_⟩
 walk_at "rd"
 refine ⟨xs, .inl hS, ?_⟩
 have sz := szl
 split
 ·rename_i h1
  split
  ·rename_i h2
   have e : (decide (1 <= xs.length) && decide (xs.length <= 6) && xs.all nameV) = xs.all nameV := by
    rw [decide_eq_true (by walk_at "om"), decide_eq_true (by walk_at "om")]; rfl
   rw [e] at k
   refine cmL p xs (fun H' => NoT H' /\ SqL K H' p xs /\ Same H H') (fun D ys hD => ⟨az hN rfl, hS.same (al _ hD), al _ hD⟩) (fun H' c => c.2.1) (fun _ => true) (fun x => .bl (nameV x)) (fun R r => r) hS (by walk_at "om") (fun x _ H' R _ r => r) (fun x hx' _ H' R c r => ?_) (fun D hD => ?_)
   ·obtain ⟨o1, t, o2⟩ := hx x hx'
    walk_at "rd"
    exact ⟨c.1, o1, asK.of (e6 c.2.2 o2) r⟩
   ·refine ⟨xs.map nameV, SqL.of (by rw [ae, List.filter_eq_self.mpr (by simp), List.map_map]; rfl), H, Gc.none (al _ hD), ?_⟩
    rw [List.all_map]; exact k
  ·rename_i h2
   have e : (decide (1 <= xs.length) && decide (xs.length <= 6) && xs.all nameV) = false := by
    rw [decide_eq_false (by walk_at "om" : ¬ xs.length <= 6)]; simp
   rw [e] at k; exact k
 ·rename_i h1
  have e : (decide (1 <= xs.length) && decide (xs.length <= 6) && xs.all nameV) = false := by
   rw [decide_eq_false (by walk_at "om" : ¬ 1 <= xs.length)]; simp
  rw [e] at k; exact k
def d_ (l : List Nat) : Bool := decide (1 <= (spN 58 l).length) && decide ((spN 58 l).length <= 6) && (spN 58 l).all nm
def ft : V -> Bool
 | .str y => d_ (cs y)
 | _ => false
def okP (x : V) : Prop := ∀ l, x = .str ⟨⟨l⟩⟩ -> (∀ c ∈ l, c < 128) /\ l.length <= 199
def sp_tS : Sp := sp1 fun x H Q _ => NoT H /\ okP x /\ asK H x fun _ => Q (.bl (ft x)) H
theorem tO (T : Txt K mg a) : bQ P w K mg base (XE P w) 4 a.qy a.tN ["thing"] sp_tS := by
 refine T.i6.okG yN (fun vs H Q E h => sp1.len h) (fun cdv A outer s H vs Q E hr h => ?_)
 obtain ⟨x0, rfl, h⟩ := sp1.inv h
 try dsimp only [sp_tS, sp1] at h
 obtain ⟨hN, ho, h1⟩ := h
 obtain ⟨t, ht, hb, k⟩ := asK.inv h1
 have G_are_names := @vW P w K mg base a T
 have b_are_names := wj T.kW
 refine ⟨hN, _, (aj (aA (eU (aG (bI K) rfl T.aP aJ (FA.pa (aa (fv 0) (aa (cU (v := .ty "str") rfl T.sR nB rfl) ad)))) (d5 (aN G_are_names (hr.mono (by decide)) rfl T.xE T.kW.kp b_are_names .nil bb (FA.pa (aa (cW K PySem.F.plainAttrs_str PySem.F.slot_str_split PySem.F.type_str_split oM (fv 0) (FA.pa (aa (ak [58]) ad))) ad))))))), ?_⟩
 by_cases hx : ∃ l, x0 = .str ⟨⟨l⟩⟩
 ·obtain ⟨l, rfl⟩ := hx
  have hl := ho l rfl
  have k' : Q (.bl (d_ l)) H := k
  cases ht
  walk_at "rd"
  have sz := szl
  have sl := jM 58 l
  refine ⟨by walk_at "om", fun p hp => ⟨az hN rfl, _, SqL.of ae, by rw [List.length_map]; omega, fun y hy => ?_, H, Gc.none (al _ hp), ?_⟩⟩
  ·obtain ⟨q, hq, rfl⟩ := List.mem_map.mp hy
   obtain ⟨m1, m2⟩ := gR 58 l q hq
   exact ⟨fun l' e => by cases e; exact ⟨fun c hc => hl.1 c (m2 c hc), by walk_at "om"⟩, _, rfl⟩
  ·have e : (List.map L2.T (spN 58 l)).all nameV = (spN 58 l).all nm := by rw [List.all_map]; rfl
   rw [List.length_map, e]; exact k'
 ·have e := jF ht hx
  have e2 : ft x0 = false := by
   cases x0 with
   | str y => exact absurd ⟨y.cps.toList, rfl⟩ hx
   | _ => rfl
  rw [e2] at k
  walk_at "rd"
  simp only [ht]
  rw [e]
  exact yu k
def tx (ls : List (List Nat)) : HO := .lst (ls.map L2.T)
def sp_qU (c : Addr) : Sp := sp1 fun x H Q E => NoT H /\ okP x /\ asK H x fun _ => if ft x = true then asT x fun l => ∀ p, H p = none -> Q (.ref p) (upd H p (tx (spN 58 l))) else E (.ref c) none H
theorem yq (T : Txt K mg a) : bQ P w K mg base (XE P w) 5 a.nu a.qM ["path"] (sp_qU a.aU) := by
 refine T.nv.okG wT (fun vs H Q E h => sp1.len h) (fun cdv A outer s H vs Q E hr h => ?_)
 obtain ⟨x0, rfl, h⟩ := sp1.inv h
 try dsimp only [sp_qU, sp1] at h
 obtain ⟨hN, ho, h1⟩ := h
 obtain ⟨t, ht, hb, k⟩ := asK.inv h1
 have G_is_path := @tO P w K mg base a T
 have b_is_path := sN T.i6
 refine ⟨hN, _, (af (aS (cc (b_ (aN G_is_path (hr.mono (by decide)) rfl T.uW T.i6.kp b_is_path .nil bb (FA.pa (aa (fv 0) ad))))) (aj (cL T.qB PySem.F.excBase_ValueError rfl rfl T.me dE (FA.pa (aa (ak [116, 104, 105, 115, 32, 105, 115, 32, 110, 111, 32, 112, 97, 116, 104]) ad)))) aD)
  (aj (aA (cW K PySem.F.plainAttrs_str PySem.F.slot_str_split PySem.F.type_str_split oM (fv 0) (FA.pa (aa (ak [58]) ad)))))), ?_⟩
 walk_at "rd"
 have sz := szl
 refine ⟨hN, ho, asK.of ht ?_⟩
 cases e : ft x0 with
 | false =>
  rw [e] at k
  rw [if_pos rfl]
  exact ⟨by walk_at "om", k⟩
 | true =>
  rw [e, if_pos rfl] at k
  rw [if_neg (by decide)]
  obtain ⟨l, rfl, k⟩ := asT.inv k
  have hl := ho l rfl
  walk_at "rd"
  exact ⟨by walk_at "om", fun p hp => ⟨_, Gc.one (al _ hp) hp ae rfl, k p hp⟩⟩
theorem sC {l : List Nat} (h : nm l = true) : 1 <= l.length /\ l.length <= 12 /\ ∀ c ∈ l, 97 <= c /\ c <= 122 := by
 unfold nm lie at h
 simp only [Bool.and_eq_true, decide_eq_true_eq, List.all_eq_true] at h
 exact ⟨h.1.1, h.1.2, fun c hc => h.2 c hc⟩
theorem G6 (xs : List V) {i : Int} (h : 0 <= i) : rz xs none (some i) = xs.take i.toNat := by
 unfold rz
 have e : i = ((i.toNat : Nat) : Int) := by walk_at "om"
 rw [e, HT.sIx_none, HT.sIx_nat, List.drop_zero, Nat.sub_zero]
 by_cases hl : i.toNat <= xs.length
 ·rw [Nat.min_eq_left hl]; rfl
 ·rw [Nat.min_eq_right (by walk_at "om"), List.take_of_length_le (by walk_at "om"), List.take_of_length_le (by simp; omega)]
theorem zW (n : Nat) : ∀ (ls : List (List Nat)), (∀ l ∈ ls, l.length <= n) -> (ls.map List.length).sum <= n * ls.length
 | [], _ => by simp
 | l :: r, h => by
  have := zW n r fun x hx => h x (List.mem_cons_of_mem _ hx)
  have h1 := h l (by simp)
  simp only [List.map_cons, List.sum_cons, List.length_cons, Nat.mul_add, Nat.mul_one]
  omega
theorem yk {ls : List (List Nat)} (h : ∀ l ∈ ls, l.length <= 1000) (hl : ls.length <= 1000) : Cs [58] ls := by
 have := zW 1000 ls h
 have h2 : 1000 * ls.length <= 1000 * 1000 := Nat.mul_le_mul_left _ hl
 unfold Cs
 simp only [List.length_cons, List.length_nil]
 omega
def abN (l : List Nat) : List (List Nat) := (List.range ((spN 58 l).length - 1)).map fun k => bG [58] ((spN 58 l).take (k + 1))
def sp_xD : Sp := sp1 fun x H Q _ => NoT H /\ asT x fun l => ((∀ c ∈ l, c < 128) /\ l.length <= 199) /\ ∀ p, H p = none -> Q (.ref p) (upd H p (tx (abN l)))
theorem Bx (T : Txt K mg a) : bQ P w K mg base (XE P w) 1 a.wA a.xN ["path"] sp_xD := by
 refine T.wE.okG xa (fun vs H Q E h => sp1.len h) (fun cdv A outer s H vs Q E hr h => ?_)
 obtain ⟨x0, rfl, h⟩ := sp1.inv h
 try dsimp only [sp_xD, sp1] at h
 have ND := xa.nd
 obtain ⟨hN, h1⟩ := h
 obtain ⟨l, rfl, hl, k⟩ := asT.inv h1
 refine ⟨hN, _, (af (aT (i := 1) ND rfl (Or.inr rfl) (cW K PySem.F.plainAttrs_str PySem.F.slot_str_split PySem.F.type_str_split oM (fv 0) (FA.pa (aa (ak [58]) ad))))
  (aj (aA (dt rfl (cl := _) (x := "many") (xs := ["many"]) (fr := ["names"]) (ks := [1]) (by exact ⟨rfl, by decide +kernel, rfl, by decide +kernel, rfl, cI rfl, rfl, aW rfl, aW (k := fun y => List.lookup y _) rfl, cJ rfl⟩) rfl (AX rfl T.eG (FA.pa (aa ag (aa (aG (dm K) rfl T.g_ eO (FA.pa (aa (fv 1) ad))) ad)))) (fun _ _ _ _ _ => (bv (i := 0) (fQ (l := ["many", "names"]) (by decide)) rfl (Or.inl rfl))) (fun _ _ _ _ _ => fI) (fun _ _ _ _ _ => (EC (cW K PySem.F.plainAttrs_str PySem.F.slot_str_join PySem.F.type_str_join (lj K) (ak [58]) (FA.pa (aa (sD (sM K) (fv 1) vQ (vS (fv 0))) ad))))))))), ?_⟩
 walk_at "rd"
 have sz := szl
 have sl := jM 58 l
 refine ⟨by walk_at "om", fun p hp => ?_⟩
 have sm := al (HO.lst (List.map L2.T (spN 58 l))) hp
 have nb : ((spN 58 l).length : Int) < 2 ^ 62 := by
  have : (400 : Int) < 2 ^ 62 := by decide
  omega
 refine HE (fun H' => NoT H' /\ SqL K H' p (List.map L2.T (spN 58 l))) (fun D ys hD => ⟨az (az hN rfl) rfl, SqL.same (al _ hD) (SqL.of ae)⟩) 1 (spN 58 l).length ((spN 58 l).length - 1) (by walk_at "om") (fun _ => true)
  (fun v => match v with | .int i => L2.T (bG [58] ((spN 58 l).take i.toNat)) | _ => .non) (fun R r => ?_) ⟨by decide, by decide, by walk_at "om", nb⟩ (by walk_at "om") (fun x _ H' R _ r => r) (fun j hj _ H' R c r => ?_) (fun D hD => ?_)
 ·walk_at "rd"
  exact ⟨_, .inl (SqL.of ae), by rw [List.length_map]; exact r⟩
 ·walk_at "rd"
  refine ⟨c.1, p, _, rfl, c.2, fun q hq => ⟨(spN 58 l).take (1 + (j : Int)).toNat, SqL.of (by rw [ae, G6 _ (by walk_at "om"), List.map_take]), yk (fun x hx => ?_) (by rw [List.length_take]; omega), H', Gc.none (al _ hq), r⟩⟩
  have := (gR 58 l x (List.mem_of_mem_take hx)).1
  omega
 ·refine ⟨_, Gc.one (sm.trans (al _ hD)) (sm.free hD) ae rfl, ?_⟩
  have e : (List.map (fun v => match v with | V.int i => L2.T (bG [58] (List.take i.toNat (spN 58 l))) | _ => V.non) (List.filter (fun _ => true) (List.map (fun k : Nat => V.int (1 + (k : Int))) (List.range ((spN 58 l).length - 1))))) = (abN l).map L2.T := by
   rw [List.filter_eq_self.mpr (by simp), List.map_map]
   unfold abN
   rw [List.map_map]
   apply List.map_congr_left
   intro k _
   show L2.T (bG [58] (List.take (1 + (k : Int)).toNat (spN 58 l))) = L2.T (bG [58] (List.take (k + 1) (spN 58 l)))
   rw [show (1 + (k : Int)).toNat = k + 1 by walk_at "om"]
  rw [e]; exact k D (sm.free hD)
def Keep (S : List Addr) (H H' : Hp) : Prop := ∀ c z, H c = some z -> c ∉ S -> H' c = some z
theorem Keep.refl {S : List Addr} {H : Hp} : Keep S H H := fun _ _ e _ => e
theorem Keep.trans {S : List Addr} {H H1 H2 : Hp} (x : Keep S H H1) (y : Keep S H1 H2) : Keep S H H2 := fun c z e n => y c z (x c z e n) n
theorem Keep.mono {S S' : List Addr} {H H' : Hp} (x : Keep S H H') (h : ∀ c, c ∈ S -> c ∈ S') : Keep S' H H' := fun c z e n => x c z e fun m => n (h c m)
theorem Keep.new {S : List Addr} {H H1 : Hp} {p : Addr} {o : HO} (x : Keep S H H1) (h : H1 p = none) : Keep S H (upd H1 p o) := fun c z e n => by
 rw [ar (au (x c z e n) h)]; exact x c z e n
theorem Keep.put {S : List Addr} {H H1 : Hp} {p : Addr} {o : HO} (x : Keep S H H1) (h : p ∈ S) : Keep S H (upd H1 p o) := fun c z e n => by
 rw [ar (by rintro rfl; exact n h)]; exact x c z e n
theorem Keep.same {S : List Addr} {H H' : Hp} (x : Same H H') : Keep S H H' := fun c z e _ => x c z e
theorem Keep.free {S : List Addr} {H H' : Hp} {p : Addr} (x : Keep S H H') (h : H' p = none) (n : p ∉ S) : H p = none := by
 cases e : H p with
 | none => rfl
 | some z => rw [x p z e n] at h; cases h
theorem bj {H : Hp} {p q : Addr} {x y : HO} (h : H p = some x) (g : H q = some y) (n : x ≠ y := by intro z; cases z) : p ≠ q := by
 rintro rfl; rw [h] at g; cases g; exact n rfl
def cl : Option Int -> V
 | none => .non
 | some m => .int m
structure Acc where
 pa : List Nat
 ob : Addr
 bl : Addr
 ki : V
 cu : V
 fi : Int
 un : Option Int
 be : List (List Nat)
def gw (k c f u b : V) : List (Str × V) := [("kind", k), ("currency", c), ("first", f), ("until", u), ("below", b)]
theorem fk (k c f u b : V) : List.lookup (Str.ofString "kind") (gw k c f u b) = some k := qw
theorem ff (k c f u b : V) : List.lookup (Str.ofString "first") (gw k c f u b) = some f := by unfold gw; rw [bu (by decide +kernel), bu (by decide +kernel)]; exact qw
theorem fu (k c f u b : V) : List.lookup (Str.ofString "until") (gw k c f u b) = some u := by unfold gw; rw [bu (by decide +kernel), bu (by decide +kernel), bu (by decide +kernel)]; exact qw
theorem fb (k c f u b : V) : List.lookup (Str.ofString "below") (gw k c f u b) = some b := by unfold gw; rw [bu (by decide +kernel), bu (by decide +kernel), bu (by decide +kernel), bu (by decide +kernel)]; exact qw
theorem Gs (k c f u b : V) : List.lookup (Str.ofString "stands_on") (gw k c f u b) = none := by unfold gw; rw [bu (by decide +kernel), bu (by decide +kernel), bu (by decide +kernel), bu (by decide +kernel), bu (by decide +kernel)]; rfl
theorem G7 (k c f u b v : V) : gs (Str.ofString "until") v (gw k c f u b) = gw k c f v b := by
 have q1 : ¬ (Str.ofString "kind" = Str.ofString "until") := by decide +kernel
 have q2 : ¬ (Str.ofString "currency" = Str.ofString "until") := by decide +kernel
 have q3 : ¬ (Str.ofString "first" = Str.ofString "until") := by decide +kernel
 simp [gs, gw, q1, q2, q3]
theorem F2 (k c f u b : V) : gs (Str.ofString "below") b (gs (Str.ofString "until") u (gs (Str.ofString "first") f (gs (Str.ofString "currency") c (gs (Str.ofString "kind") k [])))) = gw k c f u b := by
 have q1 : ¬ (Str.ofString "kind" = Str.ofString "until") := by decide +kernel
 have q2 : ¬ (Str.ofString "currency" = Str.ofString "until") := by decide +kernel
 have q3 : ¬ (Str.ofString "first" = Str.ofString "until") := by decide +kernel
 have q4 : ¬ (Str.ofString "kind" = Str.ofString "first") := by decide +kernel
 have q5 : ¬ (Str.ofString "currency" = Str.ofString "first") := by decide +kernel
 have q6 : ¬ (Str.ofString "kind" = Str.ofString "currency") := by decide +kernel
 have q7 : ¬ (Str.ofString "kind" = Str.ofString "below") := by decide +kernel
 have q8 : ¬ (Str.ofString "currency" = Str.ofString "below") := by decide +kernel
 have q9 : ¬ (Str.ofString "first" = Str.ofString "below") := by decide +kernel
 have q0 : ¬ (Str.ofString "until" = Str.ofString "below") := by decide +kernel
 simp [gs, gw, q1, q2, q3, q4, q5, q6, q7, q8, q9, q0]
def sp_vg (A : Addr) : Sp := sp4 fun x k c f H Q _ => NoT H /\ asR x fun p => ∃ dx, H p = some (.ins A dx []) /\ ∀ b H', H b = none -> H' p = some (.ins A dx (gw k c f .non (.ref b))) -> H' b = some (.lst []) -> Keep [p] H H' -> NoT H' -> Q .non H'
theorem gQ (T : Txt K mg a) : bQ P w K mg base (XE P w) 1 a.dh a.gJ ["self", "kind", "currency", "first"] (sp_vg a.ay) := by
 refine T.eS.okX mn (fun vs H Q E h => sp4.len h) (fun cdv A outer s H vs Q E hr h => ?_)
 obtain ⟨x0, x1, x2, x3, rfl, h⟩ := sp4.inv h
 try dsimp only [sp_vg, sp4] at h
 obtain ⟨hN, h1⟩ := h
 obtain ⟨p, rfl, dx, hp, k⟩ := asR.inv h1
 refine ⟨_, (af (jI K (fv 0) (fv 1))
  (af (jI K (fv 0) (fv 2))
  (af (jI K (fv 0) (fv 3))
  (af (jI K (fv 0) cX)
  (aj (jI K (fv 0) (bU (FA.pa ad)))))))), ?_⟩
 walk_at "rd"
 refine ⟨_, _, _, hp, T.aX, T.gZ, by decide, _, _, _, ae, T.aX, T.hX, by show 1 < 1000; decide, _, _, _, ae, T.aX, T.eF, by show 2 < 1000; decide, _, _, _, ae, T.aX, T.bK, by show 3 < 1000; decide, Nat.zero_le _, fun b hb => ?_⟩
 rw [jL, jL, jL] at hb ⊢
 have np : p ≠ b := fun q => by rw [<- q, ae] at hb; cases hb
 have hb0 : H b = none := by rw [ar (Ne.symm np)] at hb; exact hb
 refine ⟨_, _, _, (ar np).trans ae, T.aX, T.eE, by show 4 < 1000; decide, ?_⟩
 rw [F2]
 refine k b _ hb0 ae ?_ ?_ ?_
 ·rw [ar (Ne.symm np), ae]
 ·exact ((Keep.refl.put (List.mem_singleton.2 rfl)).new hb).put (List.mem_singleton.2 rfl)
 ·exact az (az (az hN rfl) rfl) rfl
def lat (u : Option Int) (d : Int) : Bool := match u with
 | none => true
 | some t => decide (d < t)
def opn (f : Int) (u : Option Int) (d : Int) : Bool := decide (f <= d) && lat u d
def sp_on (A : Addr) : Sp := sp2 fun x y H Q _ => NoT H /\ asR x fun p => asI y fun d => ∃ dx k c f u b, H p = some (.ins A dx (gw k c (.int f) (cl u) b)) /\ Q (.bl (opn f u d)) H
theorem fR (T : Txt K mg a) : bQ P w K mg base (XE P w) 1 a.dZ a.fP ["self", "day"] (sp_on a.ay) := by
 refine T.dY.okG lT (fun vs H Q E h => sp2.len h) (fun cdv A outer s H vs Q E hr h => ?_)
 obtain ⟨x0, x1, rfl, h⟩ := sp2.inv h
 try dsimp only [sp_on, sp2] at h
 obtain ⟨hN, h1⟩ := h
 obtain ⟨p, rfl, h2⟩ := asR.inv h1
 obtain ⟨d, rfl, dx, k, c, f, u, b, hp, q⟩ := asI.inv h2
 refine ⟨hN, _, (aj (aA (eU (cz gH (bR K (fv 0)) (fv 1) (aO _)) (d5 (Ax (lO (mZ (bR K (fv 0)))) (d5 (cz uV (fv 1) (bR K (fv 0)) (aO _)))))))), ?_⟩
 walk_at "rd"
 refine ⟨_, _, _, _, hp, T.aX, T.eF, ff .., ?_⟩
 walk_at "rd"
 split
 ·rename_i h1
  refine ⟨_, _, _, _, hp, T.aX, T.bK, fu .., ?_⟩
  have e : opn f u d = lat u d := by unfold opn; rw [decide_eq_true h1]; rfl
  rw [e] at q
  cases u with
  | none => exact q
  | some t =>
   rw [if_neg (by intro z; cases z)]
   exact ⟨_, _, _, _, hp, T.aX, T.bK, fu .., ⟨H, Gc.refl, q⟩⟩
 ·rename_i h1
  have e : opn f u d = false := by unfold opn; rw [decide_eq_false h1]; rfl
  rw [e] at q; exact q
def sp_yt (A : Addr) : Sp := sp2 fun x y H Q _ => NoT H /\ asR x fun p => asI y fun d => ∃ dx k c f u b, H p = some (.ins A dx (gw k c f (cl u) b)) /\ Q (.bl (lat u d)) H
theorem iN (T : Txt K mg a) : bQ P w K mg base (XE P w) 1 a.c9 a.eY ["self", "day"] (sp_yt a.ay) := by
 refine T.e7.okG iP (fun vs H Q E h => sp2.len h) (fun cdv A outer s H vs Q E hr h => ?_)
 obtain ⟨x0, x1, rfl, h⟩ := sp2.inv h
 try dsimp only [sp_yt, sp2] at h
 obtain ⟨hN, h1⟩ := h
 obtain ⟨p, rfl, h2⟩ := asR.inv h1
 obtain ⟨d, rfl, dx, k, c, f, u, b, hp, q⟩ := asI.inv h2
 refine ⟨hN, _, (aj (aA (Ax (lO (mZ (bR K (fv 0)))) (d5 (cz uV (fv 1) (bR K (fv 0)) (aO _)))))), ?_⟩
 walk_at "rd"
 refine ⟨_, _, _, _, hp, T.aX, T.bK, fu .., ?_⟩
 cases u with
 | none => exact q
 | some t =>
  rw [if_neg (by intro z; cases z)]
  exact ⟨_, _, _, _, hp, T.aX, T.bK, fu .., ⟨H, Gc.refl, q⟩⟩
def kyA (c : Acc) : Key × V := (.inr ⟨⟨c.pa⟩⟩, .ref c.ob)
structure AAt (A : Addr) (H : Hp) (c : Acc) : Prop where
 ob : ∃ dx, H c.ob = some (.ins A dx (gw c.ki c.cu (.int c.fi) (cl c.un) (.ref c.bl)))
 ls : H c.bl = some (.lst (c.be.map L2.T))
structure CAt (C A : Addr) (H : Hp) (p d : Addr) (cs : List Acc) : Prop where
 ob : ∃ dx, H p = some (.ins C dx [("by_path", .ref d)])
 dc : H d = some (.dK (cs.map kyA))
 ac : ∀ c ∈ cs, AAt A H c
 np : (cs.map (·.pa)).Nodup
 na : (cs.map (·.ob)).Nodup
 nb : (cs.map (·.bl)).Nodup
theorem CAt.keep {C A : Addr} {S : List Addr} {H H' : Hp} {p d : Addr} {cs : List Acc} (j : CAt C A H p d cs) (x : Keep S H H') (hp : p ∉ S) (hd : d ∉ S) (hc : ∀ c ∈ cs, c.ob ∉ S /\ c.bl ∉ S) : CAt C A H' p d cs :=
 ⟨by obtain ⟨dx, e⟩ := j.ob; exact ⟨dx, x _ _ e hp⟩, x _ _ j.dc hd, fun c hm => ⟨by obtain ⟨dx, e⟩ := (j.ac c hm).ob; exact ⟨dx, x _ _ e (hc c hm).1⟩, x _ _ (j.ac c hm).ls (hc c hm).2⟩, j.np, j.na, j.nb⟩
theorem CAt.same {C A : Addr} {H H' : Hp} {p d : Addr} {cs : List Acc} (j : CAt C A H p d cs) (x : Same H H') : CAt C A H' p d cs :=
 j.keep (S := []) (Keep.same x) List.not_mem_nil List.not_mem_nil fun _ _ => ⟨List.not_mem_nil, List.not_mem_nil⟩
def fnd (cs : List Acc) (l : List Nat) : Option Acc := cs.find? fun c => decide (c.pa = l)
theorem jS (l : List Nat) : ∀ cs : List Acc, lV (cs.map kyA) (.inr ⟨⟨l⟩⟩) = (fnd cs l).map fun c => .ref c.ob
 | [] => rfl
 | c :: r => by
  have ih := jS l r
  by_cases h : c.pa = l
  ·rw [List.map_cons, jb (by show Sum.inr _ = Sum.inr _; rw [h])]
   simp [fnd, h, kyA]
  ·rw [List.map_cons, ib (fun z => h (by simpa [kyA] using z)), ih]
   simp [fnd, h]
theorem eA {cs : List Acc} {l : List Nat} {c : Acc} (h : fnd cs l = some c) : c ∈ cs /\ c.pa = l :=
 ⟨List.mem_of_find?_eq_some h, by simpa using List.find?_some h⟩
theorem ej {cs : List Acc} {l : List Nat} (h : fnd cs l = none) : ∀ c ∈ cs, c.pa ≠ l := fun c hc => by
 simpa using List.find?_eq_none.mp h c hc
theorem mh {β : Type} {f : Acc -> β} : ∀ {cs : List Acc} {c c' : Acc}, (cs.map f).Nodup -> c ∈ cs -> c' ∈ cs -> f c = f c' -> c = c'
 | [], _, _, _, h, _, _ => nomatch h
 | x :: r, c, c', hn, h, h', e => by
  rw [List.map_cons, List.nodup_cons] at hn
  rcases List.mem_cons.mp h with h1 | h1
  ·rcases List.mem_cons.mp h' with h2 | h2
   ·rw [h1, h2]
   ·subst h1
    exact absurd (by rw [e]; exact List.mem_map_of_mem h2) hn.1
  ·rcases List.mem_cons.mp h' with h2 | h2
   ·subst h2
    exact absurd (by rw [<- e]; exact List.mem_map_of_mem h1) hn.1
   ·exact mh hn.2 h1 h2 e
theorem we {cs : List Acc} (hn : (cs.map (·.pa)).Nodup) {c : Acc} (hc : c ∈ cs) : fnd cs c.pa = some c := by
 cases e : fnd cs c.pa with
 | none => exact absurd rfl (ej e c hc)
 | some c' =>
  obtain ⟨h1, h2⟩ := eA e
  rw [mh hn h1 hc h2]
theorem lkp (x : V) : List.lookup (Str.ofString "by_path") [(Str.ofString "by_path", x)] = some x := qw
def sp_uv (C A : Addr) : Sp := sp1 fun x H Q _ => NoT H /\ asR x fun p => ∃ dx, H p = some (.ins C dx []) /\ ∀ d H', H d = none -> CAt C A H' p d [] -> Keep [p] H H' -> NoT H' -> Q .non H'
theorem n_ (T : Txt K mg a) : bQ P w K mg base (XE P w) 1 a.dQ a.iy ["self"] (sp_uv a.aH a.ay) := by
 refine T.jB.okX nY (fun vs H Q E h => sp1.len h) (fun cdv A outer s H vs Q E hr h => ?_)
 obtain ⟨x0, rfl, h⟩ := sp1.inv h
 try dsimp only [sp_uv, sp1] at h
 obtain ⟨hN, h1⟩ := h
 obtain ⟨p, rfl, dx, hp, k⟩ := asR.inv h1
 refine ⟨_, (aj (jI K (fv 0) oj)), ?_⟩
 walk_at "rd"
 intro d hd
 have np : p ≠ d := au hp hd
 refine ⟨_, _, _, (ar np).trans hp, T.aR, T.bJ, by show 0 < 1000; decide, ?_⟩
 refine k d _ hd ⟨⟨dx, ?_⟩, ?_, (fun _ h => nomatch h), .nil, .nil, .nil⟩ ?_ ?_
 ·rw [ae]; simp [gs]
 ·rw [ar (Ne.symm np), ae]; rfl
 ·exact (Keep.refl.new hd).put (List.mem_singleton.2 rfl)
 ·exact az (az hN rfl) rfl
def vz (cs : List Acc) : V -> Bool
 | .str y => (fnd cs y.cps.toList).isSome
 | _ => false
def sp_CJ (C A : Addr) : Sp := sp2 fun x y H Q _ => NoT H /\ asR x fun p => asK H y fun _ => ∃ d cs, CAt C A H p d cs /\ Q (.bl (vz cs y)) H
theorem jH (T : Txt K mg a) : bQ P w K mg base (XE P w) 1 a.lM a.oJ ["self", "path"] (sp_CJ a.aH a.ay) := by
 refine T.ip.okG vA (fun vs H Q E h => sp2.len h) (fun cdv A outer s H vs Q E hr h => ?_)
 obtain ⟨x0, x1, rfl, h⟩ := sp2.inv h
 try dsimp only [sp_CJ, sp2] at h
 have HU := bx hr
 obtain ⟨hN, h1⟩ := h
 obtain ⟨p, rfl, h2⟩ := asR.inv h1
 obtain ⟨t, ht, hb, d, cs, J, k⟩ := asK.inv h2
 obtain ⟨dx, hp⟩ := J.ob
 refine ⟨hN, _, (aj (aA (eU (aG (bI K) rfl T.aP aJ (FA.pa (aa (fv 1) (aa (cU (v := .ty "str") rfl T.sR nB rfl) ad)))) (d5 (lO (qh (Nat.lt_of_le_of_lt (Nat.add_le_add_left (by decide) _) HU) (fv 1) (bR K (fv 0))) (by with_unfolding_all rfl)))))), ?_⟩
 by_cases hx : ∃ l, x1 = .str ⟨⟨l⟩⟩
 ·obtain ⟨l, rfl⟩ := hx
  cases ht
  walk_at "rd"
  refine ⟨_, _, _, _, hp, T.aR, T.bJ, lkp _, d, _, rfl, DGet.k (k := .inr ⟨⟨l⟩⟩) J.dc, ?_⟩
  rw [jS, Option.isSome_map]; exact k
 ·have e := jF ht hx
  have e2 : vz cs x1 = false := by
   cases x1 with
   | str y => exact absurd ⟨y.cps.toList, rfl⟩ hx
   | _ => rfl
  rw [e2] at k
  walk_at "rd"
  simp only [ht]
  rw [e]
  exact yu k
def fY (cs : List Acc) : V -> Option Acc
 | .str y => fnd cs y.cps.toList
 | _ => none
theorem s_ (cs : List Acc) (y : V) : vz cs y = (fY cs y).isSome := by cases y <;> rfl
def tB {H : Hp} (E : XK) (no : Addr) (o : Option Acc) (k : Acc -> Prop) : Prop := match o with
 | some c => k c
 | none => E (.ref no) none H
def sp_tF (C A no : Addr) : Sp := sp2 fun x y H Q E => NoT H /\ asR x fun p => asK H y fun _ => ∃ d cs, CAt C A H p d cs /\ tB (H := H) E no (fY cs y) fun c => Q (.ref c.ob) H
theorem yM (x : V) : List.lookup (Str.ofString "has") [(Str.ofString "by_path", x)] = none := by rw [bu (by decide +kernel)]; rfl
theorem eM (x : V) : List.lookup (Str.ofString "account") [(Str.ofString "by_path", x)] = none := by rw [bu (by decide +kernel)]; rfl
theorem xP {cs : List Acc} {y : V} {c : Acc} (h : fY cs y = some c) : ∃ l, y = L2.T l /\ fnd cs l = some c := by
 cases y with
 | str z => exact ⟨z.cps.toList, rfl, h⟩
 | _ => cases h
theorem bZ (T : Txt K mg a) : bQ P w K mg base (XE P w) 2 a.gn a.jr ["self", "path"] (sp_tF a.aH a.ay a.aF) := by
 refine T.bT.okG p_ (fun vs H Q E h => sp2.len h) (fun cdv A outer s H vs Q E hr h => ?_)
 obtain ⟨x0, x1, rfl, h⟩ := sp2.inv h
 try dsimp only [sp_tF, sp2] at h
 have HU := bx hr
 obtain ⟨hN, h1⟩ := h
 obtain ⟨p, rfl, h2⟩ := asR.inv h1
 obtain ⟨t, ht, hb, d, cs, J, k⟩ := asK.inv h2
 obtain ⟨dx, hp⟩ := J.ob
 have one : 1 <= sizeLine := by rw [sizeLine_eq]; decide
 have G_Chart_has := @jH P w K mg base a T
 have b_Chart_has := jU T.ip
 refine ⟨hN, _, (af (aS (cc (b_ (bi (fv 0) T.aR T.jJ G_Chart_has (hr.mono (by decide)) b_Chart_has .nil bb (FA.pa (aa (fv 1) ad))))) (aj (cL T.yj PySem.F.excBase_ValueError rfl rfl T.rf dE (FA.pa (aa (ak [116, 104, 101, 114, 101, 32, 105, 115, 32, 110, 111, 32, 115, 117, 99, 104, 32, 97, 99, 99, 111, 117, 110, 116]) ad)))) aD)
  (aj (aA (fK (Nat.lt_of_le_of_lt (Nat.add_le_add_left (by decide) _) HU) (bR K (fv 0)) (fv 1) (fun _ _ => rfl))))), ?_⟩
 walk_at "rd"
 refine ⟨_, _, hp, yM _, hN, asK.of ht ⟨d, cs, J, ?_⟩⟩
 rw [s_]
 cases e : fY cs x1 with
 | none =>
  rw [e] at k
  exact itp rfl ⟨one, k⟩
 | some c =>
  rw [e] at k
  refine itn (by intro z; cases z) ?_
  obtain ⟨l, rfl, e2⟩ := xP e
  refine ⟨_, _, _, _, hp, T.aR, T.bJ, lkp _, d, .ref c.ob, rfl, ?_, k⟩
  have g := DGet.k (k := .inr ⟨⟨l⟩⟩) J.dc
  rw [jS, e2] at g
  exact g
theorem hV {cs : List Acc} {y : V} {c : Acc} (h : fY cs y = some c) : c ∈ cs := by
 obtain ⟨l, rfl, e⟩ := xP h
 exact (eA e).1
def sp_Ac (C A no : Addr) : Sp := sp2 fun x y H Q E => NoT H /\ asR x fun p => asK H y fun _ => ∃ d cs, CAt C A H p d cs /\ tB (H := H) E no (fY cs y) fun c => Q c.ki H
theorem jf (T : Txt K mg a) : bQ P w K mg base (XE P w) 3 a.gG a.i9 ["self", "path"] (sp_Ac a.aH a.ay a.aF) := by
 refine T.gm.okG qi (fun vs H Q E h => sp2.len h) (fun cdv A outer s H vs Q E hr h => ?_)
 obtain ⟨x0, x1, rfl, h⟩ := sp2.inv h
 try dsimp only [sp_Ac, sp2] at h
 obtain ⟨hN, h1⟩ := h
 obtain ⟨p, rfl, h2⟩ := asR.inv h1
 obtain ⟨t, ht, hb, d, cs, J, k⟩ := asK.inv h2
 obtain ⟨dx, hp⟩ := J.ob
 have G_Chart_account := @bZ P w K mg base a T
 have b_Chart_account := bV T.bT
 refine ⟨hN, _, (aj (aA (bR K (bi (fv 0) T.aR T.bX G_Chart_account (hr.mono (by decide)) b_Chart_account .nil bb (FA.pa (aa (fv 1) ad)))))), ?_⟩
 walk_at "rd"
 refine ⟨_, _, hp, eM _, hN, asK.of ht ⟨d, cs, J, ?_⟩⟩
 cases e : fY cs x1 with
 | none => rw [e] at k; exact ⟨H, Gc.none (Same.refl _), k⟩
 | some c =>
  rw [e] at k
  obtain ⟨dc, ho⟩ := (J.ac c (hV e)).ob
  exact ⟨_, _, _, _, ho, T.aX, T.gZ, fk .., k⟩
theorem fc (k c f u b : V) : List.lookup (Str.ofString "currency") (gw k c f u b) = some c := by unfold gw; rw [bu (by decide +kernel)]; exact qw
def sp_xi (C A no : Addr) : Sp := sp2 fun x y H Q E => NoT H /\ asR x fun p => asK H y fun _ => ∃ d cs, CAt C A H p d cs /\ tB (H := H) E no (fY cs y) fun c => Q c.cu H
theorem fV (T : Txt K mg a) : bQ P w K mg base (XE P w) 3 a.d7 a.fU ["self", "path"] (sp_xi a.aH a.ay a.aF) := by
 refine T.dX.okG k9 (fun vs H Q E h => sp2.len h) (fun cdv A outer s H vs Q E hr h => ?_)
 obtain ⟨x0, x1, rfl, h⟩ := sp2.inv h
 try dsimp only [sp_xi, sp2] at h
 obtain ⟨hN, h1⟩ := h
 obtain ⟨p, rfl, h2⟩ := asR.inv h1
 obtain ⟨t, ht, hb, d, cs, J, k⟩ := asK.inv h2
 obtain ⟨dx, hp⟩ := J.ob
 have G_Chart_account := @bZ P w K mg base a T
 have b_Chart_account := bV T.bT
 refine ⟨hN, _, (aj (aA (bR K (bi (fv 0) T.aR T.bX G_Chart_account (hr.mono (by decide)) b_Chart_account .nil bb (FA.pa (aa (fv 1) ad)))))), ?_⟩
 walk_at "rd"
 refine ⟨_, _, hp, eM _, hN, asK.of ht ⟨d, cs, J, ?_⟩⟩
 cases e : fY cs x1 with
 | none => rw [e] at k; exact ⟨H, Gc.none (Same.refl _), k⟩
 | some c =>
  rw [e] at k
  have AC := J.ac c (hV e)
  obtain ⟨dc, ho⟩ := AC.ob
  exact ⟨_, _, _, _, ho, T.aX, T.hX, fc .., k⟩
def sp_As (C A no : Addr) : Sp := sp2 fun x y H Q E => NoT H /\ asR x fun p => asK H y fun _ => ∃ d cs, CAt C A H p d cs /\ tB (H := H) E no (fY cs y) fun c => ∀ q, H q = none -> Q (.ref q) (upd H q (.tup [.int c.fi, cl c.un]))
theorem jv (T : Txt K mg a) : bQ P w K mg base (XE P w) 3 a.gl a.jy ["self", "path"] (sp_As a.aH a.ay a.aF) := by
 refine T.gu.okG jh (fun vs H Q E h => sp2.len h) (fun cdv A outer s H vs Q E hr h => ?_)
 obtain ⟨x0, x1, rfl, h⟩ := sp2.inv h
 try dsimp only [sp_As, sp2] at h
 have ND := jh.nd
 obtain ⟨hN, h1⟩ := h
 obtain ⟨p, rfl, h2⟩ := asR.inv h1
 obtain ⟨t, ht, hb, d, cs, J, k⟩ := asK.inv h2
 obtain ⟨dx, hp⟩ := J.ob
 have G_Chart_account := @bZ P w K mg base a T
 have b_Chart_account := bV T.bT
 refine ⟨hN, _, (af (aT (i := 2) ND rfl (Or.inl rfl) (bi (fv 0) T.aR T.bX G_Chart_account (hr.mono (by decide)) b_Chart_account .nil bb (FA.pa (aa (fv 1) ad))))
  (aj (aA (cR (FA.pa (aa (bR K (fv 2)) (aa (bR K (fv 2)) ad))))))), ?_⟩
 walk_at "rd"
 refine ⟨_, _, hp, eM _, hN, asK.of ht ⟨d, cs, J, ?_⟩⟩
 cases e : fY cs x1 with
 | none => rw [e] at k; exact ⟨H, Gc.none (Same.refl _), k⟩
 | some c =>
  rw [e] at k
  have AC := J.ac c (hV e)
  obtain ⟨dc, ho⟩ := AC.ob
  exact ⟨_, _, _, _, ho, T.aX, T.eF, ff .., _, _, _, _, ho, T.aX, T.bK, fu .., by rw [sizeLine_eq]; decide, fun q hq => ⟨_, Gc.one (al _ hq) hq ae rfl, k q hq⟩⟩
def sp_uZ (C A no : Addr) : Sp := sp3 fun x y z H Q E => NoT H /\ asR x fun p => asI z fun t => asK H y fun _ => ∃ d cs, CAt C A H p d cs /\ tB (H := H) E no (fY cs y) fun c => Q (.bl (opn c.fi c.un t)) H
theorem ji (T : Txt K mg a) : bQ P w K mg base (XE P w) 3 a.gt a.jz ["self", "path", "day"] (sp_uZ a.aH a.ay a.aF) := by
 refine T.f_.okG qC (fun vs H Q E h => sp3.len h) (fun cdv A outer s H vs Q E hr h => ?_)
 obtain ⟨x0, x1, x2, rfl, h⟩ := sp3.inv h
 try dsimp only [sp_uZ, sp3] at h
 obtain ⟨hN, h1⟩ := h
 obtain ⟨p, rfl, h2⟩ := asR.inv h1
 obtain ⟨t, rfl, h3⟩ := asI.inv h2
 obtain ⟨tt, ht, hb, d, cs, J, k⟩ := asK.inv h3
 obtain ⟨dx, hp⟩ := J.ob
 have G_Account_stands_on := @fR P w K mg base a T
 have b_Account_stands_on := fT T.dY
 have G_Chart_account := @bZ P w K mg base a T
 have b_Chart_account := bV T.bT
 refine ⟨hN, _, (aj (aA (bi (bi (fv 0) T.aR T.bX G_Chart_account (hr.mono (by decide)) b_Chart_account .nil bb (FA.pa (aa (fv 1) ad))) T.aX T.fS G_Account_stands_on (hr.mono (by decide)) b_Account_stands_on .nil bb (FA.pa (aa (fv 2) ad))))), ?_⟩
 walk_at "rd"
 refine ⟨_, _, hp, eM _, hN, asK.of ht ⟨d, cs, J, ?_⟩⟩
 cases e : fY cs x1 with
 | none => rw [e] at k; exact ⟨H, Gc.none (Same.refl _), k⟩
 | some c =>
  rw [e] at k
  have AC := J.ac c (hV e)
  obtain ⟨dc, ho⟩ := AC.ob
  exact ⟨_, _, ho, Gs .., hN, _, _, _, _, _, _, ho, k⟩
def sp_tu (C A no : Addr) : Sp := sp2 fun x y H Q E => NoT H /\ asR x fun p => asK H y fun _ => ∃ d cs, CAt C A H p d cs /\ (∀ c ∈ cs, c.be.length < 64) /\ tB (H := H) E no (fY cs y) fun c => ∀ out : List (List Nat), out.Perm c.be -> InO out -> ∀ q, H q = none -> Q (.ref q) (upd H q (.lst (out.map L2.T)))
theorem jx (T : Txt K mg a) : bQ P w K mg base (XE P w) 3 a.gg a.iZ ["self", "path"] (sp_tu a.aH a.ay a.aF) := by
 refine T.gb.okG qu (fun vs H Q E h => sp2.len h) (fun cdv A outer s H vs Q E hr h => ?_)
 obtain ⟨x0, x1, rfl, h⟩ := sp2.inv h
 try dsimp only [sp_tu, sp2] at h
 obtain ⟨hN, h1⟩ := h
 obtain ⟨p, rfl, h2⟩ := asR.inv h1
 obtain ⟨t, ht, hb, d, cs, J, h64, k⟩ := asK.inv h2
 obtain ⟨dx, hp⟩ := J.ob
 have G_Chart_account := @bZ P w K mg base a T
 have b_Chart_account := bV T.bT
 refine ⟨hN, _, (aj (aA (aG (wL K) rfl T.jk gT (FA.pa (aa (bR K (bi (fv 0) T.aR T.bX G_Chart_account (hr.mono (by decide)) b_Chart_account .nil bb (FA.pa (aa (fv 1) ad)))) ad))))), ?_⟩
 walk_at "rd"
 refine ⟨_, _, hp, eM _, hN, asK.of ht ⟨d, cs, J, ?_⟩⟩
 cases e : fY cs x1 with
 | none => rw [e] at k; exact ⟨H, Gc.none (Same.refl _), k⟩
 | some c =>
  rw [e] at k
  have AC := J.ac c (hV e)
  obtain ⟨dc, ho⟩ := AC.ob
  exact ⟨_, _, _, _, ho, T.aX, T.eE, fb .., c.be, SqL.of AC.ls, h64 c (hV e), fun out ho io q hq => ⟨_, Gc.one (al _ hq) hq ae rfl, k out ho io q hq⟩⟩
def sp_qS (C A : Addr) : Sp := sp1 fun x H Q _ => NoT H /\ asR x fun p => ∃ d cs, CAt C A H p d cs /\ cs.length < 64 /\ ∀ out : List (List Nat), out.Perm (cs.map (·.pa)) -> InO out -> ∀ q, H q = none -> Q (.ref q) (upd H q (.lst (out.map L2.T)))
theorem oS (T : Txt K mg a) : bQ P w K mg base (XE P w) 1 a.fB a.iC ["self"] (sp_qS a.aH a.ay) := by
 refine T.jw.okG n9 (fun vs H Q E h => sp1.len h) (fun cdv A outer s H vs Q E hr h => ?_)
 obtain ⟨x0, rfl, h⟩ := sp1.inv h
 try dsimp only [sp_qS, sp1] at h
 obtain ⟨hN, h1⟩ := h
 obtain ⟨p, rfl, d, cs, J, h64, k⟩ := asR.inv h1
 obtain ⟨dx, hp⟩ := J.ob
 refine ⟨hN, _, (aj (aA (aG (ou rfl) rfl T.jk gT (FA.pa (aa (bR K (fv 0)) ad))))), ?_⟩
 walk_at "rd"
 refine ⟨_, _, _, _, hp, T.aR, T.bJ, lkp _, _, cs.map (·.pa), J.dc, by rw [List.map_map, List.map_map]; rfl, by rw [List.length_map]; exact h64, fun out h1 h2 q hq => ⟨_, Gc.one (al _ hq) hq ae rfl, k out h1 h2 q hq⟩⟩
theorem m6 {β : Type} {l : List β} {x : β} (h : l.Nodup) (n : x ∉ l) : (l ++ [x]).Nodup :=
 List.nodup_append.mpr ⟨h, List.nodup_cons.mpr ⟨List.not_mem_nil, List.nodup_nil⟩, fun a ha b hb => by rw [List.mem_singleton.mp hb]; rintro rfl; exact n ha⟩
theorem CAt.bl_d {C A : Addr} {H : Hp} {p d : Addr} {cs : List Acc} (J : CAt C A H p d cs) {c : Acc} (hc : c ∈ cs) : c.bl ≠ d := bj (J.ac c hc).ls J.dc
theorem CAt.ob_d {C A : Addr} {H : Hp} {p d : Addr} {cs : List Acc} (J : CAt C A H p d cs) {c : Acc} (hc : c ∈ cs) : c.ob ≠ d := by
 obtain ⟨dx, e⟩ := (J.ac c hc).ob; exact bj e J.dc
theorem CAt.p_d {C A : Addr} {H : Hp} {p d : Addr} {cs : List Acc} (J : CAt C A H p d cs) : p ≠ d := by
 obtain ⟨dx, e⟩ := J.ob; exact bj e J.dc
theorem CAt.p_bl {C A : Addr} {H : Hp} {p d : Addr} {cs : List Acc} (J : CAt C A H p d cs) {c : Acc} (hc : c ∈ cs) : p ≠ c.bl := by
 obtain ⟨dx, e⟩ := J.ob; exact bj e (J.ac c hc).ls
theorem CAt.ob_bl {C A : Addr} {H : Hp} {p d : Addr} {cs : List Acc} (J : CAt C A H p d cs) {c c' : Acc} (hc : c ∈ cs) (hc' : c' ∈ cs) : c.ob ≠ c'.bl := by
 obtain ⟨dx, e⟩ := (J.ac c hc).ob; exact bj e (J.ac c' hc').ls
theorem yi {cs : List Acc} {l : List Nat} (h : fnd cs l = none) (c : Acc) (e : c.pa = l) : lQ (cs.map kyA) (.inr ⟨⟨l⟩⟩) (.ref c.ob) = (cs ++ [c]).map kyA := by
 rw [o_ _ (by rw [jS, h]; rfl), List.map_append, <- e]; rfl
theorem CAt.more {C A : Addr} {H H' : Hp} {p d : Addr} {cs : List Acc} (J : CAt C A H p d cs) (kp : Keep [] H H') {c : Acc} (hf : fnd cs c.pa = none) (h0 : H c.ob = none) (h1 : H c.bl = none) (hc : AAt A H' c) :
 CAt C A (upd H' d (.dK ((cs ++ [c]).map kyA))) p d (cs ++ [c]) := by
 have J1 := J.keep kp List.not_mem_nil List.not_mem_nil fun _ _ => ⟨List.not_mem_nil, List.not_mem_nil⟩
 have dn := J1.dc
 obtain ⟨dc, eo⟩ := hc.ob
 have n1 : c.ob ≠ d := bj eo dn
 have n2 : c.bl ≠ d := bj hc.ls dn
 refine ⟨?_, ae, fun z hz => ?_, ?_, ?_, ?_⟩
 ·obtain ⟨dx, e⟩ := J1.ob
  exact ⟨dx, (ar J1.p_d).trans e⟩
 ·rcases List.mem_append.mp hz with hz | hz
  ·obtain ⟨dz, e⟩ := (J1.ac z hz).ob
   exact ⟨⟨dz, (ar (J1.ob_d hz)).trans e⟩, (ar (J1.bl_d hz)).trans (J1.ac z hz).ls⟩
  ·rw [List.mem_singleton.mp hz]
   exact ⟨⟨dc, (ar n1).trans eo⟩, (ar n2).trans hc.ls⟩
 ·rw [List.map_append]
  refine m6 J.np fun h => ?_
  obtain ⟨z, hz, e⟩ := List.mem_map.mp h
  exact ej hf z hz e
 ·rw [List.map_append]
  refine m6 J.na fun h => ?_
  obtain ⟨z, hz, e⟩ := List.mem_map.mp h
  obtain ⟨dz, eo⟩ := (J.ac z hz).ob
  rw [e, h0] at eo; cases eo
 ·rw [List.map_append]
  refine m6 J.nb fun h => ?_
  obtain ⟨z, hz, e⟩ := List.mem_map.mp h
  have eo := (J.ac z hz).ls
  rw [e, h1] at eo; cases eo
theorem mf {H H' : Hp} {x dx : Addr} {o o' : HO} (hx : H x = none) (hd : H dx = none) (kp : Keep [x] (upd (upd H dx o) x o') H') : Keep [] H H' := fun c z e _ => by
 have n1 : c ≠ x := au e hx
 have n2 : c ≠ dx := au e hd
 exact kp c z (by rw [ar n1, ar n2]; exact e) (by simpa using n1)
theorem gU {H : Hp} {x dx b : Addr} {o o' : HO} (h : upd (upd H dx o) x o' b = none) : H b = none := by
 have n1 : b ≠ x := fun z => by rw [z, ae] at h; cases h
 rw [ar n1] at h
 have n2 : b ≠ dx := fun z => by rw [z, ae] at h; cases h
 rw [ar n2] at h; exact h
abbrev KDS : List (List Nat) := [[104, 97, 118, 101], [111, 119, 101], [111, 119, 110], [103, 97, 105, 110], [99, 111, 115, 116]]
theorem AF {x : V} (h : nameV x = true) : ∃ l, x = L2.T l := by
 cases x with
 | str y => exact ⟨y.cps.toList, rfl⟩
 | _ => cases h
def sp_tL (K : W.Frag) (C A bn bk tw : Addr) : Sp := sp3 fun x y z H Q E => NoT H /\ asR x fun p => okV y /\ asK H y fun _ => (cy z = true \/ ∃ q ys, z = .ref q /\ (SqL K H q ys \/ SqT K H q ys)) /\ ∃ d cs, CAt C A H p d cs /\ cs.length <= 100 /\
 if nameV y = true then if inV z (KDS.map L2.T) = true then if vz cs y = true then E (.ref tw) none H else
 (∀ c H', y = L2.T c.pa -> c.ki = z -> c.cu = .non -> c.fi = 0 -> c.un = none -> c.be = [] -> H c.ob = none -> H c.bl = none -> CAt C A H' p d (cs ++ [c]) -> Keep [d] H H' -> NoT H' -> Q .non H') else E (.ref bk) none H else E (.ref bn) none H
theorem i4 (T : Txt K mg a) : bQ P w K mg base (XE P w) 4 a.gq a.jg ["self", "name", "kind"] (sp_tL K a.aH a.ay a.aZ a.a_ a.bA) := by
 refine T.gf.okX qK (fun vs H Q E h => sp3.len h) (fun cdv A outer s H vs Q E hr h => ?_)
 obtain ⟨x0, x1, x2, rfl, h⟩ := sp3.inv h
 try dsimp only [sp_tL, sp3] at h
 have HU := bx hr
 obtain ⟨hN, h1⟩ := h
 obtain ⟨p, rfl, oy, h2⟩ := asR.inv h1
 obtain ⟨t, ht, hb, hz, d, cs, J, len, k⟩ := asK.inv h2
 obtain ⟨dx, hp⟩ := J.ob
 have one : 1 <= sizeLine := by rw [sizeLine_eq]; decide
 have G_Account___init__ := @gQ P w K mg base a T
 have b_Account___init__ := gL T.eS
 have G_is_name := @sG P w K mg base a T
 have b_is_name := sK T.ja
 refine ⟨_, (af (aS (cc (b_ (aN G_is_name (hr.mono (by decide)) rfl T.u_ T.ja.kp b_is_name .nil bb (FA.pa (aa (fv 1) ad))))) (aj (cL T.Bd PySem.F.excBase_ValueError rfl rfl T.uI dE (FA.pa (aa (ak [116, 104, 105, 115, 32, 105, 115, 32, 110, 111, 32, 110, 97, 109, 101]) ad)))) aD)
  (af (aS (aY (uS K HU) (fv 2) (fJ (v := .ref a.nW) rfl T.Dw rfl) (by with_unfolding_all rfl)) (aj (cL T.Bg PySem.F.excBase_ValueError rfl rfl T.uz dE (FA.pa (aa (ak [116, 104, 101, 114, 101, 32, 105, 115, 32, 110, 111, 32, 115, 117, 99, 104, 32, 107, 105, 110, 100]) ad)))) aD)
  (af (aS (gP (qh (Nat.lt_of_le_of_lt (Nat.add_le_add_left (by decide) _) HU) (fv 1) (bR K (fv 0))) (by with_unfolding_all rfl)) (aj (cL T.zV PySem.F.excBase_ValueError rfl rfl T.vH dE (FA.pa (aa (ak [116, 104, 101, 114, 101, 32, 105, 115, 32, 115, 117, 99, 104, 32, 97, 110, 32, 97, 99, 99, 111, 117, 110, 116]) ad)))) aD)
  (aj (pB (Nat.lt_of_le_of_lt (Nat.add_le_add_left (by decide) _) HU) (bR K (fv 0)) (fv 1) (xW T.sq G_Account___init__ (hr.mono (by decide)) rfl T.ve b_Account___init__ .nil bb (FA.pa (aa (fv 2) (aa cX (aa ag ad))))) rfl))))), ?_⟩
 walk_at "rd"
 refine ⟨hN, oy, asK.of ht ?_⟩
 cases e1 : nameV x1 with
 | false => rw [e1] at k; exact itp rfl ⟨one, k⟩
 | true =>
  rw [e1, if_pos rfl] at k
  refine itn (by intro z; cases z) ⟨KDS, .inr (.inr T.nW), hz, ?_⟩
  cases e2 : inV x2 (KDS.map L2.T) with
  | false => rw [e2] at k; exact itp rfl ⟨one, k⟩
  | true =>
   rw [e2, if_pos rfl] at k
   refine itn (by intro z; cases z) ?_
   obtain ⟨l, rfl⟩ := AF e1
   refine ⟨_, _, _, _, hp, T.aR, T.bJ, lkp _, d, _, rfl, DGet.k (k := .inr ⟨⟨l⟩⟩) J.dc, ?_⟩
   rw [jS, Option.isSome_map]
   rw [show vz cs (L2.T l) = (fnd cs l).isSome from rfl] at k
   cases ef : fnd cs l with
   | some c => rw [ef] at k; exact itp rfl ⟨one, k⟩
   | none =>
    rw [ef, if_neg (by intro z; cases z)] at k
    refine itn (by intro z; cases z) ?_
    intro x dx hx hdx ne
    refine ⟨az (az hN rfl) rfl, _, ae, fun b H' hb h1 h2 kp hN' => ?_⟩
    have kp0 := mf hx hdx kp
    have J1 := J.keep kp0 List.not_mem_nil List.not_mem_nil fun _ _ => ⟨List.not_mem_nil, List.not_mem_nil⟩
    obtain ⟨dx1, hp1⟩ := J1.ob
    have smk : (cs.map kyA).length < sizeLine := by rw [List.length_map, sizeLine_eq]; omega
    refine ⟨_, _, _, _, hp1, T.aR, T.bJ, lkp _, d, _, rfl, DPut.k (k := .inr ⟨⟨l⟩⟩) J1.dc smk, ?_⟩
    rw [yi ef ⟨l, x, b, x2, .non, 0, none, []⟩ rfl]
    exact k ⟨l, x, b, x2, .non, 0, none, []⟩ _ rfl rfl rfl rfl rfl rfl hx (gU hb) (J.more kp0 ef hx (gU hb) ⟨⟨dx, h1⟩, h2⟩) ((kp0.mono (fun _ h => nomatch h)).put (.head _)) (az hN' rfl)
theorem fA (s x : List Nat) : ∀ (r : List (List Nat)), r ≠ [] -> bG s (r ++ [x]) = bG s r ++ s ++ x
 | [], h => absurd rfl h
 | [y], _ => by simp [bG]
 | y :: z :: r, _ => by
  have := fA s x (z :: r) (by simp)
  rw [List.cons_append, List.cons_append, bG, <- List.cons_append, this, bG]
  simp
theorem wC {v n : List Nat} (hn : 58 ∉ n) : spN 58 (v ++ 58 :: n) = spN 58 v ++ [n] := by
 have h := h8 58 (spN 58 v ++ [n]) (by simp) fun p hp => by
  rcases List.mem_append.mp hp with h | h
  ·exact dB 58 v p h
  ·rw [List.mem_singleton.mp h]; exact hn
 rw [fA _ _ _ (gj 58 v), eg] at h
 rw [<- h]; simp
theorem DP {v n : List Nat} (hn : 58 ∉ n) : abN (v ++ 58 :: n) = abN v ++ [v] := by
 unfold abN
 rw [wC hn, List.length_append, List.length_singleton, Nat.add_sub_cancel]
 have hp : 0 < (spN 58 v).length := List.length_pos_iff.mpr (gj 58 v)
 obtain ⟨m, hm⟩ : ∃ m, (spN 58 v).length = m + 1 := ⟨(spN 58 v).length - 1, by omega⟩
 rw [hm, List.range_succ, List.map_append, Nat.add_sub_cancel]
 congr 1
 ·apply List.map_congr_left
  intro k hk
  have := List.mem_range.mp hk
  rw [List.take_append_of_le_length (by omega)]
 ·rw [List.map_singleton, <- hm, List.take_left', eg]
  rfl
def dS (cs : List Acc) (l : List Nat) (f : Acc -> Acc) : List Acc := cs.map fun z => if z.pa = l then f z else z
theorem cG {β : Type} {cs : List Acc} {l : List Nat} {f : Acc -> Acc} (g : Acc -> β) (h : ∀ z, g (f z) = g z) : (dS cs l f).map g = cs.map g := by
 unfold dS
 rw [List.map_map]
 apply List.map_congr_left
 intro z _
 show g (if z.pa = l then f z else z) = g z
 split
 ·exact h z
 ·rfl
theorem js {cs : List Acc} {l : List Nat} {f : Acc -> Acc} {z : Acc} (h : z ∈ dS cs l f) : ∃ y ∈ cs, z = if y.pa = l then f y else y := by
 obtain ⟨y, hy, e⟩ := List.mem_map.mp h
 exact ⟨y, hy, e.symm⟩
def grw (l : List Nat) (z : Acc) : Acc := { z with be := z.be ++ [l] }
def shu (t : Int) (z : Acc) : Acc := { z with un := some t }
theorem CAt.grow {C A : Addr} {H : Hp} {p d : Addr} {cs : List Acc} (J : CAt C A H p d cs) {u : Acc} (hu : u ∈ cs) (l : List Nat) : CAt C A (upd H u.bl (.lst (u.be.map L2.T ++ [L2.T l]))) p d (dS cs u.pa (grw l)) := by
 refine ⟨?_, ?_, fun z hz => ?_, ?_, ?_, ?_⟩
 ·obtain ⟨dx, e⟩ := J.ob
  exact ⟨dx, (ar (J.p_bl hu)).trans e⟩
 ·rw [cG (f := grw l) kyA fun _ => rfl, ar (Ne.symm (J.bl_d hu))]; exact J.dc
 ·obtain ⟨y, hy, e⟩ := js hz
  obtain ⟨dy, ho⟩ := (J.ac y hy).ob
  by_cases h : y.pa = u.pa
  ·have : y = u := mh J.np hy hu h
   subst this
   rw [if_pos rfl] at e
   subst e
   exact ⟨⟨dy, (ar (J.ob_bl hy hu)).trans ho⟩, by show upd H y.bl _ y.bl = some (.lst ((y.be ++ [l]).map L2.T)); rw [ae, List.map_append]; rfl⟩
  ·rw [if_neg h] at e
   subst e
   have nb : z.bl ≠ u.bl := fun q => h (by rw [mh J.nb hy hu q])
   exact ⟨⟨dy, (ar (J.ob_bl hy hu)).trans ho⟩, (ar nb).trans (J.ac z hy).ls⟩
 ·rw [cG (f := grw l) _ fun _ => rfl]; exact J.np
 ·rw [cG (f := grw l) _ fun _ => rfl]; exact J.na
 ·rw [cG (f := grw l) _ fun _ => rfl]; exact J.nb
theorem CI {cs : List Acc} {v l : List Nat} {f : Acc -> Acc} (hf : ∀ z, (f z).pa = z.pa) (h : fnd cs l = none) : fnd (dS cs v f) l = none := by
 refine List.find?_eq_none.mpr fun z hz => ?_
 obtain ⟨y, hy, e⟩ := js hz
 have := ej h y hy
 subst e
 split
 ·simpa [hf] using this
 ·simpa using this
theorem Gy {p q : Prop} (f : p -> q) (x : p) : q := f x
theorem wJ {x : V} {l : List Nat} {f : List Nat -> Prop} (h : x = L2.T l) (k : f l) : asT x f := by subst h; exact k
theorem ny {l : List Nat} (h : (spN 58 l).length ≠ 1) : ∃ v n, l = v ++ 58 :: n /\ 58 ∉ n := by
 have ne := gj 58 l
 have e := eg 58 l
 obtain ⟨r, n, hr⟩ : ∃ r n, spN 58 l = r ++ [n] := ⟨_, _, (List.dropLast_concat_getLast ne).symm⟩
 have hn : 58 ∉ n := dB 58 l n (by rw [hr]; simp)
 rw [hr, List.length_append, List.length_singleton] at h
 have r0 : r ≠ [] := fun z => h (by rw [z]; rfl)
 rw [hr, fA _ _ _ r0] at e
 exact ⟨bG [58] r, n, by rw [<- e]; simp, hn⟩
def xb (z : V) : Bool := match z with
 | .non => true
 | z => A_ z
def sp_CQ (C A bp bc bd tw no nO : Addr) : Sp := sp4 fun x y z t H Q E => NoT H /\ asR x fun p => okP y /\ asK H y fun _ => okV z /\ asK H z fun _ => asK H t fun _ => ∃ d cs, CAt C A H p d cs /\ cs.length <= 100 /\ (∀ c ∈ cs, c.be.length <= 100) /\
 if ft y = true then asT y fun l => if (spN 58 l).length = 1 then E (.ref bp) none H else if xb z = true then if amg t 0 146096 = true then asI t fun day => if (fnd cs l).isSome = true then E (.ref tw) none H else
  ∀ v n, l = v ++ 58 :: n -> 58 ∉ n -> tB (H := H) E no (fnd cs v) fun u => if u.un = none /\ u.fi <= day then
   ∀ c H', c.pa = l -> c.ki = u.ki -> c.cu = z -> c.fi = day -> c.un = none -> c.be = [] -> H c.ob = none -> H c.bl = none -> CAt C A H' p d (dS cs v (grw l) ++ [c]) -> Keep (d :: cs.map (·.bl)) H H' -> NoT H' -> Q .non H'
  else E (.ref nO) none H else E (.ref bd) none H else E (.ref bc) none H else E (.ref bp) none H
theorem vN (T : Txt K mg a) : bQ P w K mg base (XE P w) 7 a.iz a.oY ["self", "path", "currency", "day"] (sp_CQ a.aH a.ay a.aU a.aI a.bg a.bA a.aF a.aV) := by
 refine T.qZ.okX nZ (fun vs H Q E h => sp4.len h) (fun cdv A outer s H vs Q E hr h => ?_)
 obtain ⟨x0, x1, x2, x3, rfl, h⟩ := sp4.inv h
 try dsimp only [sp_CQ, sp4] at h
 have ND := nZ.nd
 have HU := bx hr
 obtain ⟨hN, h1⟩ := h
 obtain ⟨p, rfl, oy, h2⟩ := asR.inv h1
 obtain ⟨ty, hty, _, oz, h3⟩ := asK.inv h2
 obtain ⟨tz, htz, _, h4⟩ := asK.inv h3
 obtain ⟨tt, htt, _, d, cs, J, len, lb, k⟩ := asK.inv h4
 obtain ⟨dx, hp⟩ := J.ob
 have one : 1 <= sizeLine := by rw [sizeLine_eq]; decide
 have G_Account___init__ := @gQ P w K mg base a T
 have b_Account___init__ := gL T.eS
 have G_Account_stands_on := @fR P w K mg base a T
 have b_Account_stands_on := fT T.dY
 have G_Chart_account := @bZ P w K mg base a T
 have b_Chart_account := bV T.bT
 have G_above := @Bx P w K mg base a T
 have b_above := BX T.wE
 have G_is_day := @uu P w K mg base a T
 have b_is_day := uw T.lH
 have G_is_currency := @sB P w K mg base a T
 have b_is_currency := sL T.iJ
 have G_names_of := @yq P w K mg base a T
 have b_names_of := wM T.nv
 have c4 : ∃ z, PSs (fz (XE P w) P w K mg base ["self", "path", "currency", "day", "upper"] "Chart.add" (ai cH) a.iz cdv A outer s H E) (List.drop 4 (aC cH)) z /\ ∀ l (day : Int), ((∀ c ∈ l, c < 128) /\ l.length <= 199) -> (spN 58 l).length ≠ 1 -> fnd cs l = none -> (∀ v n, l = v ++ 58 :: n -> 58 ∉ n -> tB (H := H) E a.aF (fnd cs v) fun u => if u.un = none /\ u.fi <= day then
  ∀ c H', c.pa = l -> c.ki = u.ki -> c.cu = x2 -> c.fi = day -> c.un = none -> c.be = [] -> H c.ob = none -> H c.bl = none -> CAt a.aH a.ay H' p d (dS cs v (grw l) ++ [c]) -> Keep (d :: cs.map (·.bl)) H H' -> NoT H' -> Q .non H'
  else E (.ref a.aV) none H) -> z { nx := fun _ H' => Q .non H', rt := Q } [some (.ref p), some (L2.T l), some x2, some (.int day), none] H := by
  refine ⟨_, (af (aT (i := 4) ND rfl (Or.inl rfl) (bi (fv 0) T.aR T.bX G_Chart_account (hr.mono (by decide)) b_Chart_account .nil bb (FA.pa (aa (EC (aK (aq K) (aN G_above (hr.mono (by decide)) rfl T.Do T.wE.kp b_above .nil bb (FA.pa (aa (fv 1) ad))) (qQ kJ ag) (fun _ _ => rfl))) ad))))
   (af (aS (L2.PW.pt (lK (gP (jZ (bR K (fv 4)))) (hR (cc (b_ (bi (fv 4) T.aX T.fS G_Account_stands_on (hr.mono (by decide)) b_Account_stands_on .nil bb (FA.pa (aa (fv 3) ad)))))))) (aj (cL T.uU PySem.F.excBase_ValueError rfl rfl T.ql dE (FA.pa (aa (ak [116, 104, 101, 32, 97, 99, 99, 111, 117, 110, 116, 32, 97, 98, 111, 118, 101, 32, 105, 115, 110, 39, 116, 32, 111, 112, 101, 110]) ad)))) aD)
   (af (cZ (cW K PySem.F.plainAttrs_list PySem.F.slot_list_append PySem.F.type_list_append eZ (bR K (fv 4)) (FA.pa (aa (fv 1) ad))))
   (aj (pB (Nat.lt_of_le_of_lt (Nat.add_le_add_left (by decide) _) HU) (bR K (fv 0)) (fv 1) (xW T.sq G_Account___init__ (hr.mono (by decide)) rfl T.ve b_Account___init__ .nil bb (FA.pa (aa (bR K (fv 4)) (aa (fv 2) (aa (fv 3) ad))))) rfl))))), fun l day hl h1 ef k => ?_⟩
  obtain ⟨v, n, el, hn⟩ := ny h1
  have k := k v n el hn
  walk_at "rd"
  refine ⟨_, _, hp, eM _, hN, hN, hl, fun q2 hq2 => ⟨_, L2.T v, .inl (SqL.of ae), ?_, ?_⟩⟩
  ·rw [el, DP hn, List.map_append]; exact pC _ _
  refine ⟨H, Gc.none (al _ hq2), hN, ?_⟩
  walk_at "rd"
  refine ⟨d, cs, J, ?_⟩
  rw [show fY cs (L2.T v) = fnd cs v from rfl]
  cases ev : fnd cs v with
  | none => rw [ev] at k; exact k
  | some u =>
   rw [ev] at k
   dsimp only [tB] at k
   obtain ⟨hu, pu⟩ := eA ev
   obtain ⟨du, ho⟩ := (J.ac u hu).ob
   refine ⟨_, _, _, _, ho, T.aX, T.bK, fu .., ?_⟩
   cases un : u.un with
   | some m => rw [if_neg (by rw [un]; exact fun z => nomatch z.1)] at k; exact itn (by intro z; cases z) ⟨one, k⟩
   | none =>
    refine itp rfl ⟨_, _, ho, Gs .., hN, _, _, _, _, _, _, ho, ?_⟩
    by_cases uf : u.fi <= day
    ·have eo : opn u.fi u.un day = true := by rw [un]; unfold opn; rw [decide_eq_true uf]; rfl
     rw [eo]
     rw [if_pos ⟨un, uf⟩] at k
     have sml : (u.be.map L2.T).length < sizeLine := by have := lb u hu; rw [List.length_map, sizeLine_eq]; omega
     refine itn (by decide) ⟨_, _, _, _, ho, T.aX, T.eE, fb .., .inl ⟨rfl, _, SqL.of (J.ac u hu).ls⟩, u.bl, _, _, rfl, rfl, (J.ac u hu).ls, sml, ?_⟩
     have J1 := J.grow hu l
     have N1 : NoT (upd H u.bl (.lst (u.be.map L2.T ++ [L2.T l]))) := az hN rfl
     have ho1 := (ar (o := .lst (u.be.map L2.T ++ [L2.T l])) (J.ob_bl hu hu)).trans ho
     have K1 : Keep (d :: cs.map (·.bl)) H (upd H u.bl (.lst (u.be.map L2.T ++ [L2.T l]))) := Keep.refl.put (.tail _ (List.mem_map_of_mem hu))
     have n58 : ∀ q, upd H u.bl (.lst (u.be.map L2.T ++ [L2.T l])) q = none -> H q = none := fun q hq => by
      by_cases hc : q = u.bl
      ·rw [hc, ae] at hq; cases hq
      ·rw [ar hc] at hq; exact hq
     generalize upd H u.bl (.lst (u.be.map L2.T ++ [L2.T l])) = H1 at J1 N1 ho1 K1 n58 ⊢
     refine ⟨_, _, _, _, ho1, T.aX, T.gZ, fk .., fun x dx1 hx hdx ne => ?_⟩
     refine ⟨az (az N1 rfl) rfl, _, ae, fun b H' hb h1 h2 kp hN' => ?_⟩
     have kp0 := mf hx hdx kp
     have J2 := J1.keep kp0 List.not_mem_nil List.not_mem_nil fun _ _ => ⟨List.not_mem_nil, List.not_mem_nil⟩
     obtain ⟨dx2, hp2⟩ := J2.ob
     have smk : ((dS cs u.pa (grw l)).map kyA).length < sizeLine := by rw [cG (f := grw l) kyA fun _ => rfl, List.length_map, sizeLine_eq]; omega
     have ef1 : fnd (dS cs u.pa (grw l)) l = none := CI (fun _ => rfl) ef
     refine ⟨_, _, _, _, hp2, T.aR, T.bJ, lkp _, d, _, rfl, DPut.k (k := .inr ⟨⟨l⟩⟩) J2.dc smk, ?_⟩
     rw [yi ef1 ⟨l, x, b, u.ki, x2, day, none, []⟩ rfl]
     have J3 := J1.more kp0 (c := ⟨l, x, b, u.ki, x2, day, none, []⟩) ef1 hx (gU hb) ⟨⟨dx1, h1⟩, h2⟩
     rw [pu] at J3 ⊢
     exact k ⟨l, x, b, u.ki, x2, day, none, []⟩ _ rfl rfl rfl rfl rfl rfl (n58 _ hx) (n58 _ (gU hb)) J3 ((K1.trans (kp0.mono (fun _ h => nomatch h))).put (.head _)) (az hN' rfl)
    ·rw [if_neg (fun z => uf z.2)] at k
     have eo : opn u.fi u.un day = false := by rw [un]; unfold opn; rw [decide_eq_false uf]; rfl
     rw [eo]; exact itp rfl ⟨one, k⟩
 obtain ⟨u4, hu4, c4⟩ := c4
 refine ⟨_, (af (aS (ut (aY (bo K HU) (aG (dm K) rfl T.g_ eO (FA.pa (aa (aN G_names_of (hr.mono (by decide)) rfl T.yW T.nv.kp b_names_of .nil bb (FA.pa (aa (fv 1) ad))) ad))) ag (aO _))) (aj (cL T.qB PySem.F.excBase_ValueError rfl rfl T.me dE (FA.pa (aa (ak [97, 32, 115, 105, 110, 103, 108, 101, 32, 110, 97, 109, 101, 32, 105, 115, 32, 97, 32, 116, 111, 112]) ad)))) aD)
  (af (aS (L2.PW.pt (wd (gP (jZ (fv 2))) (rZ (cc (b_ (aN G_is_currency (hr.mono (by decide)) rfl T.tX T.iJ.kp b_is_currency .nil bb (FA.pa (aa (fv 2) ad)))))))) (aj (cL T.tV PySem.F.excBase_ValueError rfl rfl T.mL dE (FA.pa (aa (ak [116, 104, 105, 115, 32, 105, 115, 32, 110, 111, 32, 99, 117, 114, 114, 101, 110, 99, 121]) ad)))) aD)
  (af (aS (cc (b_ (aN G_is_day (hr.mono (by decide)) rfl T.xC T.lH.kp b_is_day .nil bb (FA.pa (aa (fv 3) ad))))) (aj (cL T.yo PySem.F.excBase_ValueError rfl rfl T.sw dE (FA.pa (aa (ak [116, 104, 105, 115, 32, 105, 115, 32, 110, 111, 32, 100, 97, 121]) ad)))) aD)
  (af (aS (gP (qh (Nat.lt_of_le_of_lt (Nat.add_le_add_left (by decide) _) HU) (fv 1) (bR K (fv 0))) (by with_unfolding_all rfl)) (aj (cL T.zV PySem.F.excBase_ValueError rfl rfl T.vH dE (FA.pa (aa (ak [116, 104, 101, 114, 101, 32, 105, 115, 32, 115, 117, 99, 104, 32, 97, 110, 32, 97, 99, 99, 111, 117, 110, 116]) ad)))) aD)
  hu4)))), ?_⟩
 walk_at "rd"
 refine ⟨hN, hN, oy, asK.of hty ?_⟩
 cases e1 : ft x1 with
 | false => rw [e1] at k; exact itn (by intro z; cases z) k
 | true =>
  rw [e1, if_pos rfl] at k
  obtain ⟨l, rfl, k⟩ := asT.inv k
  have hl := oy l rfl
  refine itp rfl fun q hq => ⟨_, .inl (SqL.of ae), H, Gc.none (al _ hq), ?_⟩
  rw [List.length_map]
  change ite ((spN 58 l).length = 1) _ _ at k
  by_cases hsp : (spN 58 l).length = 1
  ·rw [if_pos hsp] at k; exact itp (show ((spN 58 l).length : Int) = 1 by omega) ⟨one, k⟩
  rw [if_neg hsp] at k
  refine itn (show ¬ ((spN 58 l).length : Int) = 1 by omega) ?_
  have ec : x2 ≠ .non -> xb x2 = A_ x2 := fun hz => by
   cases x2 with
   | non => exact absurd rfl hz
   | _ => rfl
  cases e2 : xb x2 with
  | false =>
   rw [e2] at k
   have hz : x2 ≠ .non := fun z => by rw [z] at e2; cases e2
   exact itn hz ⟨hN, oz, asK.of htz (itp ((ec hz).symm.trans e2) ⟨one, k⟩)⟩
  | true =>
  rw [e2, if_pos rfl] at k
  refine' Gy (fun key => _) _
  rotate_left 1
  ·by_cases hz : x2 = .non
   ·exact itp hz key
   ·exact itn hz ⟨hN, oz, asK.of htz (itn (by rw [<- ec hz, e2]; intro z; cases z) key)⟩
  refine ⟨hN, asK.of htt ?_⟩
  cases e3 : amg x3 0 146096 with
  | false => rw [e3] at k; exact itp rfl ⟨one, k⟩
  | true =>
   rw [e3, if_pos rfl] at k
   obtain ⟨day, rfl, k⟩ := asI.inv k
   refine itn (by intro z; cases z) ⟨_, _, _, _, hp, T.aR, T.bJ, lkp _, d, _, rfl, DGet.k (k := .inr ⟨⟨l⟩⟩) J.dc, ?_⟩
   rw [jS, Option.isSome_map]
   change ite ((fnd cs l).isSome = true) _ _ at k
   cases ef : fnd cs l with
   | some c => rw [ef] at k; exact itp rfl ⟨one, k⟩
   | none =>
    rw [ef, if_neg (by intro z; cases z)] at k
    exact itn (by intro z; cases z) (c4 l day hl hsp ef k)
theorem Ei (k c f u b : V) : List.lookup (Str.ofString "stands_later") (gw k c f u b) = none := by unfold gw; rw [bu (by decide +kernel), bu (by decide +kernel), bu (by decide +kernel), bu (by decide +kernel), bu (by decide +kernel)]; rfl
theorem CAt.shutA {C A : Addr} {H : Hp} {p d : Addr} {cs : List Acc} (J : CAt C A H p d cs) {u : Acc} (hu : u ∈ cs) (t : Int) {dx : Addr} (ho : H u.ob = some (.ins A dx (gw u.ki u.cu (.int u.fi) (cl u.un) (.ref u.bl)))) : CAt C A (upd H u.ob (.ins A dx (gw u.ki u.cu (.int u.fi) (.int t) (.ref u.bl)))) p d (dS cs u.pa (shu t)) := by
 have pob : p ≠ u.ob \/ p = u.ob := (Decidable.em _).symm
 refine ⟨?_, ?_, fun z hz => ?_, ?_, ?_, ?_⟩
 ·obtain ⟨dp, e⟩ := J.ob
  have : p ≠ u.ob := bj e ho
  exact ⟨dp, (ar this).trans e⟩
 ·rw [cG (f := shu t) kyA fun _ => rfl, ar (Ne.symm (J.ob_d hu))]; exact J.dc
 ·obtain ⟨y, hy, e⟩ := js hz
  obtain ⟨dy, hoy⟩ := (J.ac y hy).ob
  by_cases h : y.pa = u.pa
  ·have : y = u := mh J.np hy hu h
   subst this
   rw [if_pos rfl] at e
   subst e
   exact ⟨⟨dx, ae⟩, (ar (Ne.symm (J.ob_bl hy hu))).trans (J.ac y hy).ls⟩
  ·rw [if_neg h] at e
   subst e
   have nb : z.ob ≠ u.ob := fun q => h (by rw [mh J.na hy hu q])
   exact ⟨⟨dy, (ar nb).trans hoy⟩, (ar (Ne.symm (J.ob_bl hu hy))).trans (J.ac z hy).ls⟩
 ·rw [cG (f := shu t) _ fun _ => rfl]; exact J.np
 ·rw [cG (f := shu t) _ fun _ => rfl]; exact J.na
 ·rw [cG (f := shu t) _ fun _ => rfl]; exact J.nb
def zr (as : List Acc) (day : Int) : V -> Bool
 | .str y => (match fnd as y.cps.toList with | some c => lat c.un day | none => true)
 | _ => true
def sp_zE (C A bp bd no nO hb : Addr) : Sp := sp3 fun x y z H Q E => NoT H /\ asR x fun p => okP y /\ asK H y fun _ => asK H z fun _ => ∃ d cs, CAt C A H p d cs /\ (∀ c ∈ cs, c.be.length <= 100 /\ ∀ x ∈ c.be, ∃ y ∈ cs, y.pa = x) /\
 if ft y = true then tB (H := H) E no (fY cs y) fun u => if amg z 0 146096 = true then asI z fun day => if day <= u.fi then E (.ref bd) none H else if u.un = none then if (u.be.map fun x => zr cs day (L2.T x)).any id = true then E (.ref hb) none H else
  ∀ H', CAt C A H' p d (dS cs u.pa (shu day)) -> Keep (cs.map (·.ob)) H H' -> NoT H' -> Q .non H'
 else E (.ref nO) none H else E (.ref bd) none H else E (.ref bp) none H
theorem uj (T : Txt K mg a) : bQ P w K mg base (XE P w) 6 a.jN a.mK ["self", "path", "day"] (sp_zE a.aH a.ay a.aU a.bg a.aF a.aV a.aQ) := by
 refine T.pe.okX mP (fun vs H Q E h => sp3.len h) (fun cdv A outer s H vs Q E hr h => ?_)
 obtain ⟨x0, x1, x2, rfl, h⟩ := sp3.inv h
 try dsimp only [sp_zE, sp3] at h
 have ND := mP.nd
 have HU := bx hr
 obtain ⟨hN, h1⟩ := h
 obtain ⟨p, rfl, oy, h2⟩ := asR.inv h1
 obtain ⟨ty, hty, _, h3⟩ := asK.inv h2
 obtain ⟨tz, htz, _, d, cs, J, lb, k⟩ := asK.inv h3
 obtain ⟨dx, hp⟩ := J.ob
 have one : 1 <= sizeLine := by rw [sizeLine_eq]; decide
 have G_Account_stands_later := @iN P w K mg base a T
 have b_Account_stands_later := iQ T.e7
 have G_is_day := @uu P w K mg base a T
 have b_is_day := uw T.lH
 have G_Chart_account := @bZ P w K mg base a T
 have b_Chart_account := bV T.bT
 have G_is_path := @tO P w K mg base a T
 have b_is_path := sN T.i6
 refine ⟨_, (af (aS (cc (b_ (aN G_is_path (hr.mono (by decide)) rfl T.uW T.i6.kp b_is_path .nil bb (FA.pa (aa (fv 1) ad))))) (aj (cL T.qB PySem.F.excBase_ValueError rfl rfl T.me dE (FA.pa (aa (ak [116, 104, 105, 115, 32, 105, 115, 32, 110, 111, 32, 112, 97, 116, 104]) ad)))) aD)
  (af (aT (i := 3) ND rfl (Or.inl rfl) (bi (fv 0) T.aR T.bX G_Chart_account (hr.mono (by decide)) b_Chart_account .nil bb (FA.pa (aa (fv 1) ad))))
  (af (aS (L2.PW.pt (lK (cc (b_ (aN G_is_day (hr.mono (by decide)) rfl T.xC T.lH.kp b_is_day .nil bb (FA.pa (aa (fv 2) ad))))) (hR (aY gH (fv 2) (bR K (fv 3)) (aO _))))) (aj (cL T.yo PySem.F.excBase_ValueError rfl rfl T.sw dE (FA.pa (aa (ak [116, 104, 105, 115, 32, 105, 115, 32, 110, 111, 32, 100, 97, 121, 32, 98, 101, 104, 105, 110, 100, 32, 116, 104, 101, 32, 97, 99, 99, 111, 117, 110, 116, 39, 115, 32, 102, 105, 114, 115, 116, 32, 111, 110, 101]) ad)))) aD)
  (af (aS (gP (jZ (bR K (fv 3)))) (aj (cL T.uU PySem.F.excBase_ValueError rfl rfl T.ql dE (FA.pa (aa (ak [116, 104, 101, 32, 97, 99, 99, 111, 117, 110, 116, 32, 119, 97, 115, 32, 115, 104, 117, 116]) ad)))) aD)
  (af (aS (ut (b_ (aG (DT K rfl) rfl T.G4 Fl (FA.pa (aa (dt rfl (cl := _) (x := "lower") (xs := ["lower"]) (fr := ["day", "self"]) (ks := [2, 0]) (by exact ⟨rfl, by decide +kernel, rfl, by decide +kernel, rfl, cI rfl, rfl, aW rfl, aW (k := fun y => List.lookup y _) rfl, cJ rfl⟩) rfl (lg K (bR K (fv 3))) (fun _ _ _ _ _ => (bv (i := 0) (fQ (l := ["lower", "day", "self"]) (by decide)) rfl (Or.inl rfl))) (fun _ _ _ _ _ => fI) (fun _ _ _ _ _ => (bi (fK (Nat.lt_of_le_of_lt (Nat.add_le_add_left (by decide) _) HU) (bR K (fv 2)) (fv 0) (fun _ _ => rfl)) T.aX T.i5 G_Account_stands_later (hr.mono (by decide)) b_Account_stands_later .nil mQ (FA.pa (aa (fv 1) ad))))) ad))))) (aj (cL T.yR PySem.F.excBase_ValueError rfl rfl T.sO dE (FA.pa (aa (ak [97, 110, 32, 97, 99, 99, 111, 117, 110, 116, 32, 98, 101, 110, 101, 97, 116, 104, 32, 105, 115, 32, 111, 112, 101, 110, 32, 116, 104, 101, 110]) ad)))) aD)
  (aj (jI K (fv 3) (fv 2)))))))), ?_⟩
 walk_at "rd"
 refine ⟨hN, oy, asK.of hty ?_⟩
 cases e : ft x1 with
 | false => rw [e] at k; exact itp rfl ⟨one, k⟩
 | true =>
  rw [e, if_pos rfl] at k
  refine itn (by decide) ⟨_, _, hp, eM _, hN, asK.of hty ⟨d, cs, J, ?_⟩⟩
  cases eu : fY cs x1 with
  | none => rw [eu] at k; exact k
  | some u =>
   rw [eu] at k
   dsimp only [tB] at k ⊢
   have hu := hV eu
   obtain ⟨du, ho⟩ := (J.ac u hu).ob
   refine ⟨hN, asK.of htz ?_⟩
   cases ed : amg x2 0 146096 with
   | false => rw [ed] at k; exact itp rfl ⟨one, k⟩
   | true =>
    rw [ed, if_pos rfl] at k
    obtain ⟨day, rfl, k⟩ := asI.inv k
    refine itn (by decide) ⟨_, _, _, _, ho, T.aX, T.eF, ff .., ?_⟩
    walk_at "rd"
    change ite (day <= u.fi) _ _ at k
    by_cases hd : day <= u.fi
    ·rw [if_pos hd] at k; exact itp hd ⟨one, k⟩
    ·rw [if_neg hd] at k
     refine itn hd ⟨_, _, _, _, ho, T.aX, T.bK, fu .., ?_⟩
     cases un : u.un with
     | some t => rw [un] at k; exact itn (by intro z; cases z) ⟨one, k⟩
     | none =>
      rw [if_pos un] at k
      refine itp rfl ⟨hN, ?_⟩
      have hS : SqL K H u.bl (u.be.map L2.T) := SqL.of (J.ac u hu).ls
      have sz := szl
      have lu := lb u hu
      refine cmL u.bl (u.be.map L2.T) (fun H' => NoT H' /\ Same H H') (fun D ys hD => ⟨az hN rfl, al _ hD⟩) (fun H' c => hS.same c.2) (fun _ => true) (fun x => .bl (zr cs day x)) (fun R r => ?_) hS (by rw [List.length_map]; omega) (fun x _ H' R _ r => r) (fun x hx _ H' R c r => ?_) (fun D hD => ?_)
      ·walk_at "rd"
       exact ⟨_, _, _, _, ho, T.aX, T.eE, fb .., r⟩
      ·obtain ⟨l', hl', rfl⟩ := List.mem_map.mp hx
       obtain ⟨y, hy, py⟩ := lu.2 l' hl'
       have J1 := J.same c.2
       obtain ⟨dx1, hp1⟩ := J1.ob
       obtain ⟨dy, hoy⟩ := (J1.ac y hy).ob
       have fy : fnd cs l' = some y := by rw [<- py]; exact we J.np hy
       have r' : R (.bl (lat y.un day)) H' := by
        have e1 : zr cs day (L2.T l') = lat y.un day := by
         show (match fnd cs l' with | some c => lat c.un day | none => true) = _
         rw [fy]
        rw [e1] at r; exact r
       walk_at "rd"
       refine ⟨_, _, _, _, hp1, T.aR, T.bJ, lkp _, d, .ref y.ob, rfl, ?_, ?_⟩
       ·have g := DGet.k (k := .inr ⟨⟨l'⟩⟩) J1.dc
        rw [jS, fy] at g
        exact g
       ·walk_at "rd"
        exact ⟨_, _, hoy, Ei .., c.1, _, _, _, _, _, _, hoy, r'⟩
      ·refine ⟨u.be.map fun x => zr cs day (L2.T x), SqL.of (by rw [ae, List.filter_eq_self.mpr (by simp), List.map_map, List.map_map]; rfl), H, Gc.none (al _ hD), ?_⟩
       cases ea : (u.be.map fun x => zr cs day (L2.T x)).any id with
       | true => rw [ea] at k; exact itp rfl ⟨one, k⟩
       | false =>
        rw [ea] at k
        refine itn (by decide) ⟨_, _, _, ho, T.aX, T.bK, by show 5 < 1000; decide, ?_⟩
        rw [G7]
        exact k _ (J.shutA hu day ho) (Keep.refl.put (List.mem_map_of_mem hu)) (az hN rfl)
def sp_at (K : W.Frag) : Sp := sp2 fun x y H Q _ => asR x fun p => asI y fun k => ∃ ns : List Int, SqL K H p (ns.map V.int) /\ 0 <= k /\ Q (.int (ns.getD k.toNat 0)) H
theorem rL (T : Txt K mg a) : bQ P w K mg base (XE P w) 1 a.gW a.j8 ["_law_script", "_law_k"] (sp_at K) := by
 refine T.dN.okX rQ (fun vs H Q E h => sp2.len h) (fun cdv A outer s H vs Q E hr h => ?_)
 obtain ⟨x0, x1, rfl, h⟩ := sp2.inv h
 try dsimp only [sp_at, sp2] at h
 obtain ⟨p, rfl, h1⟩ := asR.inv h
 obtain ⟨k, rfl, ns, hp, k0, q⟩ := asI.inv h1
 refine ⟨_, (af (aS (aY uV (fv 1) (aG (dm K) rfl T.g_ eO (FA.pa (aa (fv 0) ad))) (aO _)) (aj (aA (aK (aq K) (fv 0) (fv 1) (fun _ _ => rfl)))) aD)
  (aj (aA ag))), ?_⟩
 walk_at "rd"
 refine ⟨_, .inl hp, ?_⟩
 rw [List.length_map]
 by_cases hk : k < ns.length
 ·exact itp hk ⟨_, _, .inl hp, B7 k0 hk, q⟩
 ·have g : ns.getD k.toNat 0 = 0 := by
   have l : ns.length <= k.toNat := by omega
   simp [List.getD, l]
  rw [g] at q
  exact itn hk q
def UP : List Nat := [65, 66, 67, 68, 69, 70, 71, 72, 73, 74, 75, 76, 77, 78, 79, 80, 81, 82, 83, 84, 85, 86, 87, 88, 89, 90]
theorem UPm (c : Nat) : c ∈ UP ↔ 65 <= c /\ c <= 90 := by
 constructor
 ·have ha : ∀ c ∈ UP, 65 <= c /\ c <= 90 := by decide
  exact ha c
 ·rintro ⟨h1, h2⟩
  have hb : ∀ k, k < 26 -> 65 + k ∈ UP := by decide
  have := hb (c - 65) (by omega)
  rwa [show 65 + (c - 65) = c by omega] at this
theorem EqR.nilR {K : W.Frag} {H : Hp} {p q : Addr} {xs : List V} (hx : SqL K H p xs) (hy : SqL K H q []) : EqR K H p q xs.isEmpty := by
 cases xs with
 | nil => exact EqR.lst (e := fun _ => true) hx hy rfl fun j x y gx _ => by simp at gx
 | cons x r => exact EqR.len hx hy (by simp)
theorem G8 (l : List Nat) : (l.filter fun c => !decide (c ∈ UP)).isEmpty = lie l 65 90 := by
 rw [Bool.eq_iff_iff, List.isEmpty_iff, List.filter_eq_nil_iff]
 unfold lie
 rw [List.all_eq_true]
 constructor
 ·intro z c hc
  have := z c hc
  have h1 : c ∈ UP := by simpa using this
  have := (UPm c).mp h1
  rw [decide_eq_true this.1, decide_eq_true this.2]; rfl
 ·intro z c hc
  have := z c hc
  rw [Bool.and_eq_true, decide_eq_true_iff, decide_eq_true_iff] at this
  rw [decide_eq_true ((UPm c).mpr this)]; decide
def sp_zX : Sp := sp1 fun x H Q _ => NoT H /\ okV x /\ asK H x fun _ => Q (.bl (A_ x)) H
theorem mm (T : Txt K mg a) : bQ P w K mg base (XE P w) 1 a.eQ a.gK ["_law_thing"] sp_zX := by
 refine T.eI.okG mw (fun vs H Q E h => sp1.len h) (fun cdv A outer s H vs Q E hr h => ?_)
 obtain ⟨x0, rfl, h⟩ := sp1.inv h
 try dsimp only [sp_zX, sp1] at h
 have HU := bx hr
 obtain ⟨hN, ho, h1⟩ := h
 obtain ⟨t, ht, hb, k⟩ := asK.inv h1
 refine ⟨hN, _, (af (aS (L2.PW.pt (lK (cc (b_ (aG (bI K) rfl T.aP aJ (FA.pa (aa (fv 0) (aa (cU (v := .ty "str") rfl T.sR nB rfl) ad)))))) (hR (aY (iK K HU) (aG (dm K) rfl T.g_ eO (FA.pa (aa (fv 0) ad))) ag (aO _))))) (aj (aA eh)) aD)
  (aj (aA (cz (bo K HU) (dt rfl (cl := _) (x := "_law_sign") (xs := ["_law_sign"]) (fr := []) (ks := []) (by exact ⟨rfl, by decide +kernel, rfl, by decide +kernel, rfl, cI rfl, rfl, aW rfl, aW (k := fun y => List.lookup y _) rfl, cJ rfl⟩) rfl (zt (fv 0)) (fun _ _ _ _ _ => (bv (i := 0) (fQ (l := ["_law_sign"]) (by decide)) rfl (Or.inl rfl))) (fun _ _ _ _ _ => (jQ (aY CA (fv 0) (ak [65, 66, 67, 68, 69, 70, 71, 72, 73, 74, 75, 76, 77, 78, 79, 80, 81, 82, 83, 84, 85, 86, 87, 88, 89, 90]) (by with_unfolding_all rfl)))) (fun _ _ _ _ _ => (fv 0))) (bU (FA.pa ad)) (aO _))))), ?_⟩
 by_cases hs : ∃ l, x0 = .str ⟨⟨l⟩⟩
 ·obtain ⟨l, rfl⟩ := hs
  have hl := ho l rfl
  have k' : Q (.bl (cur l)) H := k
  unfold cur at k'
  walk_at "rd"
  refine ⟨oE hl, ?_⟩
  by_cases h3 : l.length = 3
  ·rw [decide_eq_true h3] at k'
   refine itp (by omega) (cmS (fun _ => True) (fun _ _ _ => trivial) l (fun c => !decide (c ∈ UP)) (fun c => L2.T [c]) (fun R r => r) hl.1 (oE hl) (fun c _ H R _ r => ?_) (fun c _ _ H R _ r => r) (fun D hD => ?_))
   ·walk_at "rd"
    exact r
   ·refine ⟨Nat.zero_le _, fun p hp => ?_⟩
    walk_at "rd"
    refine ⟨_, EqR.nilR (SqL.of ((ar (au ae hp)).trans ae)) (SqL.of ae), ?_⟩
    rw [List.isEmpty_map, G8]
    exact ⟨H, Gc.none ((al _ hD).trans (al _ hp)), k'⟩
  ·rw [decide_eq_false h3] at k'
   exact itn (by omega) k'
 ·rw [xG hs] at k
  walk_at "rd"
  simp only [ht, jF ht hs]
  first | exact k | exact yu k | exact E7 k
def sp_zK : Sp := sp1 fun x H Q _ => NoT H /\ asK H x fun _ => Q (.bl (amg x 0 146096)) H
theorem lE (T : Txt K mg a) : bQ P w K mg base (XE P w) 1 a.iG a.k8 ["_law_day"] sp_zK := by
 refine T.d8.okG tM (fun vs H Q E h => sp1.len h) (fun cdv A outer s H vs Q E hr h => ?_)
 obtain ⟨x0, rfl, h⟩ := sp1.inv h
 try dsimp only [sp_zK, sp1] at h
 obtain ⟨hN, h1⟩ := h
 obtain ⟨t, ht, hb, k⟩ := asK.inv h1
 refine ⟨hN, _, (aj (aA (eU (aG (bI K) rfl T.aP aJ (FA.pa (aa (fv 0) (aa (cU (v := .ty "int") rfl T.tD nM rfl) ad)))) (eU (BS (aG (bI K) rfl T.aP aJ (FA.pa (aa (fv 0) (aa (cU (v := .ty "bool") rfl T.yZ vB rfl) ad))))) (d5 (lX gH gH ag (fv 0) ag)))))), ?_⟩
 cases hx : isI x0 with
 | true =>
  cases x0 with
  | int i =>
   walk_at "rd"
   by_cases h1 : (0 : Int) <= i
   ·have e : amg (.int i) 0 146096 = decide (i <= 146096) := by simp [amg, h1]
    rw [e] at k
    exact itp h1 k
   ·have e : amg (.int i) 0 146096 = false := by simp [amg, h1]
    rw [e] at k
    exact itn h1 k
  | _ => cases hx
 | false =>
  rw [Aa hx] at k
  walk_at "rd"
  simp only [ht]
  rw [<- xq ht] at hx
  rcases hb with rfl | rfl | rfl | rfl | rfl | rfl | rfl
  all_goals first
   | exact yu k
   | exact itp rfl (itn (by decide) k)
   | (exfalso; revert hx; decide)
def LET : List Nat := [97, 98, 99, 100, 101, 102, 103, 104, 105, 106, 107, 108, 109, 110, 111, 112, 113, 114, 115, 116, 117, 118, 119, 120, 121, 122]
theorem Cb {i : Int} (h0 : 0 <= i) (h1 : i < 26) : atI LET i = some (97 + i.toNat) := by
 obtain ⟨j, rfl⟩ : ∃ j : Nat, i = j := ⟨i.toNat, by omega⟩
 refine aE ?_
 have hb : ∀ k, k < 26 -> LET[k]? = some (97 + k) := by decide
 exact hb j (by omega)
def sg (f : Int) (j : Int) : Nat := 97 + ((f + 5 * j) % 26).toNat
theorem EE (f j : Int) : 97 <= sg f j /\ sg f j <= 122 := by unfold sg; omega
def NB (c k : Int) : List Nat := if c % 3 = 1 then (List.range (1 + k).toNat).map fun j : Nat => sg (c / 432 % 26) j
 else ((List.range (1 + c / 3 % 12).toNat).map fun j : Nat => sg (c / 432 % 26) j).set (c / 36 % 12 % (1 + c / 3 % 12)).toNat (97 + ((c / 432 % 26 + 5 * (c / 36 % 12 % (1 + c / 3 % 12)) + 1 + k) % 26).toNat)
theorem Hc {c k : Int} (h0 : 0 <= k) (h1 : k <= 11) : nm (NB c k) = true := by
 have vO : ∀ l : List Nat, (∀ d ∈ l, 97 <= d /\ d <= 122) -> lie l 97 122 = true := fun l h => by
  unfold lie; rw [List.all_eq_true]; intro d hd; simp [h d hd]
 unfold nm NB
 split
 ·rw [List.length_map, List.length_range, decide_eq_true (by omega), decide_eq_true (by omega), vO _ (fun d hd => by
   obtain ⟨j, _, rfl⟩ := List.mem_map.mp hd; exact EE _ _)]; rfl
 ·rw [List.length_set, List.length_map, List.length_range, decide_eq_true (by omega), decide_eq_true (by omega), vO _ (fun d hd => by
   rcases List.mem_or_eq_of_mem_set hd with h | h
   ·obtain ⟨j, _, rfl⟩ := List.mem_map.mp h; exact EE _ _
   ·omega)]; rfl
def sp_sy : Sp := sp2 fun x y H Q _ => NoT H /\ asI x fun c => asI y fun k => (0 <= k /\ k <= 11) /\ Q (.str ⟨⟨NB c k⟩⟩) H
theorem rY (T : Txt K mg a) : bQ P w K mg base (XE P w) 1 a.hJ a.j9 ["_law_cell", "_law_k"] sp_sy := by
 refine T.ic.okG j6 (fun vs H Q E h => sp2.len h) (fun cdv A outer s H vs Q E hr h => ?_)
 obtain ⟨x0, x1, rfl, h⟩ := sp2.inv h
 try dsimp only [sp_sy, sp2] at h
 have ND := j6.nd
 have HU := bx hr
 obtain ⟨hN, h1⟩ := h
 obtain ⟨c, rfl, h2⟩ := asI.inv h1
 obtain ⟨k, rfl, hk, q⟩ := asI.inv h2
 refine ⟨hN, _, (af (aT (i := 2) ND rfl (Or.inr rfl) (ak [97, 98, 99, 100, 101, 102, 103, 104, 105, 106, 107, 108, 109, 110, 111, 112, 113, 114, 115, 116, 117, 118, 119, 120, 121, 122]))
  (af (aT (i := 3) ND rfl (Or.inr rfl) (aB bt (aB dD (fv 0) ag) ag))
  (af (aS (aY (bo K HU) (aB bt (fv 0) ag) ag (aO _)) (aj (aA (cW K PySem.F.plainAttrs_str PySem.F.slot_str_join PySem.F.type_str_join (lj K) (ak []) (FA.pa (aa (dt rfl (cl := _) (x := "_law_j") (xs := ["_law_j"]) (fr := ["_law_letters", "_law_first"]) (ks := [2, 3]) (by exact ⟨rfl, by decide +kernel, rfl, by decide +kernel, rfl, cI rfl, rfl, aW rfl, aW (k := fun y => List.lookup y _) rfl, cJ rfl⟩) rfl (dA rfl T.eG (FA.pa (aa (aB bf ag (fv 1)) ad))) (fun _ _ _ _ _ => (bv (i := 0) (fQ (l := ["_law_j", "_law_letters", "_law_first"]) (by decide)) rfl (Or.inl rfl))) (fun _ _ _ _ _ => fI) (fun _ _ _ _ _ => (aK (aq K) (fv 1) (aB bt (aB bf (fv 2) (aB lw ag (fv 0))) ag) (fun _ _ => rfl)))) ad))))) aD)
  (af (aT (i := 4) ND rfl (Or.inl rfl) (aB bf ag (aB bt (aB dD (fv 0) ag) ag)))
  (af (aT (i := 5) ND rfl (Or.inl rfl) (aB bt (aB bt (aB dD (fv 0) ag) ag) (fv 4)))
  (af (lY (i0 := 6) ND rfl (Or.inl rfl) rfl (cl := _) (x := "_law_j") (xs := ["_law_j"]) (fr := ["_law_letters", "_law_first"]) (ks := [2, 3]) (by exact ⟨rfl, by decide +kernel, rfl, by decide +kernel, rfl, cI rfl, rfl, aW rfl, aW (k := fun y => List.lookup y _) rfl, cJ rfl⟩) rfl (dA rfl T.eG (FA.pa (aa (fv 4) ad))) (fun _ _ _ _ _ => (bv (i := 0) (fQ (l := ["_law_j", "_law_letters", "_law_first"]) (by decide)) rfl (Or.inl rfl))) (fun _ _ _ _ _ => fI) (fun _ _ _ _ _ => (aK (aq K) (fv 1) (aB bt (aB bf (fv 2) (aB lw ag (fv 0))) ag) (fun _ _ => rfl))))
  (af (sJ (aK (aq K) (fv 2) (aB bt (aB bf (aB bf (aB bf (fv 3) (aB lw ag (fv 5))) ag) (fv 1)) ag) (fun _ _ => rfl)) (wD (fv 6) (fv 5) oU))
  (aj (aA (cW K PySem.F.plainAttrs_str PySem.F.slot_str_join PySem.F.type_str_join (lj K) (ak []) (FA.pa (aa (fv 6) ad)))))))))))), ?_⟩
 walk_at "rd"
 have sz := szl
 have el : ∀ (j : Nat) (H' : Hp) (R : VK), R (L2.T [sg (c / 432 % 26) j]) H' -> (tOp (gIx K) (Bp 1) (tOp (gIC (fun x j => 0 < j) fun i j => V.int (i % j)) (tOp DZ (Bp 2) (tOp (gIC CMul fun i j => V.int (i * j)) (tC (V.int 5)) (Bp 0))) (tC (V.int 26))))
  [some (V.int j), some (L2.T LET), some (V.int (c / 432 % 26))] H' R := fun j H' R r => by
  unfold LET
  walk_at "rd"
  refine ⟨by omega, ?_⟩
  show match atI LET ((c / 432 % 26 + 5 * (j : Int)) % 26) with | some c => R (L2.T [c]) H' | none => False
  rw [Cb (by omega) (by omega)]
  exact r
 split
 ·rename_i hc
  refine cmR (fun _ => True) (fun _ _ _ => trivial) (1 + k).toNat (fun _ => true) (fun j : Nat => L2.T [sg (c / 432 % 26) j]) (fun R r => ?_) (by omega) (fun j hj H R _ r => r) (fun j hj _ H' R _ r => el j H' R r) (fun D hD => ?_)
  ·walk_at "rd"
   rw [show ((1 + k).toNat : Int) = 1 + k by omega] at r; exact r
  ·refine tI (List.range (1 + k).toNat) (fun j : Nat => sg (c / 432 % 26) j) (by rw [ae, List.filter_eq_self.mpr (by simp)]) (by rw [List.length_range]; omega) ⟨H, Gc.none (al _ hD), ?_⟩
   unfold NB at q
   rw [if_pos hc] at q; exact q
 ·rename_i hc
  refine ⟨by omega, ?_⟩
  have a0 : 0 <= c / 36 % 12 % (1 + c / 3 % 12) := Int.emod_nonneg _ (by omega)
  have a1 : c / 36 % 12 % (1 + c / 3 % 12) < 1 + c / 3 % 12 := Int.emod_lt_of_pos _ (by omega)
  unfold NB at q
  rw [if_neg hc] at q
  generalize c / 36 % 12 % (1 + c / 3 % 12) = at_ at a0 a1 q
  refine cmR (fun _ => True) (fun _ _ _ => trivial) (1 + c / 3 % 12).toNat (fun _ => true) (fun j : Nat => L2.T [sg (c / 432 % 26) j]) (fun R r => ?_) (by omega) (fun j hj H R _ r => r) (fun j hj _ H' R _ r => el j H' R r) (fun D hD => ?_)
  ·walk_at "rd"
   rw [show ((1 + c / 3 % 12).toNat : Int) = 1 + c / 3 % 12 by omega] at r; exact r
  ·refine ⟨by omega, ?_⟩
   show match atI LET ((c / 432 % 26 + 5 * at_ + 1 + k) % 26) with | some c_1 => _ | none => False
   rw [Cb (by omega) (by omega)]
   obtain ⟨j, rfl⟩ : ∃ j : Nat, at_ = j := ⟨at_.toNat, by omega⟩
   refine ⟨D, _, _, j, rfl, rfl, ae, tq (by rw [List.length_map, List.filter_eq_self.mpr (by simp), List.length_range]; omega), ?_⟩
   rw [jL]
   refine tI ((((List.range (1 + c / 3 % 12).toNat).map fun j : Nat => sg (c / 432 % 26) j)).set j (97 + ((c / 432 % 26 + 5 * (j : Int) + 1 + k) % 26).toNat)) (fun x => x) (by rw [ae, List.filter_eq_self.mpr (by simp), List.map_set, List.map_map]; rfl) (by rw [List.length_set, List.length_map, List.length_range]; omega) ⟨H, Gc.none (al _ hD), ?_⟩
   rw [List.map_id']; exact q
theorem EQ {i : Int} (h0 : 0 <= i) (h1 : i < 26) : atI UP i = some (65 + i.toNat) := by
 obtain ⟨j, rfl⟩ : ∃ j : Nat, i = j := ⟨i.toNat, by omega⟩
 refine aE ?_
 have hb : ∀ k, k < 26 -> UP[k]? = some (65 + k) := by decide
 exact hb j (by omega)
def su (f : Int) (j : Int) : Nat := 65 + ((f + 7 * j) % 26).toNat
theorem G_ (f j : Int) : 65 <= su f j /\ su f j <= 90 := by unfold su; omega
def CB (c k : Int) : List Nat := ((List.range 3).map fun j : Nat => su (c / 3 % 26) j).set (c % 3).toNat (65 + ((c / 3 % 26 + 7 * (c % 3) + 1 + k) % 26).toNat)
theorem Fk (c k : Int) : cur (CB c k) = true := by
 unfold cur CB
 rw [List.length_set, List.length_map, List.length_range, decide_eq_true rfl, Bool.true_and]
 unfold lie
 rw [List.all_eq_true]
 intro d hd
 rcases List.mem_or_eq_of_mem_set hd with h | h
 ·obtain ⟨j, _, rfl⟩ := List.mem_map.mp h
  simp [G_]
 ·simp; omega
def sp_u0 : Sp := sp2 fun x y H Q _ => NoT H /\ asI x fun c => asI y fun k => Q (L2.T (CB c k)) H
theorem mI (T : Txt K mg a) : bQ P w K mg base (XE P w) 1 a.eN a.gM ["_law_cell", "_law_k"] sp_u0 := by
 refine T.eV.okG gO (fun vs H Q E h => sp2.len h) (fun cdv A outer s H vs Q E hr h => ?_)
 obtain ⟨x0, x1, rfl, h⟩ := sp2.inv h
 try dsimp only [sp_u0, sp2] at h
 have ND := gO.nd
 obtain ⟨hN, h1⟩ := h
 obtain ⟨c, rfl, h2⟩ := asI.inv h1
 obtain ⟨k, rfl, q⟩ := asI.inv h2
 have sz := szl
 refine ⟨hN, _, (af (aT (i := 2) ND rfl (Or.inr rfl) (ak [65, 66, 67, 68, 69, 70, 71, 72, 73, 74, 75, 76, 77, 78, 79, 80, 81, 82, 83, 84, 85, 86, 87, 88, 89, 90]))
  (af (aT (i := 3) ND rfl (Or.inr rfl) (aB bt (aB dD (fv 0) ag) ag))
  (af (lY (i0 := 4) ND rfl (Or.inl rfl) rfl (cl := _) (x := "_law_j") (xs := ["_law_j"]) (fr := ["_law_letters", "_law_first"]) (ks := [2, 3]) (by exact ⟨rfl, by decide +kernel, rfl, by decide +kernel, rfl, cI rfl, rfl, aW rfl, aW (k := fun y => List.lookup y _) rfl, cJ rfl⟩) rfl (dA rfl T.eG (FA.pa (aa ag ad))) (fun _ _ _ _ _ => (bv (i := 0) (fQ (l := ["_law_j", "_law_letters", "_law_first"]) (by decide)) rfl (Or.inl rfl))) (fun _ _ _ _ _ => fI) (fun _ _ _ _ _ => (aK (aq K) (fv 1) (aB bt (aB bf (fv 2) (aB lw ag (fv 0))) ag) (fun _ _ => rfl))))
  (af (sJ (aK (aq K) (fv 2) (aB bt (aB bf (aB bf (aB bf (fv 3) (aB lw ag (aB bt (fv 0) ag))) ag) (fv 1)) ag) (fun _ _ => rfl)) (wD (fv 4) (aB bt (fv 0) ag) oU))
  (aj (aA (cW K PySem.F.plainAttrs_str PySem.F.slot_str_join PySem.F.type_str_join (lj K) (ak []) (FA.pa (aa (fv 4) ad))))))))), ?_⟩
 walk_at "rd"
 have a0 : 0 <= c % 3 := Int.emod_nonneg _ (by decide)
 have a1 : c % 3 < 3 := Int.emod_lt_of_pos _ (by decide)
 unfold CB at q
 generalize c % 3 = at_ at a0 a1 q ⊢
 refine cmR (fun _ => True) (fun _ _ _ => trivial) 3 (fun _ => true) (fun j : Nat => L2.T [su (c / 3 % 26) j]) (fun R r => ?_) (by omega) (fun j hj H R _ r => r) (fun j hj _ H' R _ r => ?_) (fun D hD => ?_)
 ·walk_at "rd"
  exact r
 ·walk_at "rd"
  refine ⟨by omega, ?_⟩
  show match atI UP ((c / 3 % 26 + 7 * (j : Int)) % 26) with | some c => R (L2.T [c]) H' | none => False
  rw [EQ (by omega) (by omega)]
  exact r
 ·refine ⟨by omega, ?_⟩
  show match atI UP ((c / 3 % 26 + 7 * at_ + 1 + k) % 26) with | some c_1 => _ | none => False
  rw [EQ (by omega) (by omega)]
  obtain ⟨j, rfl⟩ : ∃ j : Nat, at_ = j := ⟨at_.toNat, by omega⟩
  refine ⟨D, _, _, j, rfl, rfl, ae, tq (by rw [List.length_map, List.filter_eq_self.mpr (by simp), List.length_range]; omega), ?_⟩
  rw [jL]
  refine tI (((List.range 3).map fun j : Nat => su (c / 3 % 26) j).set j (65 + ((c / 3 % 26 + 7 * (j : Int) + 1 + k) % 26).toNat)) (fun x => x) (by rw [ae, List.filter_eq_self.mpr (by simp), List.map_set, List.map_map]; rfl) (by rw [List.length_set, List.length_map, List.length_range]; omega) ⟨H, Gc.none (al _ hD), ?_⟩
  rw [List.map_id']; exact q
theorem Bs (s x a : List Nat) : ∀ (r : List (List Nat)), bG s (r ++ [x ++ a]) = bG s (r ++ [x]) ++ a
 | [] => by simp [bG]
 | y :: r => by
  rw [fA s _ (y :: r) (by simp), fA s _ (y :: r) (by simp)]; simp
theorem zc (c : Nat) (l : List Nat) : spN c (l ++ [c]) = spN c l ++ [[]] := by
 have h := h8 c (spN c l ++ [[]]) (by simp) fun p hp => by
  rcases List.mem_append.mp hp with h | h
  ·exact dB c l p h
  ·rw [List.mem_singleton.mp h]; simp
 rw [fA _ _ _ (gj c l), eg, List.append_nil] at h
 exact h
theorem yK {c a : Nat} {l : List Nat} {i : List (List Nat)} {x : List Nat} (ha : a ≠ c) (h : spN c l = i ++ [x]) : spN c (l ++ [a]) = i ++ [x ++ [a]] := by
 have hf : ∀ p ∈ i ++ [x ++ [a]], c ∉ p := fun p hp => by
  rcases List.mem_append.mp hp with z | z
  ·exact dB c l p (by rw [h]; exact List.mem_append_left _ z)
  ·rw [List.mem_singleton.mp z]
   have := dB c l x (by rw [h]; simp)
   simp only [List.mem_append, List.mem_singleton, not_or]
   exact ⟨this, fun e => ha e.symm⟩
 have hj := h8 c (i ++ [x ++ [a]]) (by simp) hf
 rw [Bs, <- h, eg] at hj
 exact hj
theorem BF (c : Nat) (l : List Nat) : ∃ i x, spN c l = i ++ [x] := ⟨(spN c l).dropLast, (spN c l).getLast (gj c l), (List.dropLast_concat_getLast (gj c l)).symm⟩
theorem uN {s : List Nat} {d : Nat} : ∀ {ps : List (List Nat)}, d ∈ bG s ps -> d ∈ s \/ ∃ p ∈ ps, d ∈ p
 | [], h => by cases h
 | [p], h => .inr ⟨p, by simp, h⟩
 | p :: q :: r, h => by
  rw [bG] at h
  rcases List.mem_append.mp h with h | h
  ·rcases List.mem_append.mp h with h | h
   ·exact .inr ⟨p, by simp, h⟩
   ·exact .inl h
  ·rcases uN h with h | ⟨x, hx, hd⟩
   ·exact .inl h
   ·exact .inr ⟨x, List.mem_cons_of_mem _ hx, hd⟩
theorem tf {l : List Nat} (h : d_ l = true) : ∀ d ∈ l, d = 58 \/ (97 <= d /\ d <= 122) := fun d hd => by
 unfold d_ at h
 rw [<- eg 58 l] at hd
 rcases uN hd with z | ⟨p, hp, hd⟩
 ·exact .inl (List.mem_singleton.mp z)
 ·exact .inr ((sC (List.all_eq_true.mp (Bool.and_eq_true_iff.mp h).2 p hp)).2.2 d hd)
theorem vO {l : List Nat} (h : ∀ d ∈ l, 97 <= d /\ d <= 122) : lie l 97 122 = true := by
 unfold lie; rw [List.all_eq_true]; intro d hd; simp [h d hd]
theorem sf {K : W.Frag} {H : Hp} {p q : Addr} {xs : List V} (hx : SqL K H p xs) (hq : SqL K H q []) : EqR K H p q xs.isEmpty := by
 cases xs with
 | nil => exact EqR.lst (e := fun _ => true) hx hq rfl fun j x y g _ => by simp at g
 | cons a r => exact EqR.len hx hq (by simp)
def sp_Ad : Sp := sp1 fun x H Q _ => NoT H /\ okP x /\ asK H x fun _ => if ft x = true then asT x fun l => ∀ p, H p = none -> Q (.ref p) (upd H p (tx (spN 58 l))) else Q .non H
theorem j2 (T : Txt K mg a) : bQ P w K mg base (XE P w) 1 a.lB a.oR ["_law_path"] sp_Ad := by
 refine T.dJ.okG pH (fun vs H Q E h => sp1.len h) (fun cdv A outer s H vs Q E hr h => ?_)
 obtain ⟨x0, rfl, h⟩ := sp1.inv h
 try dsimp only [sp_Ad, sp1] at h
 have ND := pH.nd
 have HU := bx hr
 obtain ⟨hN, ho, h1⟩ := h
 obtain ⟨t, ht, hb, k⟩ := asK.inv h1
 refine ⟨hN, _, (af (aS (cc (b_ (aG (bI K) rfl T.aP aJ (FA.pa (aa (fv 0) (aa (cU (v := .ty "str") rfl T.sR nB rfl) ad)))))) (aj (aA cX)) aD)
  (af (aT (i := 1) ND rfl (Or.inl rfl) (bU (FA.pa (aa (ak []) ad))))
  (af (kL (by passes_own) rfl (zt (fv 0)) (bv (i := 2) ND rfl (Or.inl rfl)) (aj (aS (aY (bo K HU) (fv 2) (ak [58]) (aO _)) (aj (cZ (cW K PySem.F.plainAttrs_list PySem.F.slot_list_append PySem.F.type_list_append eZ (fv 1) (FA.pa (aa (ak []) ad))))) (aj (aS (aY GW (fv 2) (ak [97, 98, 99, 100, 101, 102, 103, 104, 105, 106, 107, 108, 109, 110, 111, 112, 113, 114, 115, 116, 117, 118, 119, 120, 121, 122]) (by with_unfolding_all rfl)) (aj (sJ (aB bf (aK (aq K) (fv 1) (qQ kJ ag) (fun _ _ => rfl)) (fv 2)) (wD (fv 1) (qQ kJ ag) oU))) (aj (aA cX)))))))
  (af (aS (ut (L2.PW.pt (lK (aY uB (aG (dm K) rfl T.g_ eO (FA.pa (aa (fv 1) ad))) ag (aO _)) (hR (aY (iK K HU) (dt rfl (cl := _) (x := "_law_name") (xs := ["_law_name"]) (fr := []) (ks := []) (by exact ⟨rfl, by decide +kernel, rfl, by decide +kernel, rfl, cI rfl, rfl, aW rfl, aW (k := fun y => List.lookup y _) rfl, cJ rfl⟩) rfl (lg K (fv 1)) (fun _ _ _ _ _ => (bv (i := 0) (fQ (l := ["_law_name"]) (by decide)) rfl (Or.inl rfl))) (fun _ _ _ _ _ => (jQ (cc (BM gH gH ag (aG (dm K) rfl T.g_ eO (FA.pa (aa (fv 0) ad))) ag)))) (fun _ _ _ _ _ => (fv 0))) (bU (FA.pa ad)) (aO _)))))) (aj (aA cX)) aD)
  (aj (aA (fv 1))))))), ?_⟩
 by_cases hx : ∃ l, x0 = .str ⟨⟨l⟩⟩
 ·obtain ⟨l, rfl⟩ := hx
  have hl := ho l rfl
  cases ht
  walk_at "rd"
  have sz := szl
  have k2 : if d_ l = true then (∀ p, H p = none -> Q (.ref p) (upd H p (tx (spN 58 l)))) else Q .non H := k
  have kn : ¬ d_ l = true -> Q .non H := fun h => by rw [if_neg h] at k2; exact k2
  have LETm : ∀ c : Nat, c ∈ [97, 98, 99, 100, 101, 102, 103, 104, 105, 106, 107, 108, 109, 110, 111, 112, 113, 114, 115, 116, 117, 118, 119, 120, 121, 122] ↔ 97 <= c /\ c <= 122 := fun c => by
   constructor
   ·have ha : ∀ c ∈ LET, 97 <= c /\ c <= 122 := by decide
    exact ha c
   ·rintro ⟨h1, h2⟩
    have hb : ∀ k, k < 26 -> 97 + k ∈ LET := by decide
    have := hb (c - 97) (by omega)
    rwa [show 97 + (c - 97) = c by omega] at this
  refine ⟨by omega, fun p hp => ⟨hl.1, D6 (fun i σ H' => H' = upd H p (tx (spN 58 (l.take i))) /\ (∀ d ∈ l.take i, d = 58 \/ (97 <= d /\ d <= 122)) /\ ∃ z, σ = [some (V.str { cps := { toList := l } }), some (V.ref p), z]) ⟨rfl, fun d hd => by simp at hd, none, rfl⟩ ?_ ?_⟩⟩
  ·rintro i c σ H' hc ⟨rfl, hg, z, rfl⟩
   have tk : l.take (i + 1) = l.take i ++ [c] := by rw [List.take_succ, hc]; rfl
   have hl2 : (spN 58 (l.take i)).length <= 200 := by
    have := jM 58 (l.take i)
    rw [List.length_take] at this; omega
   walk_at "rd"
   split
   ·rename_i e
    have e : c = 58 := by simpa using e
    subst e
    refine ⟨.inl ⟨_, SqL.of ae⟩, p, _, _, rfl, rfl, ae, by rw [List.length_map]; omega, ?_, fun d hd => ?_, _, rfl⟩
    ·rw [jL, tk, zc]; unfold tx; rw [List.map_append]; rfl
    ·rw [tk] at hd
     rcases List.mem_append.mp hd with h | h
     ·exact hg d h
     ·exact .inl (List.mem_singleton.mp h)
   ·rename_i e
    have e : c ≠ 58 := fun z => e (by simpa using z)
    split
    ·rename_i hc2
     have hc2 := (LETm c).mp (of_decide_eq_true hc2)
     obtain ⟨i0, x, hx⟩ := BF 58 (l.take i)
     have hx2 := yK e hx
     rw [<- tk] at hx2
     have ln : x.length <= 200 := by
      have := (gR 58 (l.take i) x (by rw [hx]; simp)).1
      rw [List.length_take] at this; omega
     have et : tx (spN 58 (l.take i)) = .lst (i0.map L2.T ++ [L2.T x]) := by unfold tx; rw [hx, List.map_append]; rfl
     have et2 : tx (spN 58 (l.take (i + 1))) = .lst (i0.map L2.T ++ [L2.T (x ++ [c])]) := by unfold tx; rw [hx2, List.map_append]; rfl
     rw [et, et2]
     refine ⟨_, _, .inl (SqL.of ae), pC _ _, ?_⟩
     walk_at "rd"
     refine ⟨by omega, p, _, _, i0.length, rfl, rfl, ae, ?_, ?_, fun d hd => ?_, _, rfl⟩
     ·unfold ixN
      rw [if_neg (by decide), if_pos (by simp; omega)]
      simp
      omega
     ·rw [jL]
      congr 2
      simp
     ·rw [tk] at hd
      rcases List.mem_append.mp hd with h | h
      ·exact hg d h
      ·rw [List.mem_singleton.mp h]; exact .inr hc2
    ·rename_i hc2
     refine ⟨H, Gc.none (al _ hp), kn fun h => ?_⟩
     rcases tf h c (List.mem_of_getElem? hc) with z | z
     ·exact e z
     ·exact hc2 (decide_eq_true ((LETm c).mpr z))
  ·rintro σ H' ⟨rfl, hg, z, rfl⟩
   rw [List.take_length] at hg ⊢
   walk_at "rd"
   have sl := jM 58 l
   have sm := al (tx (spN 58 l)) hp
   refine ⟨az hN rfl, _, .inl (SqL.of ae), ?_⟩
   rw [List.length_map]
   have l1 : 1 <= (spN 58 l).length := by
    cases hh : spN 58 l with
    | nil => exact absurd hh (gj 58 l)
    | cons a r => simp
   split
   ·rename_i h6
    refine ⟨H, Gc.none sm, kn fun h => ?_⟩
    unfold d_ at h
    rw [decide_eq_false (by omega : ¬ (spN 58 l).length <= 6)] at h
    simp at h
   ·rename_i h6
    let pf : V -> Bool := fun v => match v with | .str y => !(decide (1 <= (cs y).length) && decide ((cs y).length <= 12)) | _ => false
    have pT : ∀ x : List Nat, pf (L2.T x) = !(decide (1 <= x.length) && decide (x.length <= 12)) := fun x => rfl
    refine cmL p ((spN 58 l).map L2.T) (fun H' => SqL K H' p ((spN 58 l).map L2.T)) (fun D ys hD => SqL.same (al _ hD) (SqL.of ae)) (fun H' c => c) pf (fun x => x) (fun R r => r) (SqL.of ae) (by rw [List.length_map]; omega) (fun x hx H' R c r => ?_) (fun x hx _ H' R c r => r) (fun D hD => ⟨Nat.zero_le _, fun p1 hp1 => ?_⟩)
    ·obtain ⟨y, hy, rfl⟩ := List.mem_map.mp hx
     rw [pT] at r
     have ly := (gR 58 l y hy).1
     walk_at "rd"
     refine ⟨by omega, ?_⟩
     split
     ·rename_i h1
      rw [decide_eq_true (by omega : 1 <= y.length)] at r
      have e : decide (((y.length : Nat) : Int) <= 12) = decide (y.length <= 12) := decide_eq_decide.mpr (by omega)
      rw [e]; simpa using r
     ·rename_i h1
      rw [decide_eq_false (by omega : ¬ 1 <= y.length)] at r
      simpa using r
    ·have m1 := al (HO.lst (List.map (fun x => x) (List.filter pf (List.map L2.T (spN 58 l))))) hD
     refine ⟨_, sf (SqL.same (al _ hp1) (SqL.of ae)) (SqL.of ae), upd H p (tx (spN 58 l)), Gc.none (m1.trans (al _ hp1)), ?_⟩
     rw [List.map_id']
     have ep : (List.filter pf (List.map L2.T (spN 58 l))).isEmpty = true ↔ d_ l = true := by
      rw [List.isEmpty_iff, List.filter_eq_nil_iff]
      unfold d_
      rw [decide_eq_true l1, decide_eq_true (by omega : (spN 58 l).length <= 6), Bool.true_and, Bool.true_and, List.all_eq_true]
      constructor
      ·intro h y hy
       have h2 := h _ (List.mem_map.mpr ⟨y, hy, rfl⟩)
       rw [pT] at h2
       have h3 : (decide (1 <= y.length) && decide (y.length <= 12)) = true := by
        cases hb : (decide (1 <= y.length) && decide (y.length <= 12)) with
        | true => rfl
        | false => rw [hb] at h2; exact absurd rfl h2
       unfold nm
       rw [h3, Bool.true_and]
       exact vO fun d hd => by
        rcases hg d ((gR 58 l y hy).2 d hd) with z | z
        ·exact absurd (z ▸ hd) (dB 58 l y hy)
        ·exact z
      ·intro h x hx
       obtain ⟨y, hy, rfl⟩ := List.mem_map.mp hx
       have h2 := h y hy
       unfold nm at h2
       rw [pT, (Bool.and_eq_true_iff.mp h2).1]; decide
     cases hb : (List.filter pf (List.map L2.T (spN 58 l))).isEmpty with
     | true =>
      rw [if_pos (ep.mp hb)] at k2
      exact ⟨_, Gc.one sm hp ae rfl, k2 p hp⟩
     | false =>
      exact ⟨H, Gc.none sm, kn fun h => by rw [ep.mpr h] at hb; cases hb⟩
 ·have e := jF ht hx
  have e2 : ft x0 = false := by
   cases x0 with
   | str y => exact absurd ⟨y.cps.toList, rfl⟩ hx
   | _ => rfl
  rw [e2, if_neg (by decide)] at k
  walk_at "rd"
  simp only [ht]
  rw [e]
  exact GQ k
abbrev B6 : List Nat := [110, 97, 109, 101]
abbrev wQ : List Nat := [112, 97, 116, 104]
abbrev CM : List Nat := [107, 105, 110, 100]
abbrev Fv : List Nat := [99, 117, 114, 114, 101, 110, 99, 121]
abbrev Cv : List Nat := [100, 97, 121]
abbrev wF : List Nat := [116, 119, 105, 99, 101]
abbrev yH : List Nat := [97, 99, 99, 111, 117, 110, 116]
abbrev Al : List Nat := [111, 112, 101, 110]
abbrev Gk : List Nat := [98, 101, 108, 111, 119]
theorem AG {k : Nat} {A : PySem.Around} (r : RoomC k A) : A.units + 100 < PySem.cLine := by have := r.un; omega
def WDS : List (List Nat) := [B6, wQ, CM, Fv, Cv, wF, yH, Al, Gk]
def WCS (a : Adr) : List Addr := [a.aZ, a.aU, a.a_, a.aI, a.bg, a.bA, a.aF, a.aV, a.aQ]
theorem jK {H H' : Hp} {D : Addr} {o : HO} (s : Same H H') (h : H D = none) : Same H (upd H' D o) := fun c z e => by
 rw [ar (au e h)]; exact s _ _ e
def sp_Ao (a : Adr) : Sp := sp1 fun x H Q _ => asR x fun e => NoT H /\ ∃ (C : Addr) (i : Nat), H e = some (jC (.ref C) e) /\ (WCS a)[i]? = some C /\ ∀ H', Same H H' -> NoT H' -> Q (L2.T (WDS.getD i [])) H'
theorem n8 (T : Txt K mg a) : Au P w K mg base (XE P w) 1 a.ik a.oX ["_law_e"] (sp_Ao a) := by
 refine T.fZ.okC oK (fun vs H Q E h => sp1.len h) (fun cdv A outer s H vs Q E hr h => ?_)
 obtain ⟨x0, rfl, h⟩ := sp1.inv h
 try dsimp only [sp_Ao, sp1] at h
 have ND := oK.nd
 have HU : (yl (XE P w) P w K mg base ["_law_e", "_law_found"] "_law_word" (ai cY) a.ik cdv A outer s H E).A.units + 100 < cLine := AG hr
 obtain ⟨e, rfl, hN, C, i, he, hc, k⟩ := asR.inv h
 have sz := szl
 refine ⟨_, (af (aT (i := 1) ND rfl (Or.inl rfl) (bU (FA.pa (aa (aG (bI K) rfl T.aP aJ (FA.pa (aa (fv 0) (aa (fJ (v := .ref a.aZ) rfl T.uI rfl) ad)))) (aa (aG (bI K) rfl T.aP aJ (FA.pa (aa (fv 0) (aa (fJ (v := .ref a.aU) rfl T.me rfl) ad)))) (aa (aG (bI K) rfl T.aP aJ (FA.pa (aa (fv 0) (aa (fJ (v := .ref a.a_) rfl T.uz rfl) ad)))) (aa (aG (bI K) rfl T.aP aJ (FA.pa (aa (fv 0) (aa (fJ (v := .ref a.aI) rfl T.mL rfl) ad)))) ad)))))))
  (af (aT (i := 1) ND rfl (Or.inl rfl) (aB zo (fv 1) (bU (FA.pa (aa (aG (bI K) rfl T.aP aJ (FA.pa (aa (fv 0) (aa (fJ (v := .ref a.bg) rfl T.sw rfl) ad)))) (aa (aG (bI K) rfl T.aP aJ (FA.pa (aa (fv 0) (aa (fJ (v := .ref a.bA) rfl T.vH rfl) ad)))) (aa (aG (bI K) rfl T.aP aJ (FA.pa (aa (fv 0) (aa (fJ (v := .ref a.aF) rfl T.rf rfl) ad)))) (aa (aG (bI K) rfl T.aP aJ (FA.pa (aa (fv 0) (aa (fJ (v := .ref a.aV) rfl T.ql rfl) ad)))) ad))))))))
  (af (cZ (cW K PySem.F.plainAttrs_list PySem.F.slot_list_append PySem.F.type_list_append eZ (fv 1) (FA.pa (aa (aG (bI K) rfl T.aP aJ (FA.pa (aa (fv 0) (aa (fJ (v := .ref a.aQ) rfl T.sO rfl) ad)))) ad))))
  (af (aS (L2.PW.pt (lK (aY (iK K HU) (cW K PySem.F.plainAttrs_list PySem.F.slot_list_count PySem.F.type_list_count (DE K) (fv 1) (FA.pa (aa eh ad))) ag (aO _)) (hR (cc (b_ (aG (bI K) rfl T.aP aJ (FA.pa (aa (fv 0) (aa (cU (v := .ty "ValueError") rfl T.wk uk rfl) ad))))))))) (aj (aA (ak [111, 100, 100]))) aD)
  (aj (aA (dw (FA.pa (aa (ak [110, 97, 109, 101]) (aa (ak [112, 97, 116, 104]) (aa (ak [107, 105, 110, 100]) (aa (ak [99, 117, 114, 114, 101, 110, 99, 121]) (aa (ak [100, 97, 121]) (aa (ak [116, 119, 105, 99, 101]) (aa (ak [97, 99, 99, 111, 117, 110, 116]) (aa (ak [111, 112, 101, 110]) (aa (ak [98, 101, 108, 111, 119]) ad)))))))))) (cW K PySem.F.plainAttrs_list PySem.F.slot_list_index PySem.F.type_list_index (Ea K) (fv 1) (FA.pa (aa eh ad))) (fun _ _ => rfl)))))))), ?_⟩
 walk_at "rd"
 obtain ⟨b0, b1, b2, b3, b4, b5, b6, b7, b8, xc, s0, s1, s2, s3, s4, s5, s6, s7, s8, sv, cn, hi, hj⟩ : ∃ b0 b1 b2 b3 b4 b5 b6 b7 b8 : Bool, da K C /\ W.kitOne K (.ref C) (.ref a.aZ) = some b0 /\ W.kitOne K (.ref C) (.ref a.aU) = some b1 /\ W.kitOne K (.ref C) (.ref a.a_) = some b2 /\ W.kitOne K (.ref C) (.ref a.aI) = some b3 /\ W.kitOne K (.ref C) (.ref a.bg) = some b4 /\ W.kitOne K (.ref C) (.ref a.bA) = some b5 /\ W.kitOne K (.ref C) (.ref a.aF) = some b6 /\ W.kitOne K (.ref C) (.ref a.aV) = some b7 /\ W.kitOne K (.ref C) (.ref a.aQ) = some b8 /\ W.kitOne K (.ref C) (.type "ValueError") = some true /\ [b0, b1, b2, b3, b4, b5, b6, b7, b8].countP id = 1 /\ [b0, b1, b2, b3, b4, b5, b6, b7, b8][i]? = some true /\ ∀ j, j < i -> [b0, b1, b2, b3, b4, b5, b6, b7, b8][j]? = some false := by
  have hi9 : i < 9 := (List.getElem?_eq_some_iff.mp hc).1
  match i, hi9, hc with
  | 0, _, hc => cases hc; exact ⟨_, _, _, _, _, _, _, _, _, T.Bh, T.oW, T.oH, T.pV, T.kF, T.qE, T.rE, T.mj, T.pi, T.nk, T.kQ, rfl, rfl, by decide⟩
  | 1, _, hc => cases hc; exact ⟨_, _, _, _, _, _, _, _, _, T.AN, T.ph, T.pq, T.oB, T.kq, T.qA, T.rV, T.mJ, T.pP, T.nj, T.lI, rfl, rfl, by decide⟩
  | 2, _, hc => cases hc; exact ⟨_, _, _, _, _, _, _, _, _, T.Bj, T.pG, T.pK, T.pN, T.kc, T.qx, T.rH, T.mF, T.nV, T.nD, T.lf, rfl, rfl, by decide⟩
  | 3, _, hc => cases hc; exact ⟨_, _, _, _, _, _, _, _, _, T.tY, T.kG, T.ko, T.kH, T.ig, T.kK, T.my, T.i8, T.km, T.jV, T.iF, rfl, rfl, by decide⟩
  | 4, _, hc => cases hc; exact ⟨_, _, _, _, _, _, _, _, _, T.BG, T.qf, T.qc, T.qo, T.lR, T.rW, T.sQ, T.mW, T.qk, T.pX, T.mz, rfl, rfl, by decide⟩
  | 5, _, hc => cases hc; exact ⟨_, _, _, _, _, _, _, _, _, T.Et, T.rS, T.rK, T.rF, T.mq, T.tE, T.tZ, T.pL, T.rP, T.qm, T.nS, rfl, rfl, by decide⟩
  | 6, _, hc => cases hc; exact ⟨_, _, _, _, _, _, _, _, _, T.xn, T.mH, T.mE, T.ms, T.iO, T.nP, T.oI, T.ku, T.mv, T.kM, T.jO, rfl, rfl, by decide⟩
  | 7, _, hc => cases hc; exact ⟨_, _, _, _, _, _, _, _, _, T.AL, T.oa, T.pd, T.oF, T.kb, T.qb, T.rO, T.mG, T.oZ, T.mX, T.lD, rfl, rfl, by decide⟩
  | 8, _, hc => cases hc; exact ⟨_, _, _, _, _, _, _, _, _, T.zw, T.mV, T.nh, T.nN, T.jW, T.oP, T.qj, T.lz, T.ng, T.mB, T.kg, rfl, rfl, by decide⟩
 refine ⟨_, b0, he, xc, s0, _, b1, he, xc, s1, _, b2, he, xc, s2, _, b3, he, xc, s3, by walk_at "om", fun p hp => ?_⟩
 have m1 := al (HO.lst [V.bl b0, V.bl b1, V.bl b2, V.bl b3]) hp
 have he1 := m1 _ _ he
 have hp1 : upd H p (HO.lst [V.bl b0, V.bl b1, V.bl b2, V.bl b3]) p = _ := ae
 have N1 : NoT (upd H p (HO.lst [V.bl b0, V.bl b1, V.bl b2, V.bl b3])) := az hN rfl
 generalize upd H p (HO.lst [V.bl b0, V.bl b1, V.bl b2, V.bl b3]) = H1 at m1 he1 hp1 N1 ⊢
 refine ⟨_, b4, he1, xc, s4, _, b5, he1, xc, s5, _, b6, he1, xc, s6, _, b7, he1, xc, s7, by walk_at "om", fun p2 hp2 => ?_⟩
 have m2 := al (HO.lst [V.bl b4, V.bl b5, V.bl b6, V.bl b7]) hp2
 refine ⟨_, _, m2 _ _ hp1, ae, by simp; omega, fun p3 hp3 => ?_⟩
 have m3 := m2.trans (al (HO.lst ([V.bl b0, V.bl b1, V.bl b2, V.bl b3] ++ [V.bl b4, V.bl b5, V.bl b6, V.bl b7])) hp3)
 have he3 := m3 _ _ he1
 have N3 : NoT (upd (upd H1 p2 (HO.lst [V.bl b4, V.bl b5, V.bl b6, V.bl b7])) p3 (HO.lst ([V.bl b0, V.bl b1, V.bl b2, V.bl b3] ++ [V.bl b4, V.bl b5, V.bl b6, V.bl b7]))) := az (az N1 rfl) rfl
 have h3 : upd (upd H1 p2 (HO.lst [V.bl b4, V.bl b5, V.bl b6, V.bl b7])) p3 (HO.lst ([V.bl b0, V.bl b1, V.bl b2, V.bl b3] ++ [V.bl b4, V.bl b5, V.bl b6, V.bl b7])) p3 = some (.lst [V.bl b0, V.bl b1, V.bl b2, V.bl b3, V.bl b4, V.bl b5, V.bl b6, V.bl b7]) := ae
 have f3 : H p3 = none := (m1.trans m2).free hp3
 generalize upd (upd H1 p2 (HO.lst [V.bl b4, V.bl b5, V.bl b6, V.bl b7])) p3 (HO.lst ([V.bl b0, V.bl b1, V.bl b2, V.bl b3] ++ [V.bl b4, V.bl b5, V.bl b6, V.bl b7])) = H3 at m3 he3 N3 h3 ⊢
 refine ⟨.inl ⟨_, SqL.of h3⟩, _, b8, he3, xc, s8, p3, _, _, rfl, rfl, h3, by show 8 < sizeLine; omega, ?_⟩
 have he4 : upd H3 p3 (HO.lst ([V.bl b0, V.bl b1, V.bl b2, V.bl b3, V.bl b4, V.bl b5, V.bl b6, V.bl b7] ++ [V.bl b8])) e = _ := (ar (by rintro rfl; rw [he3] at h3; cases h3)).trans he3
 have N4 : NoT (upd H3 p3 (HO.lst ([V.bl b0, V.bl b1, V.bl b2, V.bl b3, V.bl b4, V.bl b5, V.bl b6, V.bl b7] ++ [V.bl b8]))) := az N3 rfl
 have h4 : upd H3 p3 (HO.lst ([V.bl b0, V.bl b1, V.bl b2, V.bl b3, V.bl b4, V.bl b5, V.bl b6, V.bl b7] ++ [V.bl b8])) p3 = some (.lst ([b0, b1, b2, b3, b4, b5, b6, b7, b8].map V.bl)) := ae
 have m4 : Same H (upd H3 p3 (HO.lst ([V.bl b0, V.bl b1, V.bl b2, V.bl b3, V.bl b4, V.bl b5, V.bl b6, V.bl b7] ++ [V.bl b8]))) := jK (m1.trans m3) f3
 generalize upd H3 p3 (HO.lst ([V.bl b0, V.bl b1, V.bl b2, V.bl b3, V.bl b4, V.bl b5, V.bl b6, V.bl b7] ++ [V.bl b8])) = H4 at he4 N4 h4 m4 ⊢
 refine ⟨.inl ⟨_, SqL.of h4⟩, p3, _, rfl, rfl, SqL.of h4, ?_⟩
 rw [cn]
 walk_at "rd"
 have ke : cN H4 (.ref e) = none := by simp [cN, he4, jC]
 refine itp rfl ?_
 simp only [ke]
 refine ⟨e, _, true, rfl, he4, xc, sv, itn (by decide) ⟨N4, by walk_at "om", fun q hq => ⟨.inl ⟨_, SqL.of ((al _ hq) _ _ h4)⟩, p3, _, i, rfl, rfl, SqL.of ((al _ hq) _ _ h4), hi, hj, rfl, ?_⟩⟩⟩
 have ea : atI [L2.T B6, L2.T wQ, L2.T CM, L2.T Fv, L2.T Cv, L2.T wF, L2.T yH, L2.T Al, L2.T Gk] (i : Int) = some (L2.T (WDS.getD i [])) := by
  have hi9 : i < 9 := (List.getElem?_eq_some_iff.mp hc).1
  refine aE ?_
  show (WDS.map L2.T)[i]? = _
  rw [List.getElem?_map, List.getD_eq_getElem?_getD, List.getElem?_eq_getElem (show i < WDS.length from hi9)]; rfl
 simp only [j_, ea]
 exact k _ m4 N4
def tOf : V -> List Nat
 | .str y => cs y
 | _ => []
def iOf : V -> Int
 | .int i => i
 | _ => 0
def duT (as : List Acc) (x z : V) : List Nat := if nameV x = true then if inV z (KDS.map L2.T) = true then if vz as x = true then wF else [] else CM else B6
def duA (as : List Acc) (y z t : V) : List Nat := if ft y = true then if (spN 58 (tOf y)).length = 1 then wQ else if xb z = true then if amg t 0 146096 = true then if (fnd as (tOf y)).isSome = true then wF else
 match fnd as (rpN 58 (tOf y)) with | none => yH | some u => if u.un = none /\ u.fi <= iOf t then [] else Al
 else Cv else Fv else wQ
def duS (as : List Acc) (y z : V) : List Nat := if ft y = true then match fY as y with | none => yH | some u => if amg z 0 146096 = true then if iOf z <= u.fi then Cv else if u.un = none then if (as.filter fun c => decide (rpN 58 c.pa = u.pa)).any (fun c => lat c.un (iOf z)) = true then Gk else [] else Al else Cv
 else wQ
theorem pF {v n : List Nat} (h : 58 ∉ n) : rpN 58 (v ++ 58 :: n) = v := by
 rw [BC (i := v.length) (by simp) fun k hk e => ?_]
 ·simp
 ·have : (v ++ 58 :: n)[k]? = n[k - v.length - 1]? := by
   rw [List.getElem?_append_right (by omega)]
   obtain ⟨m, rfl⟩ : ∃ m, k = v.length + (m + 1) := ⟨k - v.length - 1, by omega⟩
   rw [show v.length + (m + 1) - v.length = m + 1 by omega, List.getElem?_cons_succ]; rfl
  rw [this] at e
  exact h (List.mem_of_getElem? e)
theorem vh {l : List Nat} (h : 58 ∉ l) : rpN 58 l = [] := ya fun k e => h (List.mem_of_getElem? e)
theorem zY {l : List Nat} : (spN 58 l).length = 1 ↔ 58 ∉ l := by
 constructor
 ·intro h
  obtain ⟨x, hx⟩ := List.length_eq_one_iff.mp h
  have := eg 58 l
  rw [hx] at this
  have hn := dB 58 l x (by rw [hx]; simp)
  simp only [bG] at this
  rwa [this] at hn
 ·intro h
  have := h8 58 [l] (by simp) fun p hp => by rw [List.mem_singleton.mp hp]; exact h
  simp only [bG] at this
  rw [this]; rfl
theorem sA {l : List Nat} (h : 58 ∉ l) : spN 58 l = [l] := by
 have := h8 58 [l] (by simp) fun p hp => by rw [List.mem_singleton.mp hp]; exact h
 simpa only [bG] using this
theorem zO {l : List Nat} (h : nm l = true) : 58 ∉ l := fun m => by have := (sC h).2.2 58 m; omega
theorem mi (l : List Nat) : nm l = true ↔ d_ l = true /\ (spN 58 l).length = 1 := by
 constructor
 ·intro h
  have e := sA (zO h)
  refine ⟨?_, by rw [e]; rfl⟩
  unfold d_
  rw [e]; simp [h]
 ·rintro ⟨h, e⟩
  have e := sA (zY.mp e)
  unfold d_ at h
  rw [e] at h
  simpa using h
theorem i_ {x : V} (h : ft x = true) : ∃ l, x = L2.T l := by
 cases x with
 | str y => exact ⟨y.cps.toList, rfl⟩
 | _ => cases h
theorem BP {x : V} (h : okP x) : okV x := fun l e => ⟨(h l e).1, by have := (h l e).2; omega⟩
structure RAt (H : Hp) (r : Addr) (ra : List Nat -> Addr) (as : List Acc) : Prop where
 dc : H r = some (.dK (as.map fun c => (.inr ⟨⟨c.pa⟩⟩, .ref (ra c.pa))))
 rw : ∀ c ∈ as, H (ra c.pa) = some (.lst [c.cu, .int c.fi, cl c.un])
theorem RAt.same {H H' : Hp} {r : Addr} {ra : List Nat -> Addr} {as : List Acc} (R : RAt H r ra as) (s : Same H H') : RAt H' r ra as := ⟨s _ _ R.dc, fun c hc => s _ _ (R.rw c hc)⟩
theorem iA (ra : List Nat -> Addr) (l : List Nat) : ∀ as : List Acc, lV (as.map fun c => ((.inr ⟨⟨c.pa⟩⟩ : Key), V.ref (ra c.pa))) (.inr ⟨⟨l⟩⟩) = (fnd as l).map fun c => .ref (ra c.pa)
 | [] => rfl
 | c :: r => by
  have ih := iA ra l r
  by_cases h : c.pa = l
  ·rw [List.map_cons, jb (by show Sum.inr _ = Sum.inr _; rw [h])]
   simp [fnd, h]
  ·rw [List.map_cons, ib (fun z => h (by simpa using z)), ih]
   simp [fnd, h]
theorem BN {ks : List Nat} {tt : TT} {te : TE} {σ : St} {H : Hp} {Q : VK} {r : Addr} {o : Obj} (as : List Acc) (f : Acc -> V) (hr : H r = some (.dK (as.map fun c => (.inr ⟨⟨c.pa⟩⟩, f c))) \/ H r = some (.frz o (.dK (as.map fun c => (.inr ⟨⟨c.pa⟩⟩, f c))))) (hl : as.length <= 1000) (hN : NoT H) (p : Acc -> Bool) (g : Acc -> V)
 (ht : ∀ c ∈ as, ∀ F (R : Bool -> Hp -> Prop), NoT F -> (∀ c z, c ≠ r -> H c = some z -> F c = some z) -> Rd F r (.dK (as.map fun c => (.inr ⟨⟨c.pa⟩⟩, f c))) -> (∀ F', Same F F' -> NoT F' -> R (p c) F') -> tt ([some (L2.T c.pa)] ++ ks.map fun k => (σ[k]?).join) F R)
 (he : ∀ c ∈ as, ∀ F (R : VK), (∀ c z, c ≠ r -> H c = some z -> F c = some z) -> Rd F r (.dK (as.map fun c => (.inr ⟨⟨c.pa⟩⟩, f c))) -> R (g c) F -> te ([some (L2.T c.pa)] ++ ks.map fun k => (σ[k]?).join) F R)
 (k : ∀ D G, H D = none -> Same H G -> NoT G -> G D = some (.lst ((as.filter p).map g)) -> Q (.ref D) G) :
 CEl (Itk r o (.dK (as.map fun c => (.inr ⟨⟨c.pa⟩⟩, f c)))) 1 (jq 0) ks tt te σ (upd H r (.frz o (.dK (as.map fun c => (.inr ⟨⟨c.pa⟩⟩, f c))))) fun v H2 => Th H H2 (Q v) := by
 refine GG r o _ (fun D i ys F => F D = some (.lst ys) /\ F r = some (.frz o (.dK (as.map fun c => (.inr ⟨⟨c.pa⟩⟩, f c)))) /\ H D = none /\ D ≠ r /\ NoT F /\ (∀ c z, c ≠ r -> H c = some z -> F c = some z) /\ ys = (((as.take i).filter p).map g)) (by show (as.map _).length < _; rw [List.length_map, sizeLine_eq]; omega) ?_ ?_ ?_ ?_
 ·intro D1 hD
  have nb : D1 ≠ r := fun z => by rw [z, ae] at hD; cases hD
  rw [ar nb] at hD
  refine ⟨ae, (ar (Ne.symm nb)).trans ae, hD, nb, az (az hN rfl) rfl, fun c z cb e => ?_, rfl⟩
  rw [ar (au e hD), ar cb]; exact e
 ·rintro D1 i ys F ⟨g1, g2, _, _, _, _, rfl⟩
  refine ⟨g1, g2, ?_⟩
  rw [List.length_map]
  exact Nat.le_trans (List.length_filter_le _ _) (by rw [List.length_take]; omega)
 ·rintro D1 i y v ys F zs M1 M0 hi ⟨ke, en, rfl⟩ ⟨g1, g2, hD, nb, nF, kp, rfl⟩ hzs n1 n0
  rw [List.getElem?_map] at en
  obtain ⟨x, ex, e2⟩ := Option.map_eq_some_iff.mp en
  cases e2
  have mx := List.mem_of_getElem? ex
  obtain ⟨z1, rfl⟩ := ex1 hzs
  have et : as.take (i + 1) = as.take i ++ [x] := by rw [List.take_succ, ex]; rfl
  rw [et, List.filter_append, List.map_append] at n1 n0
  refine ⟨⟨[_], rfl, rfl⟩, ?_⟩
  refine ht x mx F _ nF kp (.inr ⟨_, g2⟩) fun F' s5 N5 => ?_
  cases e : p x with
  | false =>
   rw [List.filter_cons_of_neg (by simp [e]), List.filter_nil, List.map_nil, List.append_nil] at n0
   exact itn (by decide) (n0 _ ⟨s5 _ _ g1, s5 _ _ g2, hD, nb, N5, fun c z cb ec => s5 _ _ (kp c z cb ec), rfl⟩)
  | true =>
   rw [List.filter_cons_of_pos (by simp [e]), List.filter_nil] at n1
   refine itp rfl (he x mx F' _ (fun c z cb ec => s5 _ _ (kp c z cb ec)) (.inr ⟨_, s5 _ _ g2⟩) (n1 _ _ (s5 _ _ g1) ⟨ae, (ar (Ne.symm nb)).trans (s5 _ _ g2), hD, nb, az N5 rfl, fun c z cb ec => ?_, rfl⟩))
   rw [ar (au ec hD)]; exact s5 _ _ (kp c z cb ec)
 ·rintro D ys F ⟨g1, g2, hD, nb, nF, kp, rfl⟩
  have ln : iH (.dK (as.map fun c => ((.inr ⟨⟨c.pa⟩⟩ : Key), f c))) = as.length := List.length_map ..
  rw [ln, List.take_length] at g1
  rcases hr with hr | hr
  ·refine ⟨r, o, _, g2, .inl ⟨hr, rfl, k D _ hD (fun c z e => ?_) (az nF rfl) ((ar nb).trans g1)⟩⟩
   by_cases hc : c = r
   ·subst hc; rw [ae]; rw [hr] at e; exact e
   ·rw [ar hc]; exact kp _ _ hc e
  ·refine ⟨r, o, _, g2, .inr ⟨hr, k D _ hD (fun c z e => ?_) nF g1⟩⟩
   by_cases hc : c = r
   ·subst hc; rw [g2]; rw [hr] at e; exact e
   ·exact kp _ _ hc e
theorem GM {td : TE} {n : Nat} {g : TG} {ks : List Nat} {tt : TT} {te : TE} {i : Nat} {D : kh} {σ : St} {H : Hp} (h : td σ H fun x H1 => ∃ b u, x = .ref b /\ isD u = true /\ Rd H1 b u /\ ∀ o, (H1 b = some u \/ H1 b = some (.frz o u)) -> CEl (Itk b o u) n g ks tt te σ (upd H1 b (.frz o u)) fun v H2 => Th H H2 (D.nx (σ.set i (some v)))) : CO (De (hE (Ch td) n g ks tt te) (jq i)) D σ H := h
theorem wm {F : Hp} {r : Addr} {ra : List Nat -> Addr} {as : List Acc} {c : Acc} (rd : Rd F r (.dK (as.map fun c => (.inr ⟨⟨c.pa⟩⟩, .ref (ra c.pa))))) (hc : c ∈ as) : DGet F r (L2.T c.pa) (some (.ref (ra c.pa))) := by
 refine .inl ⟨_, .inr ⟨⟨c.pa⟩⟩, rd, rfl, ?_⟩
 rw [iA]
 cases e : fnd as c.pa with
 | none => exact absurd rfl (ej e c hc)
 | some c' => rw [Option.map_some, (eA e).2]
def latR (day : Int) : V -> Bool
 | .int t => decide (day < t)
 | _ => true
def sp_zU (K : W.Frag) : Sp := sp3 fun x y z H Q _ => NoT H /\ asR x fun r => okP y /\ asK H y fun _ => (cy z = true \/ ∃ q ys, z = .ref q /\ (SqL K H q ys \/ SqT K H q ys)) /\ ∃ ra as, RAt H r ra as /\ Q (L2.T (duT as y z)) H
theorem rB (T : Txt K mg a) : bQ P w K mg base (XE P w) 2 a.gY a.j3 ["_law_rows", "_law_name", "_law_kind"] (sp_zU K) := by
 refine T.h9.okG j7 (fun vs H Q E h => sp3.len h) (fun cdv A outer s H vs Q E hr h => ?_)
 obtain ⟨x0, x1, x2, rfl, h⟩ := sp3.inv h
 try dsimp only [sp_zU, sp3] at h
 have ND := j7.nd
 have HU := bx hr
 obtain ⟨hN, h1⟩ := h
 obtain ⟨r, rfl, oy, h2⟩ := asR.inv h1
 obtain ⟨t, ht, hb, hz, ra, as, R, k⟩ := asK.inv h2
 have sz := szl
 have G__law_read := @j2 P w K mg base a T
 have b__law_read := jX T.dJ
 refine ⟨hN, _, (af (aT (i := 3) ND rfl (Or.inl rfl) (aN G__law_read (hr.mono (by decide)) rfl T.lW T.dJ.kp b__law_read .nil bb (FA.pa (aa (fv 1) ad))))
  (af (aS (L2.PW.pt (lK (gP (mZ (fv 3))) (hR (aY (iK K HU) (aG (dm K) rfl T.g_ eO (FA.pa (aa (fv 3) ad))) ag (aO _))))) (aj (aA (ak [110, 97, 109, 101]))) aD)
  (af (aS (ut (aY (uS K HU) (fv 2) (bU (FA.pa (aa (ak [104, 97, 118, 101]) (aa (ak [111, 119, 101]) (aa (ak [111, 119, 110]) (aa (ak [103, 97, 105, 110]) (aa (ak [99, 111, 115, 116]) ad))))))) (by with_unfolding_all rfl))) (aj (aA (ak [107, 105, 110, 100]))) aD)
  (aj (aA (aB lZ (ak [116, 119, 105, 99, 101]) (gS oq rfl T.tD nM (FA.pa (aa (lO (qh (Nat.lt_of_le_of_lt (Nat.add_le_add_left (by decide) _) HU) (fv 1) (fv 0)) (by with_unfolding_all rfl)) ad))))))))), ?_⟩
 walk_at "rd"
 refine ⟨hN, oy, asK.of ht ?_⟩
 cases e : ft x1 with
 | false =>
  have en : nameV x1 = false := by
   cases x1 with
   | str y =>
    cases en : nameV (.str y) with
    | false => rfl
    | true => rw [show ft (.str y) = true from ((mi (cs y)).mp en).1] at e; cases e
   | _ => rfl
  unfold duT at k
  rw [en, if_neg (by decide)] at k
  exact itn (by decide) k
 | true =>
  refine itp rfl ?_
  obtain ⟨l, rfl⟩ := i_ e
  intro p hp
  have sm := al (tx (spN 58 l)) hp
  refine itn (by intro z; cases z) ⟨_, .inl (SqL.of ae), ?_⟩
  rw [List.length_map]
  by_cases h1 : (spN 58 l).length = 1
  ·have en : nameV (L2.T l) = true := (mi l).mpr ⟨e, h1⟩
   unfold duT at k
   rw [en, if_pos rfl] at k
   refine itp (show ((spN 58 l).length : Int) = 1 by omega) ⟨az hN rfl, by walk_at "om", fun q hq => ⟨KDS, .inl (SqL.of ae), ?_, ?_⟩⟩
   ·rcases hz with z | ⟨q', ys, e', z | z⟩
    ·exact .inl z
    ·exact .inr ⟨q', ys, e', .inl (SqL.same (sm.trans (al _ hq)) z)⟩
    ·exact .inr ⟨q', ys, e', .inr (wN (sm.trans (al _ hq)) z)⟩
   refine ⟨_, Gc.none (al _ hq), ?_⟩
   cases ei : inV x2 (KDS.map L2.T) with
   | false =>
    rw [ei, if_neg (by decide)] at k
    exact itp rfl ⟨H, Gc.none sm, k⟩
   | true =>
    rw [ei, if_pos rfl] at k
    refine itn (by decide) ⟨r, _, rfl, DGet.k (k := .inr ⟨⟨l⟩⟩) (R.same sm).dc, ?_⟩
    rw [iA, Option.isSome_map]
    rw [show vz as (L2.T l) = (fnd as l).isSome from rfl] at k
    cases ef : (fnd as l).isSome with
    | true => rw [ef, if_pos rfl] at k; exact ⟨by decide, H, Gc.none sm, k⟩
    | false => rw [ef, if_neg (by decide)] at k; exact ⟨by decide, H, Gc.none sm, k⟩
  ·have en : ¬ nameV (L2.T l) = true := fun z => h1 ((mi l).mp z).2
   unfold duT at k
   rw [if_neg en] at k
   exact itn (show ¬ ((spN 58 l).length : Int) = 1 by omega) ⟨H, Gc.none sm, k⟩
def sp_Af : Sp := sp4 fun x y z t H Q _ => NoT H /\ asR x fun r => okP y /\ asK H y fun _ => okV z /\ asK H z fun _ => asK H t fun _ => ∃ ra as, RAt H r ra as /\ Q (L2.T (duA as y z t)) H
theorem rT (T : Txt K mg a) : bQ P w K mg base (XE P w) 2 a.hZ a.j4 ["_law_rows", "_law_path", "_law_currency", "_law_day"] sp_Af := by
 refine T.ie.okG ka (fun vs H Q E h => sp4.len h) (fun cdv A outer s H vs Q E hr h => ?_)
 obtain ⟨x0, x1, x2, x3, rfl, h⟩ := sp4.inv h
 try dsimp only [sp_Af, sp4] at h
 have ND := ka.nd
 have HU := bx hr
 obtain ⟨hN, h1⟩ := h
 obtain ⟨r, rfl, oy, h2⟩ := asR.inv h1
 obtain ⟨ty, hty, _, oz, h3⟩ := asK.inv h2
 obtain ⟨tz, htz, _, h4⟩ := asK.inv h3
 obtain ⟨tt, htt, _, ra, as, R, k⟩ := asK.inv h4
 have sz := szl
 have G__law_is_day := @lE P w K mg base a T
 have b__law_is_day := lF T.d8
 have G__law_is_currency := @mm P w K mg base a T
 have b__law_is_currency := mD T.eI
 have G__law_read := @j2 P w K mg base a T
 have b__law_read := jX T.dJ
 refine ⟨hN, _, (af (aT (i := 4) ND rfl (Or.inl rfl) (aN G__law_read (hr.mono (by decide)) rfl T.lW T.dJ.kp b__law_read .nil bb (FA.pa (aa (fv 1) ad))))
  (af (aS (L2.PW.pt (lK (gP (mZ (fv 4))) (hR (aY (bo K HU) (aG (dm K) rfl T.g_ eO (FA.pa (aa (fv 4) ad))) ag (aO _))))) (aj (aA (ak [112, 97, 116, 104]))) aD)
  (af (aS (L2.PW.pt (wd (gP (jZ (fv 2))) (rZ (cc (b_ (aN G__law_is_currency (hr.mono (by decide)) rfl T.nA T.eI.kp b__law_is_currency .nil bb (FA.pa (aa (fv 2) ad)))))))) (aj (aA (ak [99, 117, 114, 114, 101, 110, 99, 121]))) aD)
  (af (aS (cc (b_ (aN G__law_is_day (hr.mono (by decide)) rfl T.mO T.d8.kp b__law_is_day .nil bb (FA.pa (aa (fv 3) ad))))) (aj (aA (ak [100, 97, 121]))) aD)
  (af (aS (gP (qh (Nat.lt_of_le_of_lt (Nat.add_le_add_left (by decide) _) HU) (fv 1) (fv 0)) (by with_unfolding_all rfl)) (aj (aA (ak [116, 119, 105, 99, 101]))) aD)
  (af (aT (i := 5) ND rfl (Or.inl rfl) (cW K PySem.F.plainAttrs_str PySem.F.slot_str_join PySem.F.type_str_join (lj K) (ak [58]) (FA.pa (aa (sD (sM K) (fv 4) vQ (vS (qQ kJ ag))) ad))))
  (af (aS (gP (uO (Nat.lt_of_le_of_lt (Nat.add_le_add_left (by decide) _) HU) (fv 5) (fv 0)) (by with_unfolding_all rfl)) (aj (aA (ak [97, 99, 99, 111, 117, 110, 116]))) aD)
  (aj (aA (aB lZ (ak [111, 112, 101, 110]) (gS oq rfl T.tD nM (FA.pa (aa (Ax (lO (jZ (aK (aq K) (fK (Nat.lt_of_le_of_lt (Nat.add_le_add_left (by decide) _) HU) (fv 0) (fv 5) (fun _ _ => rfl)) ag (fun _ _ => rfl)))) (d5 (cz uB (aK (aq K) (fK (Nat.lt_of_le_of_lt (Nat.add_le_add_left (by decide) _) HU) (fv 0) (fv 5) (fun _ _ => rfl)) ag (fun _ _ => rfl)) (fv 3) (aO _)))) ad))))))))))))), ?_⟩
 walk_at "rd"
 unfold duA at k
 refine ⟨hN, oy, asK.of hty ?_⟩
 cases e1 : ft x1 with
 | false => rw [e1, if_neg (by decide)] at k; exact itn (by decide) k
 | true =>
  rw [e1, if_pos rfl] at k
  obtain ⟨l, rfl⟩ := i_ e1
  have hl := oy l rfl
  rw [show tOf (L2.T l) = l from rfl] at k
  refine itp rfl ?_
  walk_at "rd"
  refine fun p hp => ⟨_, .inl (SqL.of ae), ?_⟩
  have sm := al (tx (spN 58 l)) hp
  have N1 : NoT (upd H p (tx (spN 58 l))) := az hN rfl
  have hp1 : upd H p (tx (spN 58 l)) p = some (.lst ((spN 58 l).map L2.T)) := ae
  generalize upd H p (tx (spN 58 l)) = H1 at sm N1 hp1 ⊢
  rw [List.length_map]
  by_cases hsp : (spN 58 l).length = 1
  ·rw [if_pos hsp] at k; exact itp (show ((spN 58 l).length : Int) = 1 by omega) ⟨H, Gc.none sm, k⟩
  rw [if_neg hsp] at k
  refine itn (show ¬ ((spN 58 l).length : Int) = 1 by omega) ?_
  have ec : x2 ≠ .non -> xb x2 = A_ x2 := fun hz => by
   cases x2 with
   | non => exact absurd rfl hz
   | _ => rfl
  cases e2 : xb x2 with
  | false =>
   rw [e2, if_neg (by decide)] at k
   have hz : x2 ≠ .non := fun z => by rw [z] at e2; cases e2
   exact itn hz ⟨N1, oz, asK.of (e6 sm htz) (itp ((ec hz).symm.trans e2) ⟨H, Gc.none sm, k⟩)⟩
  | true =>
  rw [e2, if_pos rfl] at k
  refine' Gy (fun key => _) _
  rotate_left 1
  ·by_cases hz : x2 = .non
   ·exact itp hz key
   ·exact itn hz ⟨N1, oz, asK.of (e6 sm htz) (itn (by rw [<- ec hz, e2]; intro z; cases z) key)⟩
  refine ⟨N1, asK.of (e6 sm htt) ?_⟩
  cases e3 : amg x3 0 146096 with
  | false => rw [e3, if_neg (by decide)] at k; exact itp rfl ⟨H, Gc.none sm, k⟩
  | true =>
   rw [e3, if_pos rfl] at k
   obtain ⟨day, rfl, _, _⟩ := r_ e3
   rw [show iOf (.int day) = day from rfl] at k
   have R1 := R.same sm
   refine itn (by decide) ⟨r, _, rfl, DGet.k (k := .inr ⟨⟨l⟩⟩) R1.dc, ?_⟩
   rw [iA, Option.isSome_map]
   cases ef : (fnd as l).isSome with
   | true => rw [ef, if_pos rfl] at k; exact itp rfl ⟨H, Gc.none sm, k⟩
   | false =>
    rw [ef, if_neg (by decide)] at k
    obtain ⟨v, n, el, hn⟩ := ny hsp
    have ev : rpN 58 l = v := by rw [el]; exact pF hn
    rw [ev] at k
    have ecut : rz ((spN 58 l).map L2.T) none (some (-1)) = (spN 58 v).map L2.T := by
     rw [el, wC hn]
     unfold rz
     simp only [HT.sIx]
     rw [List.length_map, List.length_append, List.length_singleton, if_pos (by decide), List.drop_zero, Nat.sub_zero, show ((-1 : Int) + (((spN 58 v).length + 1 : Nat) : Int)).toNat = ((spN 58 v).map L2.T).length by rw [List.length_map]; omega, List.map_append, List.take_left']
     rfl
    refine itn (by decide) ⟨p, _, rfl, SqL.of hp1, fun p2 hp2 => ⟨spN 58 v, SqL.of (by rw [ae, ecut]), yk (fun x hx => ?_) ?_, ?_⟩⟩
    ·have := (gR 58 v x hx).1
     rw [el, List.length_append] at hl; omega
    ·have := jM 58 v
     rw [el, List.length_append] at hl; omega
    rw [show bG (cs { cps := { toList := [58] } }) (spN 58 v) = v from eg 58 v]
    have s2 := sm.trans (al (HO.lst (rz ((spN 58 l).map L2.T) none (some (-1)))) hp2)
    generalize upd H1 p2 (HO.lst (rz ((spN 58 l).map L2.T) none (some (-1)))) = H2 at s2 ⊢
    have R2 := R.same s2
    have g := DGet.k (k := .inr ⟨⟨v⟩⟩) R2.dc
    rw [iA] at g
    refine ⟨r, _, rfl, g, ?_⟩
    cases eu : fnd as v with
    | none => rw [eu] at k; exact itp rfl ⟨H, Gc.none s2, k⟩
    | some u =>
     rw [eu] at k g
     dsimp only at k
     have hu := R2.rw u (eA eu).1
     refine itn (by intro z; cases z) ⟨r, _, rfl, g, _, _, .inl (SqL.of hu), aE (j := 2) rfl, ?_⟩
     cases un : u.un with
     | some m =>
      rw [if_neg (by rw [un]; exact fun z => nomatch z.1)] at k
      exact itn (by intro z; cases z) ⟨by decide, H, Gc.none s2, k⟩
     | none =>
      refine itp rfl ⟨r, _, rfl, g, _, _, .inl (SqL.of hu), aE (j := 1) rfl, ?_⟩
      walk_at "rd"
      by_cases uf : u.fi <= day
      ·rw [if_pos ⟨un, uf⟩] at k
       rw [if_neg (by omega)]
       exact ⟨by decide, H, Gc.none s2, k⟩
      ·rw [if_neg (fun z => uf z.2)] at k
       rw [if_pos (by omega)]
       exact ⟨by decide, H, Gc.none s2, k⟩
def sp_zZ : Sp := sp3 fun x y z H Q _ => NoT H /\ asR x fun r => okP y /\ asK H y fun _ => asK H z fun _ => ∃ ra as, RAt H r ra as /\ as.length <= 100 /\ (∀ c ∈ as, c.pa.length <= 300) /\ Q (L2.T (duS as y z)) H
theorem qt (T : Txt K mg a) : bQ P w K mg base (XE P w) 2 a.gp a.jd ["_law_rows", "_law_path", "_law_day"] sp_zZ := by
 refine T.gz.okG ju (fun vs H Q E h => sp3.len h) (fun cdv A outer s H vs Q E hr h => ?_)
 obtain ⟨x0, x1, x2, rfl, h⟩ := sp3.inv h
 try dsimp only [sp_zZ, sp3] at h
 have ND := ju.nd
 have HU := bx hr
 obtain ⟨hN, h1⟩ := h
 obtain ⟨r, rfl, oy, h2⟩ := asR.inv h1
 obtain ⟨ty, hty, _, h3⟩ := asK.inv h2
 obtain ⟨tz, htz, _, ra, as, R, len, pl, k⟩ := asK.inv h3
 have sz := szl
 have G__law_is_day := @lE P w K mg base a T
 have b__law_is_day := lF T.d8
 have G__law_read := @j2 P w K mg base a T
 have b__law_read := jX T.dJ
 refine ⟨hN, _, (af (aS (gP (mZ (aN G__law_read (hr.mono (by decide)) rfl T.lW T.dJ.kp b__law_read .nil bb (FA.pa (aa (fv 1) ad))))) (aj (aA (ak [112, 97, 116, 104]))) aD)
  (af (aS (gP (uO (Nat.lt_of_le_of_lt (Nat.add_le_add_left (by decide) _) HU) (fv 1) (fv 0)) (by with_unfolding_all rfl)) (aj (aA (ak [97, 99, 99, 111, 117, 110, 116]))) aD)
  (af (aS (L2.PW.pt (lK (cc (b_ (aN G__law_is_day (hr.mono (by decide)) rfl T.mO T.d8.kp b__law_is_day .nil bb (FA.pa (aa (fv 2) ad))))) (hR (aY gH (fv 2) (aK (aq K) (fK (Nat.lt_of_le_of_lt (Nat.add_le_add_left (by decide) _) HU) (fv 0) (fv 1) (fun _ _ => rfl)) ag (fun _ _ => rfl)) (aO _))))) (aj (aA (ak [100, 97, 121]))) aD)
  (af (aS (gP (jZ (aK (aq K) (fK (Nat.lt_of_le_of_lt (Nat.add_le_add_left (by decide) _) HU) (fv 0) (fv 1) (fun _ _ => rfl)) ag (fun _ _ => rfl)))) (aj (aA (ak [111, 112, 101, 110]))) aD)
  (af (zS (lY (i0 := 3) ND rfl (Or.inl rfl) rfl (cl := _) (x := "_law_other") (xs := ["_law_other"]) (fr := ["_law_rows", "_law_path"]) (ks := [0, 1]) (by exact ⟨rfl, by decide +kernel, rfl, by decide +kernel, rfl, cI rfl, rfl, aW rfl, aW (k := fun y => List.lookup y _) rfl, cJ rfl⟩) rfl (Ai (fv 0)) (fun _ _ _ _ _ => (bv (i := 0) (fQ (l := ["_law_other", "_law_rows", "_law_path"]) (by decide)) rfl (Or.inl rfl))) (fun _ _ _ _ _ => (jQ (aY (bo K HU) (aK (aq K) (cW K PySem.F.plainAttrs_str PySem.F.slot_str_rpartition PySem.F.type_str_rpartition wS (fv 0) (FA.pa (aa (ak [58]) ad))) ag (fun _ _ => rfl)) (fv 2) (aO _)))) (fun _ _ _ _ _ => (aK (aq K) (fK (Nat.lt_of_le_of_lt (Nat.add_le_add_left (by decide) _) HU) (fv 1) (fv 0) (fun _ _ => rfl)) ag (fun _ _ => rfl)))))
  (aj (aA (aB lZ (ak [98, 101, 108, 111, 119]) (gS oq rfl T.tD nM (FA.pa (aa (cz (iK K HU) (dt rfl (cl := _) (x := "_law_end") (xs := ["_law_end"]) (fr := ["_law_day"]) (ks := [2]) (by exact ⟨rfl, by decide +kernel, rfl, by decide +kernel, rfl, cI rfl, rfl, aW rfl, aW (k := fun y => List.lookup y _) rfl, cJ rfl⟩) rfl (lg K (fv 3)) (fun _ _ _ _ _ => (bv (i := 0) (fQ (l := ["_law_end", "_law_day"]) (by decide)) rfl (Or.inl rfl))) (fun _ _ _ _ _ => (jQ (L2.PW.pt (lK (gP (mZ (fv 0))) (hR (aY uB (fv 0) (fv 1) (aO _))))))) (fun _ _ _ _ _ => (fv 0))) (bU (FA.pa ad)) (aO _)) ad))))))))))), ?_⟩
 walk_at "rd"
 unfold duS at k
 refine ⟨hN, oy, asK.of hty ?_⟩
 cases e1 : ft x1 with
 | false => rw [e1, if_neg (by decide)] at k; exact itn (by decide) k
 | true =>
  rw [e1, if_pos rfl] at k
  obtain ⟨l, rfl⟩ := i_ e1
  rw [show fY as (L2.T l) = fnd as l from rfl] at k
  refine itp rfl ?_
  walk_at "rd"
  intro p hp
  have sm := al (tx (spN 58 l)) hp
  have N1 : NoT (upd H p (tx (spN 58 l))) := az hN rfl
  generalize upd H p (tx (spN 58 l)) = H1 at sm N1 ⊢
  have R1 := R.same sm
  have g := DGet.k (k := .inr ⟨⟨l⟩⟩) R1.dc
  rw [iA] at g
  refine ⟨r, _, rfl, g, ?_⟩
  cases eu : fnd as l with
  | none => rw [eu] at k; exact itp rfl ⟨H, Gc.none sm, k⟩
  | some u =>
   rw [eu] at k g
   dsimp only at k
   have mu := (eA eu).1
   have hu := R1.rw u mu
   refine itn (by intro z; cases z) ⟨N1, asK.of (e6 sm htz) ?_⟩
   cases e3 : amg x2 0 146096 with
   | false => rw [e3, if_neg (by decide)] at k; exact itp rfl ⟨H, Gc.none sm, k⟩
   | true =>
    rw [e3, if_pos rfl] at k
    obtain ⟨day, rfl, _, _⟩ := r_ e3
    rw [show iOf (.int day) = day from rfl] at k
    refine itn (by decide) ⟨r, _, rfl, g, _, _, .inl (SqL.of hu), aE (j := 1) rfl, ?_⟩
    walk_at "rd"
    by_cases hd : day <= u.fi
    ·rw [if_pos hd] at k; exact itp hd ⟨H, Gc.none sm, k⟩
    rw [if_neg hd] at k
    refine itn hd ⟨r, _, rfl, g, _, _, .inl (SqL.of hu), aE (j := 2) rfl, ?_⟩
    cases un : u.un with
    | some m => rw [if_neg (by rw [un]; intro z; cases z)] at k; exact itn (by intro z; cases z) ⟨H, Gc.none sm, k⟩
    | none =>
     rw [if_pos un] at k
     refine itp rfl (GM ?_)
     walk_at "rd"
     refine ⟨r, _, rfl, rfl, .inl R1.dc, fun o _ => BN as (fun c => .ref (ra c.pa)) (.inl R1.dc) (by omega) N1 (fun c => decide (rpN 58 c.pa = u.pa)) (fun c => cl c.un) (fun c hc F R nF kp rd q => ?_) (fun c hc F R kp rd q => ?_) (fun D G hD s2 N2 g2 => ?_)⟩
     ·walk_at "rd"
      refine ⟨by have := pl c hc; omega, fun p b e hp => ⟨_, _, .inr (SqT.of ae), aE (j := 0) rfl, ?_⟩⟩
      have q1 := q _ (al (HO.tup [L2.T (rpN 58 c.pa), L2.T b, L2.T e]) hp) (az nF rfl)
      rw [(eA eu).2] at q1
      walk_at "rd"
      exact q1
     ·walk_at "rd"
      exact ⟨r, _, rfl, wm rd hc, _, _, .inl (SqL.of (kp _ _ (bj (R1.rw c hc) R1.dc) (R1.rw c hc))), aE (j := 2) rfl, q⟩
     ·walk_at "rd"
      have lx : ((as.filter fun c => decide (rpN 58 c.pa = u.pa)).map fun c => cl c.un).length <= 100 := by
       rw [List.length_map]; exact Nat.le_trans (List.length_filter_le _ _) len
      refine cmL D _ (fun H' => Same G H') (fun D2 ys hD2 => al _ hD2) (fun H' c => SqL.of (c _ _ g2)) (latR day) (fun x => x) (fun R r => r) (SqL.of g2) (by omega) (fun x hx H' R c r => ?_) (fun x _ _ H' R c r => r) (fun D2 hD2 => ⟨Nat.zero_le _, fun p3 hp3 => ?_⟩)
      ·obtain ⟨c, _, rfl⟩ := List.mem_map.mp hx
       walk_at "rd"
       cases uc : c.un with
       | none => rw [uc] at r; exact itp rfl r
       | some t => rw [uc] at r; refine itn (by intro z; cases z) ?_; walk_at "rd"; exact r
      ·walk_at "rd"
       refine ⟨_, sf (SqL.same (al _ hp3) (SqL.of ae)) (SqL.of ae), ?_⟩
       walk_at "rd"
       have e5 : (List.map (fun x => x) (List.filter (latR day) ((as.filter fun c => decide (rpN 58 c.pa = u.pa)).map fun c => cl c.un))).isEmpty = !((as.filter fun c => decide (rpN 58 c.pa = u.pa)).any fun c => lat c.un day) := by
        rw [List.map_id', List.filter_map, List.isEmpty_map]
        generalize (as.filter fun c => decide (rpN 58 c.pa = u.pa)) = bs
        have e : (latR day ∘ fun c : Acc => cl c.un) = fun c => lat c.un day := by
         funext c
         show latR day (cl c.un) = _
         cases c.un <;> rfl
        rw [e]
        induction bs with
        | nil => rfl
        | cons b t ih =>
         rw [List.any_cons]
         by_cases hb : lat b.un day = true
         ·rw [List.filter_cons_of_pos (p := fun c : Acc => lat c.un day) hb, hb]; rfl
         ·rw [List.filter_cons_of_neg (p := fun c : Acc => lat c.un day) hb, ih]
          rw [show lat b.un day = false by simpa using hb]; rfl
       rw [e5]
       have sE := ((sm.trans s2).trans (al (HO.lst (List.map (fun x => x) (List.filter (latR day) ((as.filter fun c => decide (rpN 58 c.pa = u.pa)).map fun c => cl c.un)))) hD2)).trans (al (HO.lst []) hp3)
       cases ea : ((as.filter fun c => decide (rpN 58 c.pa = u.pa)).any fun c => lat c.un day) with
       | true => rw [ea, if_pos rfl] at k; exact ⟨by decide, H, Gc.none sE, k⟩
       | false => rw [ea, if_neg (by decide)] at k; exact ⟨by decide, H, Gc.none sE, k⟩
inductive Dd
 | top (x z : V)
 | add (y z t : V)
 | sh (y z : V)
def Dd.vs : Dd -> List V
 | .top x z => [L2.T [116, 111, 112], x, z]
 | .add y z t => [L2.T [97, 100, 100], y, z, t]
 | .sh y z => [L2.T [115, 104, 117, 116], y, z]
def Kd (H : Hp) (x : V) : Prop := ∃ t, cN H x = some t
def DOk (K : W.Frag) (H : Hp) : Dd -> Prop
 | .top x z => okP x /\ Kd H x /\ (cy z = true \/ ∃ q ys, z = .ref q /\ (SqL K H q ys \/ SqT K H q ys))
 | .add y z t => okP y /\ Kd H y /\ okV z /\ Kd H z /\ Kd H t
 | .sh y z => okP y /\ Kd H y /\ Kd H z
def duD (as : List Acc) : Dd -> List Nat
 | .top x z => duT as x z
 | .add y z t => duA as y z t
 | .sh y z => duS as y z
def sp_CG (K : W.Frag) : Sp := sp2 fun x y H Q _ => NoT H /\ asR x fun r => asR y fun q => ∃ ra as dd, RAt H r ra as /\ as.length <= 100 /\ (∀ c ∈ as, c.pa.length <= 300) /\ H q = some (.tup dd.vs) /\ DOk K H dd /\ Q (L2.T (duD as dd)) H
theorem yf (T : Txt K mg a) : bQ P w K mg base (XE P w) 3 a.nE a.qN ["_law_rows", "_law_deed_here"] (sp_CG K) := by
 refine T.nJ.okG wW (fun vs H Q E h => sp2.len h) (fun cdv A outer s H vs Q E hr h => ?_)
 obtain ⟨x0, x1, rfl, h⟩ := sp2.inv h
 try dsimp only [sp_CG, sp2] at h
 have HU := bx hr
 obtain ⟨hN, h1⟩ := h
 obtain ⟨r, rfl, h2⟩ := asR.inv h1
 obtain ⟨q, rfl, ra, as, dd, R, len, pl, hq, ok, k⟩ := asR.inv h2
 have sz := szl
 have G__law_shut_due := @qt P w K mg base a T
 have b__law_shut_due := qp T.gz
 have G__law_add_due := @rT P w K mg base a T
 have b__law_add_due := rM T.ie
 have G__law_top_due := @rB P w K mg base a T
 have b__law_top_due := rq T.h9
 refine ⟨hN, _, (af (aS (aY (bo K HU) (aK (aq K) (fv 1) ag (fun _ _ => rfl)) (ak [116, 111, 112]) (aO _)) (aj (aA (aN G__law_top_due (hr.mono (by decide)) rfl T.sF T.h9.kp b__law_top_due .nil bb (FA.pa (aa (fv 0) (aa (aK (aq K) (fv 1) ag (fun _ _ => rfl)) (aa (aK (aq K) (fv 1) ag (fun _ _ => rfl)) ad))))))) aD)
  (af (aS (aY (bo K HU) (aK (aq K) (fv 1) ag (fun _ _ => rfl)) (ak [97, 100, 100]) (aO _)) (aj (aA (aN G__law_add_due (hr.mono (by decide)) rfl T.sk T.ie.kp b__law_add_due .nil bb (FA.pa (aa (fv 0) (aa (aK (aq K) (fv 1) ag (fun _ _ => rfl)) (aa (aK (aq K) (fv 1) ag (fun _ _ => rfl)) (aa (aK (aq K) (fv 1) ag (fun _ _ => rfl)) ad)))))))) aD)
  (aj (aA (aN G__law_shut_due (hr.mono (by decide)) rfl T.rR T.gz.kp b__law_shut_due .nil bb (FA.pa (aa (fv 0) (aa (aK (aq K) (fv 1) ag (fun _ _ => rfl)) (aa (aK (aq K) (fv 1) ag (fun _ _ => rfl)) ad))))))))), ?_⟩
 have hS := SqT.of (K := K) hq
 cases dd with
 | top x z =>
  obtain ⟨o1, ⟨t1, o2⟩, o3⟩ := ok
  walk_at "rd"
  refine ⟨_, _, .inr hS, aE (j := 0) rfl, ?_⟩
  walk_at "rd"
  exact ⟨_, _, .inr hS, aE (j := 1) rfl, _, _, .inr hS, aE (j := 2) rfl, hN, o1, asK.of o2 ⟨o3, ra, as, R, k⟩⟩
 | add y z t =>
  obtain ⟨o1, ⟨t1, o2⟩, o3, ⟨t2, o4⟩, t3, o5⟩ := ok
  walk_at "rd"
  refine ⟨_, _, .inr hS, aE (j := 0) rfl, ?_⟩
  walk_at "rd"
  refine itn (by decide) ⟨_, _, .inr hS, aE (j := 0) rfl, ?_⟩
  walk_at "rd"
  exact ⟨_, _, .inr hS, aE (j := 1) rfl, _, _, .inr hS, aE (j := 2) rfl, _, _, .inr hS, aE (j := 3) rfl, hN, o1, asK.of o2 ⟨o3, asK.of o4 (asK.of o5 ⟨ra, as, R, k⟩)⟩⟩
 | sh y z =>
  obtain ⟨o1, ⟨t1, o2⟩, t2, o3⟩ := ok
  walk_at "rd"
  refine ⟨_, _, .inr hS, aE (j := 0) rfl, ?_⟩
  walk_at "rd"
  refine itn (by decide) ⟨_, _, .inr hS, aE (j := 0) rfl, ?_⟩
  walk_at "rd"
  exact itn (by decide) ⟨_, _, .inr hS, aE (j := 1) rfl, _, _, .inr hS, aE (j := 2) rfl, hN, o1, asK.of o2 (asK.of o3 ⟨ra, as, R, len, pl, k⟩)⟩
def pt (ra : List Nat -> Addr) (l : List Nat) (b : Addr) : List Nat -> Addr := fun x => if x = l then b else ra x
def mM (c : Acc) : List Nat × V × Int × Option Int := (c.pa, c.cu, c.fi, c.un)
theorem RAt.congr {H : Hp} {r : Addr} {ra : List Nat -> Addr} {as as' : List Acc} (R : RAt H r ra as) (e : as'.map mM = as.map mM) : RAt H r ra as' := by
 have e1 : as'.map (·.pa) = as.map (·.pa) := by
  have := congrArg (List.map (·.1)) e
  rwa [List.map_map, List.map_map] at this
 refine ⟨?_, fun c hc => ?_⟩
 ·rw [R.dc]
  have := congrArg (List.map fun l : List Nat => ((.inr ⟨⟨l⟩⟩ : Key), V.ref (ra l))) e1
  rw [List.map_map, List.map_map] at this
  congr 2; exact this.symm
 ·obtain ⟨j, hj⟩ := List.getElem?_of_mem hc
  have e2 : (as'.map mM)[j]? = some (mM c) := by rw [List.getElem?_map, hj]; rfl
  rw [e, List.getElem?_map] at e2
  obtain ⟨c', hc', e3⟩ := Option.map_eq_some_iff.mp e2
  have := R.rw c' (List.mem_of_getElem? hc')
  unfold mM at e3
  injection e3 with f1 e3
  injection e3 with f2 e3
  injection e3 with f3 f4
  rw [f1, f2, f3, f4] at this
  exact this
theorem RAt.more {H H' : Hp} {r b : Addr} {ra : List Nat -> Addr} {as : List Acc} {c : Acc} (R : RAt H r ra as) (hf : fnd as c.pa = none) (hd : H' r = some (.dK (lQ (as.map fun c => ((.inr ⟨⟨c.pa⟩⟩ : Key), V.ref (ra c.pa))) (.inr ⟨⟨c.pa⟩⟩) (.ref b)))) (hb : H' b = some (.lst [c.cu, .int c.fi, cl c.un])) (kp : ∀ c ∈ as, H' (ra c.pa) = H (ra c.pa)) : RAt H' r (pt ra c.pa b) (as ++ [c]) := by
 have e : ∀ c' ∈ as, pt ra c.pa b c'.pa = ra c'.pa := fun c' hc => if_neg (ej hf c' hc)
 have ec : pt ra c.pa b c.pa = b := if_pos rfl
 refine ⟨?_, fun c' hc => ?_⟩
 ·rw [hd, o_ _ (by rw [iA, hf]; rfl), List.map_append]
  rw [List.map_singleton, ec, List.map_congr_left (l := as) (f := fun c' : Acc => ((.inr ⟨⟨c'.pa⟩⟩ : Key), V.ref (ra c'.pa))) (g := fun c' : Acc => ((.inr ⟨⟨c'.pa⟩⟩ : Key), V.ref (pt ra c.pa b c'.pa))) fun c' hc => by rw [e c' hc]]
 ·rcases List.mem_append.mp hc with h | h
  ·rw [e c' h, kp c' h]; exact R.rw c' h
  ·rw [List.mem_singleton.mp h, ec]; exact hb
def DnK (H : Hp) (r kd : Addr) (ra : List Nat -> Addr) (as : List Acc) (kv : List (Key × V)) (Q : VK) : Dd -> Prop
 | .top x z => asT x fun l => fnd as l = none /\ ∃ c, c.pa = l /\ c.cu = .non /\ c.fi = 0 /\ c.un = none /\ ∀ b H', H b = none -> RAt H' r (pt ra l b) (as ++ [c]) -> H' kd = some (.dK (lQ kv (.inr ⟨⟨l⟩⟩) z)) -> Keep [r, kd] H H' -> NoT H' -> Q .non H'
 | .add y z t => asT y fun l => asI t fun day => fnd as l = none /\ ∃ c as', c.pa = l /\ c.cu = z /\ c.fi = day /\ c.un = none /\ as'.map mM = as.map mM /\ ∀ b H', H b = none -> RAt H' r (pt ra l b) (as' ++ [c]) -> Keep [r] H H' -> NoT H' -> Q .non H'
 | .sh y z => asT y fun l => asI z fun day => (∃ u ∈ as, u.pa = l) /\ ∀ H', RAt H' r ra (dS as l (shu day)) -> Keep [ra l] H H' -> NoT H' -> Q .non H'
def sp_Ab : Sp := sp3 fun x y z H Q _ => NoT H /\ asR x fun r => asR y fun kd => asR z fun q => ∃ ra as kv dd, RAt H r ra as /\ (∀ c ∈ as, ∀ c' ∈ as, ra c.pa = ra c'.pa -> c.pa = c'.pa) /\ r ≠ kd /\ H kd = some (.dK kv) /\ as.length <= 100 /\ kv.length <= 100 /\ H q = some (.tup dd.vs) /\ DnK H r kd ra as kv Q dd
theorem pJ (T : Txt K mg a) : bQ P w K mg base (XE P w) 1 a.lC a.pE ["_law_rows", "_law_kinds", "_law_deed_here"] sp_Ab := by
 refine T.fM.okX vD (fun vs H Q E h => sp3.len h) (fun cdv A outer s H vs Q E hr h => ?_)
 obtain ⟨x0, x1, x2, rfl, h⟩ := sp3.inv h
 try dsimp only [sp_Ab, sp3] at h
 have HU := bx hr
 obtain ⟨hN, h1⟩ := h
 obtain ⟨r, rfl, h2⟩ := asR.inv h1
 obtain ⟨kd, rfl, h3⟩ := asR.inv h2
 obtain ⟨q, rfl, ra, as, kv, dd, R, ij, nrk, hk, len, lkv, hq, k⟩ := asR.inv h3
 have sz := szl
 refine ⟨_, (aj (aS (aY (bo K HU) (aK (aq K) (fv 2) ag (fun _ _ => rfl)) (ak [116, 111, 112]) (aO _)) (af (pB (Nat.lt_of_le_of_lt (Nat.add_le_add_left (by decide) _) HU) (fv 0) (aK (aq K) (fv 2) ag (fun _ _ => rfl)) (bU (FA.pa (aa cX (aa ag (aa cX ad))))) rfl)
  (aj (pB (Nat.lt_of_le_of_lt (Nat.add_le_add_left (by decide) _) HU) (fv 1) (aK (aq K) (fv 2) ag (fun _ _ => rfl)) (aK (aq K) (fv 2) ag (fun _ _ => rfl)) rfl))) (aj (aS (aY (bo K HU) (aK (aq K) (fv 2) ag (fun _ _ => rfl)) (ak [97, 100, 100]) (aO _)) (aj (pB (Nat.lt_of_le_of_lt (Nat.add_le_add_left (by decide) _) HU) (fv 0) (aK (aq K) (fv 2) ag (fun _ _ => rfl)) (bU (FA.pa (aa (aK (aq K) (fv 2) ag (fun _ _ => rfl)) (aa (aK (aq K) (fv 2) ag (fun _ _ => rfl)) (aa cX ad))))) rfl)) (aj (sJ (aK (aq K) (fv 2) ag (fun _ _ => rfl)) (wD (fK (Nat.lt_of_le_of_lt (Nat.add_le_add_left (by decide) _) HU) (fv 0) (aK (aq K) (fv 2) ag (fun _ _ => rfl)) (fun _ _ => rfl)) ag oU))))))), ?_⟩
 have hS := SqT.of (K := K) hq
 cases dd with
 | top x z =>
  dsimp only [DnK] at k
  obtain ⟨l, rfl, hf, c, p1, p2, p3, p4, k⟩ := asT.inv k
  walk_at "rd"
  refine ⟨_, _, .inr hS, aE (j := 0) rfl, ?_⟩
  walk_at "rd"
  refine ⟨by walk_at "om", fun b hb => ?_⟩
  have s1 := al (HO.lst [V.non, V.int 0, V.non]) hb
  have N1 : NoT (upd H b (HO.lst [V.non, V.int 0, V.non])) := az hN rfl
  have hb1 : upd H b (HO.lst [V.non, V.int 0, V.non]) b = some (.lst [c.cu, .int c.fi, cl c.un]) := by rw [ae, p2, p3, p4]; rfl
  generalize upd H b (HO.lst [V.non, V.int 0, V.non]) = H1 at s1 N1 hb1 ⊢
  have R1 := R.same s1
  have hq1 := s1 _ _ hq
  have hk1 := s1 _ _ hk
  have qr : q ≠ r := bj hq R.dc
  have smk : (as.map fun c => ((.inr ⟨⟨c.pa⟩⟩ : Key), V.ref (ra c.pa))).length < sizeLine := by rw [List.length_map]; omega
  have hS2 := SqT.of (K := K) ((ar (o := .dK (lQ (as.map fun c => ((.inr ⟨⟨c.pa⟩⟩ : Key), V.ref (ra c.pa))) (.inr ⟨⟨l⟩⟩) (.ref b))) qr).trans hq1)
  refine ⟨_, _, .inr (SqT.of hq1), aE (j := 1) rfl, r, _, rfl, DPut.k (k := .inr ⟨⟨l⟩⟩) R1.dc smk, _, _, .inr hS2, aE (j := 2) rfl, _, _, .inr hS2, aE (j := 1) rfl, kd, _, rfl, DPut.k (k := .inr ⟨⟨l⟩⟩) ((ar (Ne.symm nrk)).trans hk1) (by omega), ?_⟩
  subst p1
  refine k b _ hb (RAt.more R hf ((ar nrk).trans ae) ?_ fun c' hc => ?_) ae (((Keep.same s1).put (.head _)).put (.tail _ (.head _))) (az (az N1 rfl) rfl)
  ·rw [ar (Ne.symm (au hk hb)), ar (Ne.symm (au R.dc hb))]; exact hb1
  ·rw [ar (bj (R.rw c' hc) hk), ar (bj (R.rw c' hc) R.dc), R.rw c' hc]; exact s1 _ _ (R.rw c' hc)
 | add y z t =>
  dsimp only [DnK] at k
  obtain ⟨l, rfl, k⟩ := asT.inv k
  obtain ⟨day, rfl, hf, c, as', p1, p2, p3, p4, e, k⟩ := asI.inv k
  walk_at "rd"
  refine ⟨_, _, .inr hS, aE (j := 0) rfl, ?_⟩
  walk_at "rd"
  refine itn (by decide) ⟨_, _, .inr hS, aE (j := 0) rfl, ?_⟩
  walk_at "rd"
  refine ⟨_, _, .inr hS, aE (j := 2) rfl, _, _, .inr hS, aE (j := 3) rfl, by walk_at "om", fun b hb => ?_⟩
  have s1 := al (HO.lst [z, V.int day, V.non]) hb
  have N1 : NoT (upd H b (HO.lst [z, V.int day, V.non])) := az hN rfl
  have hb1 : upd H b (HO.lst [z, V.int day, V.non]) b = some (.lst [c.cu, .int c.fi, cl c.un]) := by rw [ae, p2, p3, p4]; rfl
  generalize upd H b (HO.lst [z, V.int day, V.non]) = H1 at s1 N1 hb1 ⊢
  have R1 := R.same s1
  have smk : (as.map fun c => ((.inr ⟨⟨c.pa⟩⟩ : Key), V.ref (ra c.pa))).length < sizeLine := by rw [List.length_map]; omega
  refine ⟨_, _, .inr (SqT.of (s1 _ _ hq)), aE (j := 1) rfl, r, _, rfl, DPut.k (k := .inr ⟨⟨l⟩⟩) R1.dc smk, ?_⟩
  subst p1
  refine k b _ hb (RAt.congr (RAt.more R hf ae ?_ fun c' hc => ?_) (by rw [List.map_append, List.map_append, e])) ((Keep.same s1).put (.head _)) (az N1 rfl)
  ·rw [ar (Ne.symm (au R.dc hb))]; exact hb1
  ·rw [ar (bj (R.rw c' hc) R.dc), R.rw c' hc]; exact s1 _ _ (R.rw c' hc)
 | sh y z =>
  dsimp only [DnK] at k
  obtain ⟨l, rfl, k⟩ := asT.inv k
  obtain ⟨day, rfl, ⟨u, hu, pu⟩, k⟩ := asI.inv k
  have pu : u.pa = l := pu
  have k : ∀ H', RAt H' r ra (dS as l (shu day)) -> Keep [ra l] H H' -> NoT H' -> Q .non H' := k
  walk_at "rd"
  refine ⟨_, _, .inr hS, aE (j := 0) rfl, ?_⟩
  walk_at "rd"
  refine itn (by decide) ⟨_, _, .inr hS, aE (j := 0) rfl, ?_⟩
  walk_at "rd"
  have ru := R.rw u hu
  have g := wm (F := H) (ra := ra) (.inl R.dc) hu
  rw [pu] at g ru
  refine itn (by decide) ⟨_, _, .inr hS, aE (j := 2) rfl, _, _, .inr hS, aE (j := 1) rfl, r, _, rfl, g, _, _, _, _, rfl, rfl, ru, tq (j := 2) (by show 2 < 3; decide), ?_⟩
  refine k _ ⟨?_, fun c hc => ?_⟩ (Keep.refl.put (.head _)) (az hN rfl)
  ·rw [ar (Ne.symm (bj ru R.dc)), R.dc]
   have := cG (cs := as) (l := l) (f := shu day) (fun c => ((.inr ⟨⟨c.pa⟩⟩ : Key), V.ref (ra c.pa))) fun _ => rfl
   rw [this]
  ·obtain ⟨c', hc', rfl⟩ := js hc
   by_cases h : c'.pa = l
   ·have ru2 := R.rw c' hc'
    rw [if_pos h]
    show upd H (ra l) _ (ra c'.pa) = some (.lst [c'.cu, .int c'.fi, .int day])
    rw [h] at ru2 ⊢
    rw [ae]
    rw [ru] at ru2
    injection ru2 with ru2
    injection ru2 with ru2
    injection ru2 with e1 ru2
    injection ru2 with e2 ru2
    rw [e1, e2]; rfl
   ·rw [if_neg h, ar fun z => h ((ij c' hc' u hu (by rw [pu]; exact z)).trans pu)]
    exact R.rw c' hc'
def upB (as : List Acc) (l : List Nat) : List (List Nat) := (as.map (·.pa)).filter fun x => decide (rpN 58 x = l)
def TlK (C A : Addr) (H : Hp) (p d : Addr) (as : List Acc) (Q : Hp -> Prop) : Dd -> Prop
 | .top x z => ∀ c H', x = L2.T c.pa -> c.ki = z -> c.cu = .non -> c.fi = 0 -> c.un = none -> c.be = [] -> H c.ob = none -> H c.bl = none -> CAt C A H' p d (as ++ [c]) -> Keep [d] H H' -> NoT H' -> Q H'
 | .add y z t => ∀ c H' v n, y = L2.T c.pa -> c.pa = v ++ 58 :: n -> 58 ∉ n -> (∀ u, fnd as v = some u -> c.ki = u.ki) -> c.cu = z -> t = .int c.fi -> c.un = none -> c.be = [] -> H c.ob = none -> H c.bl = none -> CAt C A H' p d (dS as v (grw c.pa) ++ [c]) -> Keep (d :: as.map (·.bl)) H H' -> NoT H' -> Q H'
 | .sh y z => ∀ l day H', y = L2.T l -> z = .int day -> CAt C A H' p d (dS as l (shu day)) -> Keep (as.map (·.ob)) H H' -> NoT H' -> Q H'
theorem DW (x : V) : List.lookup (Str.ofString "shut") [(Str.ofString "by_path", x)] = none := by rw [bu (by decide +kernel)]; rfl
theorem F7 (x : V) : List.lookup (Str.ofString "add") [(Str.ofString "by_path", x)] = none := by rw [bu (by decide +kernel)]; rfl
theorem Cc (x : V) : List.lookup (Str.ofString "add_top") [(Str.ofString "by_path", x)] = none := by rw [bu (by decide +kernel)]; rfl
theorem Cl {as : List Acc} {l : List Nat} (h : as.length <= 100) : (upB as l).length <= 100 := Nat.le_trans (List.length_filter_le _ _) (by rw [List.length_map]; exact h)
theorem lU {H : Hp} {Q : VK} (hN : NoT H) {C : Addr} {i : Nat} (hx : W.exmOne K (.ref C) (.ref a.bM) = some true) (hi : (WCS a)[i]? = some C) (k : ∀ H', Same H H' -> NoT H' -> Q (L2.T (WDS.getD i [])) H') :
 ∃ Ce, Value.ref C = Value.ref Ce /\ W.exmOne K (Value.ref Ce) (Value.ref a.bM) = some true /\ ∀ (e : Addr), H e = none -> NoT (upd H e (jC (Value.ref Ce) e)) /\ ∃ C i, upd H e (jC (Value.ref Ce) e) e = some (jC (Value.ref C) e) /\ (WCS a)[i]? = some C /\ ∀ (H' : Hp), Same (upd H e (jC (Value.ref Ce) e)) H' -> NoT H' -> Q (L2.T (WDS.getD i [])) H' :=
 ⟨C, rfl, hx, fun e he => ⟨az hN rfl, C, i, ae, hi, fun H' s n => k H' ((al _ he).trans s) n⟩⟩
theorem FW {as : List Acc} {u : Acc} {day : Int} (np : (as.map (·.pa)).Nodup) (hb : u.be = upB as u.pa) : (u.be.map fun x => zr as day (L2.T x)).any id = (as.filter fun c => decide (rpN 58 c.pa = u.pa)).any fun c => lat c.un day := by
 rw [hb]
 unfold upB
 rw [List.filter_map, List.map_map, List.any_map, Bool.eq_iff_iff, List.any_eq_true, List.any_eq_true]
 have e : ∀ c ∈ as, zr as day (L2.T c.pa) = lat c.un day := fun c hc => by
  show (match fnd as c.pa with | some c => lat c.un day | none => true) = _
  rw [we np hc]
 constructor
 ·rintro ⟨c, hc, h⟩
  refine ⟨c, hc, ?_⟩
  rw [<- e c (List.mem_filter.mp hc).1]; exact h
 ·rintro ⟨c, hc, h⟩
  refine ⟨c, hc, ?_⟩
  rw [<- e c (List.mem_filter.mp hc).1] at h; exact h
def sp_AA (K : W.Frag) (C A : Addr) : Sp := sp2 fun x y H Q _ => NoT H /\ asR x fun p => asR y fun q => ∃ d as dd, CAt C A H p d as /\ as.length <= 100 /\ (∀ c ∈ as, c.be = upB as c.pa) /\ H q = some (.tup dd.vs) /\ DOk K H dd /\
 (duD as dd ≠ [] -> ∀ H', Same H H' -> NoT H' -> Q (L2.T (duD as dd)) H') /\ (duD as dd = [] -> TlK C A H p d as (Q (L2.T [])) dd)
theorem vM (T : Txt K mg a) : bQ P w K mg base (XE P w) 8 a.kP a.pD ["_law_chart", "_law_deed_here"] (sp_AA K a.aH a.ay) := by
 refine T.ll.okX pR (fun vs H Q E h => sp2.len h) (fun cdv A outer s H vs Q E hr h => ?_)
 obtain ⟨x0, x1, rfl, h⟩ := sp2.inv h
 try dsimp only [sp_AA, sp2] at h
 have ND := pR.nd
 have HU := bx hr
 obtain ⟨hN, h1⟩ := h
 obtain ⟨p, rfl, h2⟩ := asR.inv h1
 obtain ⟨q, rfl, d, as, dd, J, len, hbe, hq, ok, kr, kt⟩ := asR.inv h2
 have sz := szl
 obtain ⟨dx, hp⟩ := J.ob
 have G_Chart_add_top := @i4 P w K mg base a T
 have b_Chart_add_top := iR T.gf
 have G_Chart_add := @vN P w K mg base a T
 have b_Chart_add := vm T.qZ
 have G_Chart_shut := @uj P w K mg base a T
 have b_Chart_shut := ul T.pe
 have G__law_word := @n8 P w K mg base a T
 have b__law_word := pz T.fZ
 refine ⟨_, (af (aT (i := 2) ND rfl (Or.inl rfl) cX)
  (af (Da (i := 3) ND rfl rfl rfl T.oO rfl rfl rfl (fun pn Ee Ex PX => (aj (aS (aY (bo K HU) (aK (aq K) (fv 1) ag (fun _ _ => rfl)) (ak [116, 111, 112]) (aO _)) (aj (aT (i := 2) ND rfl (Or.inl rfl) (bi (fv 0) T.aR T.jA G_Chart_add_top (hr.mono (by decide)) b_Chart_add_top .nil PX (FA.pa (aa (aK (aq K) (fv 1) ag (fun _ _ => rfl)) (aa (aK (aq K) (fv 1) ag (fun _ _ => rfl)) ad)))))) (aj (aS (aY (bo K HU) (aK (aq K) (fv 1) ag (fun _ _ => rfl)) (ak [97, 100, 100]) (aO _)) (aj (aT (i := 2) ND rfl (Or.inl rfl) (bi (fv 0) T.aR T.wa G_Chart_add (hr.mono (by decide)) b_Chart_add .nil PX (FA.pa (aa (aK (aq K) (fv 1) ag (fun _ _ => rfl)) (aa (aK (aq K) (fv 1) ag (fun _ _ => rfl)) (aa (aK (aq K) (fv 1) ag (fun _ _ => rfl)) ad))))))) (aj (aT (i := 2) ND rfl (Or.inl rfl) (bi (fv 0) T.aR T.t5 G_Chart_shut (hr.mono (by decide)) b_Chart_shut .nil PX (FA.pa (aa (aK (aq K) (fv 1) ag (fun _ _ => rfl)) (aa (aK (aq K) (fv 1) ag (fun _ _ => rfl)) ad))))))))))) (fun e => (aj (aA (yb G__law_word (Room.toC hr (by decide)) rfl T.qW T.fZ.kp b__law_word .nil mQ (FA.pa (aa (fv 3) ad)))))))
  (aj (aA (aB lZ (ak [116, 111, 108, 100]) (gS oq rfl T.tD nM (FA.pa (aa (lO (jZ (fv 2))) ad)))))))), ?_⟩
 have hS := SqT.of (K := K) hq
 cases dd with
 | top x z =>
  obtain ⟨o1, ⟨t1, o2⟩, o3⟩ := ok
  walk_at "rd"
  refine ⟨_, _, .inr hS, aE (j := 0) rfl, ?_⟩
  walk_at "rd"
  refine ⟨_, _, hp, Cc _, _, _, .inr hS, aE (j := 1) rfl, _, _, .inr hS, aE (j := 2) rfl, hN, BP o1, asK.of o2 ⟨o3, d, as, J, len, ?_⟩⟩
  change duT as x z ≠ [] -> ∀ H', Same H H' -> NoT H' -> Q (L2.T (duT as x z)) H' at kr
  change duT as x z = [] -> _ at kt
  unfold duT at kr kt
  cases e1 : nameV x with
  | false => rw [e1, if_neg (by decide)] at kr; exact itn (by decide) (lU (i := 0) hN T.lv rfl (kr (by decide)))
  | true =>
  rw [e1, if_pos rfl] at kr kt
  refine itp rfl ?_
  cases e2 : inV z (KDS.map L2.T) with
  | false => rw [e2, if_neg (by decide)] at kr; exact itn (by show ¬ inV z (KDS.map L2.T) = true; rw [e2]; decide) (lU (i := 2) hN T.lr rfl (kr (by decide)))
  | true =>
  rw [e2, if_pos rfl] at kr kt
  refine itp e2 ?_
  cases e3 : vz as x with
  | true => rw [e3, if_pos rfl] at kr; exact itp rfl (lU (i := 5) hN T.hG rfl (kr (by decide)))
  | false =>
   rw [e3, if_neg (by decide)] at kt
   refine itn (by decide) fun c H' a1 a2 a3 a4 a5 a6 a7 a8 a9 b1 b2 => ⟨by decide, kt rfl c H' a1 a2 a3 a4 a5 a6 a7 a8 a9 b1 b2⟩
 | add y z t =>
  obtain ⟨o1, ⟨t1, o2⟩, o3, ⟨t2, o4⟩, t3, o5⟩ := ok
  walk_at "rd"
  refine ⟨_, _, .inr hS, aE (j := 0) rfl, ?_⟩
  walk_at "rd"
  refine itn (by decide) ⟨_, _, .inr hS, aE (j := 0) rfl, ?_⟩
  walk_at "rd"
  refine ⟨_, _, hp, F7 _, _, _, .inr hS, aE (j := 1) rfl, _, _, .inr hS, aE (j := 2) rfl, _, _, .inr hS, aE (j := 3) rfl, hN, o1, asK.of o2 ⟨o3, asK.of o4 (asK.of o5 ⟨d, as, J, len, fun c hc => ?_, ?_⟩)⟩⟩
  ·rw [hbe c hc]; exact Cl len
  change duA as y z t ≠ [] -> ∀ H', Same H H' -> NoT H' -> Q (L2.T (duA as y z t)) H' at kr
  change duA as y z t = [] -> _ at kt
  unfold duA at kr kt
  cases e1 : ft y with
  | false => rw [e1, if_neg (by decide)] at kr; exact itn (by decide) (lU (i := 1) hN T.dO rfl (kr (by decide)))
  | true =>
  rw [e1, if_pos rfl] at kr kt
  refine itp rfl ?_
  obtain ⟨l, rfl⟩ := i_ e1
  rw [show tOf (L2.T l) = l from rfl] at kr kt
  walk_at "rd"
  by_cases h1 : (spN 58 l).length = 1
  ·rw [if_pos h1] at kr; exact itp h1 (lU (i := 1) hN T.dO rfl (kr (by decide)))
  rw [if_neg h1] at kr kt
  refine itn h1 ?_
  cases e2 : xb z with
  | false => rw [e2, if_neg (by decide)] at kr; exact itn (by decide) (lU (i := 3) hN T.iL rfl (kr (by decide)))
  | true =>
  rw [e2, if_pos rfl] at kr kt
  refine itp rfl ?_
  cases e3 : amg t 0 146096 with
  | false => rw [e3, if_neg (by decide)] at kr; exact itn (by decide) (lU (i := 4) hN T.d6 rfl (kr (by decide)))
  | true =>
  rw [e3, if_pos rfl] at kr kt
  obtain ⟨day, rfl, _, _⟩ := r_ e3
  rw [show iOf (.int day) = day from rfl] at kr kt
  refine itp rfl ?_
  walk_at "rd"
  by_cases e4 : (fnd as l).isSome = true
  ·rw [if_pos e4] at kr; exact itp e4 (lU (i := 5) hN T.hG rfl (kr (by decide)))
  rw [if_neg e4] at kr kt
  refine itn e4 fun v n el hn => ?_
  have ev : rpN 58 l = v := by rw [el]; exact pF hn
  rw [ev] at kr kt
  cases e5 : fnd as v with
  | none => rw [e5] at kr; exact lU (i := 6) hN T.db rfl (kr (by show yH ≠ []; decide))
  | some u =>
   rw [e5] at kr kt
   dsimp only at kr kt
   by_cases h2 : u.un = none /\ u.fi <= day
   ·rw [if_pos h2] at kt
    refine itp h2 fun c H' a1 a2 a3 a4 a5 a6 a7 a8 a9 b1 b2 => ⟨by decide, kt rfl c H' v n (by rw [a1]) (by rw [a1]; exact el) hn (fun u' e => ?_) a3 (by rw [a4]) a5 a6 a7 a8 (by rw [a1]; exact a9) b1 b2⟩
    rw [e5] at e; cases e; exact a2
   ·rw [if_neg h2] at kr
    exact itn h2 (lU (i := 7) hN T.fO rfl (kr (by decide)))
 | sh y z =>
  obtain ⟨o1, ⟨t1, o2⟩, t2, o3⟩ := ok
  walk_at "rd"
  refine ⟨_, _, .inr hS, aE (j := 0) rfl, ?_⟩
  walk_at "rd"
  refine itn (by decide) ⟨_, _, .inr hS, aE (j := 0) rfl, ?_⟩
  walk_at "rd"
  refine itn (by decide) ⟨_, _, hp, DW _, _, _, .inr hS, aE (j := 1) rfl, _, _, .inr hS, aE (j := 2) rfl, hN, o1, asK.of o2 (asK.of o3 ⟨d, as, J, fun c hc => ⟨?_, fun x hx => ?_⟩, ?_⟩)⟩
  ·rw [hbe c hc]; exact Cl len
  ·rw [hbe c hc] at hx
   obtain ⟨y, hy, e⟩ := List.mem_map.mp (List.mem_filter.mp hx).1
   exact ⟨y, hy, e⟩
  change duS as y z ≠ [] -> ∀ H', Same H H' -> NoT H' -> Q (L2.T (duS as y z)) H' at kr
  change duS as y z = [] -> _ at kt
  unfold duS at kr kt
  cases e1 : ft y with
  | false => rw [e1, if_neg (by decide)] at kr; exact itn (by decide) (lU (i := 1) hN T.dO rfl (kr (by decide)))
  | true =>
  rw [e1, if_pos rfl] at kr kt
  refine itp rfl ?_
  obtain ⟨l, rfl⟩ := i_ e1
  cases e2 : fY as (L2.T l) with
  | none => rw [e2] at kr; exact lU (i := 6) hN T.db rfl (kr (by show yH ≠ []; decide))
  | some u =>
   rw [e2] at kr kt
   have e2' : fnd as l = some u := e2
   dsimp only at kr kt
   show ite _ _ _
   cases e3 : amg z 0 146096 with
   | false => rw [e3, if_neg (by decide)] at kr; exact itn (by decide) (lU (i := 4) hN T.d6 rfl (kr (by decide)))
   | true =>
   rw [e3, if_pos rfl] at kr kt
   obtain ⟨day, rfl, _, _⟩ := r_ e3
   rw [show iOf (.int day) = day from rfl] at kr kt
   refine itp rfl ?_
   walk_at "rd"
   by_cases h1 : day <= u.fi
   ·rw [if_pos h1] at kr; exact itp h1 (lU (i := 4) hN T.d6 rfl (kr (by decide)))
   rw [if_neg h1] at kr kt
   refine itn h1 ?_
   by_cases h2 : u.un = none
   ·rw [if_pos h2] at kr kt
    refine itp h2 ?_
    rw [FW J.np (hbe u (eA e2').1)]
    cases e4 : (as.filter fun c => decide (rpN 58 c.pa = u.pa)).any fun c => lat c.un day with
    | true => rw [e4, if_pos rfl] at kr; exact itp rfl (lU (i := 8) hN T.ky rfl (kr (by decide)))
    | false =>
     rw [e4, if_neg (by decide)] at kt
     refine itn (by decide) fun H' a1 a2 a3 => ⟨by decide, kt rfl l day H' rfl rfl (by rw [<- (eA e2').2]; exact a1) a2 a3⟩
   ·rw [if_neg h2] at kr
    exact itn h2 (lU (i := 7) hN T.fO rfl (kr (by decide)))
def Any (K : W.Frag) (H : Hp) (v : V) : Prop := okP v /\ Kd H v /\ (cy v = true \/ ∃ q ys, v = .ref q /\ (SqL K H q ys \/ SqT K H q ys))
theorem Any.same {H H' : Hp} {v : V} (h : Any K H v) (s : Same H H') : Any K H' v := by
 obtain ⟨h1, ⟨t, h2⟩, h3⟩ := h
 refine ⟨h1, ⟨t, e6 s h2⟩, ?_⟩
 rcases h3 with z | ⟨q, ys, e, z | z⟩
 ·exact .inl z
 ·exact .inr ⟨q, ys, e, .inl (SqL.same s z)⟩
 ·exact .inr ⟨q, ys, e, .inr (wN s z)⟩
theorem xJ {H : Hp} {v : V} (h : cy v = true) (o : okP v) : Any K H v := by
 refine ⟨o, ?_, .inl h⟩
 cases v with
 | non => exact ⟨_, rfl⟩
 | bl => exact ⟨_, rfl⟩
 | int => exact ⟨_, rfl⟩
 | str => exact ⟨_, rfl⟩
 | _ => cases h
theorem zR {H : Hp} {p : Addr} {ys : List V} (h : H p = some (.lst ys)) : Any K H (.ref p) := ⟨fun _ z => (nomatch z), ⟨"list", by simp [cN, h]⟩, .inr ⟨p, ys, rfl, .inl (SqL.of h)⟩⟩
theorem zD {H : Hp} {p : Addr} {ys : List V} (h : H p = some (.tup ys)) : Any K H (.ref p) := ⟨fun _ z => (nomatch z), ⟨"tuple", by simp [cN, h]⟩, .inr ⟨p, ys, rfl, .inr (SqT.of h)⟩⟩
theorem rj {H : Hp} {l : List Nat} (h : (∀ c ∈ l, c < 128) /\ l.length <= 199) : Any K H (L2.T l) := xJ rfl fun _ z => by cases z; exact h
def PkO (H H1 : Hp) (v : V) : Prop := (cy v = true /\ okP v) \/ ∃ p o, v = .ref p /\ H p = none /\ H1 p = some o /\ ∃ ys, o = .lst ys \/ o = .tup ys
theorem fN {xs : List V} {H H1 : Hp} {Q : VK} {i : Int} (hN : NoT H) (h0 : 0 <= i) (h1 : i < xs.length) (h : ∀ v ∈ xs, PkO H H1 v) (k : ∀ v H', Same H H' -> NoT H' -> Any K H' v -> Q v H') : j_ xs H H1 Q (.int i) := by
 obtain ⟨j, rfl⟩ : ∃ j : Nat, i = j := ⟨i.toNat, by omega⟩
 have hj : j < xs.length := by omega
 have e : atI xs (j : Int) = some xs[j] := aE (List.getElem?_eq_getElem hj)
 rcases h _ (List.getElem_mem hj) with ⟨f, o⟩ | ⟨p, o, ev, hp, ho, ys, eo⟩
 ·unfold j_
  have q := k _ H (Same.refl _) hN (xJ f o)
  simp only [e]
  split
  ·rename_i q' e'
   injection e' with e'
   rw [e'] at f; cases f
  ·rename_i v _ e'
   injection e' with e'
   rw [e'] at q; exact q
  ·rename_i e'; cases e'
 ·rw [ev] at e
  have pl : qH o = true := by rcases eo with rfl | rfl <;> rfl
  refine CL e hp ho pl (k _ _ (al _ hp) (az hN (by rcases eo with rfl | rfl <;> rfl)) ?_)
  rcases eo with rfl | rfl
  ·exact zR ae
  ·exact zD ae
theorem fa {P : V -> Prop} {x : V} {r : List V} (h : P x) (t : ∀ v ∈ r, P v) : ∀ v ∈ x :: r, P v := fun v m => by
 rcases List.mem_cons.mp m with rfl | m
 ·exact h
 ·exact t v m
theorem fn {P : V -> Prop} : ∀ v ∈ ([] : List V), P v := fun _ m => nomatch m
theorem pkT {H H1 : Hp} {l : List Nat} (h : (∀ c ∈ l, c < 128) /\ l.length <= 199) : PkO H H1 (L2.T l) := .inl ⟨rfl, fun _ z => by cases z; exact h⟩
theorem pkN {H H1 : Hp} : PkO H H1 .non := .inl ⟨rfl, fun _ z => nomatch z⟩
theorem pkI {H H1 : Hp} {i : Int} : PkO H H1 (.int i) := .inl ⟨rfl, fun _ z => nomatch z⟩
theorem pkB {H H1 : Hp} {i : Bool} : PkO H H1 (.bl i) := .inl ⟨rfl, fun _ z => nomatch z⟩
theorem pkL {H H1 : Hp} {p : Addr} {ys : List V} (h : H p = none) (h1 : H1 p = some (.lst ys)) : PkO H H1 (.ref p) := .inr ⟨p, _, rfl, h, h1, ys, .inl rfl⟩
theorem pkU {H H1 : Hp} {p : Addr} {ys : List V} (h : H p = none) (h1 : H1 p = some (.tup ys)) : PkO H H1 (.ref p) := .inr ⟨p, _, rfl, h, h1, ys, .inr rfl⟩
theorem okn {n : List Nat} (h : nm n = true) : (∀ c ∈ n, c < 128) /\ n.length <= 12 := ⟨fun c hc => by have := (sC h).2.2 c hc; omega, (sC h).2.1⟩
theorem sj {l : List Nat} {c m : Nat} (h : (∀ c ∈ l, c < 128) /\ l.length <= m) (hc : c < 128) (hm : m <= 198) : (∀ d ∈ l ++ [c], d < 128) /\ (l ++ [c]).length <= 199 := by
 refine ⟨fun d hd => ?_, ?_⟩
 ·rcases List.mem_append.mp hd with z | z
  ·exact h.1 d z
  ·rw [List.mem_singleton.mp z]; exact hc
 ·have := h.2; rw [List.length_append, List.length_singleton]; omega
theorem DJ {l : List Nat} {c m : Nat} (h : (∀ c ∈ l, c < 128) /\ l.length <= m) (hc : c < 128) (hm : m <= 198) : (∀ d ∈ c :: l, d < 128) /\ (c :: l).length <= 199 := by
 refine ⟨fun d hd => ?_, ?_⟩
 ·rcases List.mem_cons.mp hd with z | z
  ·rw [z]; exact hc
  ·exact h.1 d z
 ·have := h.2; rw [List.length_cons]; omega
theorem pQ {l : List Nat} {m : Nat} (h : (∀ c ∈ l, c < 128) /\ l.length <= m) (hm : m <= 199) : (∀ c ∈ l, c < 128) /\ l.length <= 199 := ⟨h.1, Nat.le_trans h.2 hm⟩
def sp_B_ (K : W.Frag) : Sp := sp5 fun x y z c m H Q _ => NoT H /\ asR x fun pn => asT y fun l => asI z fun day => asI c fun ce => asI m fun mo => ∃ nl : List (List Nat), H pn = some (.lst (nl.map L2.T)) /\ nl.length = 5 /\ (∀ n ∈ nl, nm n = true) /\ ((∀ c ∈ l, c < 128) /\ l.length <= 190) /\
 ∀ q dd H', Same H H' -> NoT H' -> H' q = some (.tup dd.vs) -> DOk K H' dd -> Q (.ref q) H'
theorem xl (T : Txt K mg a) : bQ P w K mg base (XE P w) 1 a.nC a.rg ["_law_names", "_law_path", "_law_day", "_law_cell", "_law_more"] (sp_B_ K) := by
 refine T.nL.okX qP (fun vs H Q E h => sp5.len h) (fun cdv A outer s H vs Q E hr h => ?_)
 obtain ⟨x0, x1, x2, x3, x4, rfl, h⟩ := sp5.inv h
 try dsimp only [sp_B_, sp5] at h
 have ND := qP.nd
 have HU := bx hr
 obtain ⟨hN, h1⟩ := h
 obtain ⟨pn, rfl, h2⟩ := asR.inv h1
 obtain ⟨l, rfl, h3⟩ := asT.inv h2
 obtain ⟨day, rfl, h4⟩ := asI.inv h3
 obtain ⟨ce, rfl, h5⟩ := asI.inv h4
 obtain ⟨mo, rfl, nl, hn, ln, nmn, hl, k⟩ := asI.inv h5
 have sz := szl
 refine ⟨_, (af (aT (i := 5) ND rfl (Or.inl rfl) (aK (aq K) (fv 0) ag (fun _ _ => rfl)))
  (af (aT (i := 6) ND rfl (Or.inl rfl) (aB bt (fv 4) ag))
  (af (aT (i := 7) ND rfl (Or.inl rfl) (aB bt (aG Fm rfl T.GI Fj (FA.pa (aa (fv 4) ad))) (aB E_ ag ag)))
  (af (aS (aY (bo K HU) (aB bt (fv 3) ag) ag (aO _)) (aj (aA (cR (FA.pa (aa (ak [116, 111, 112]) (aa (dw (FA.pa (aa (ak []) (aa (ak [65]) (aa (aB bf (fv 5) (ak [58])) (aa cX (aa ag (aa (bU (FA.pa (aa (fv 5) ad))) (aa (aB lZ (ak [97]) ag) (aa eh (aa (aB bf (fv 5) (ak [32])) ad)))))))))) (fv 6) (fun _ _ => rfl)) (aa (ak [104, 97, 118, 101]) ad))))))) aD)
  (af (aS (aY (bo K HU) (aB bt (fv 3) ag) ag (aO _)) (aj (aA (cR (FA.pa (aa (ak [116, 111, 112]) (aa (aK (aq K) (fv 0) ag (fun _ _ => rfl)) (aa (dw (FA.pa (aa (ak [72, 97, 118, 101]) (aa (ak []) (aa cX (aa ag (aa (bU (FA.pa (aa (ak [104, 97, 118, 101]) ad))) (aa (ak [104, 97, 118, 101, 115]) (aa (ak [104, 97, 118]) (aa (ak [111, 119, 110, 32]) (aa (cR (FA.pa (aa (ak [111, 119, 110]) ad))) ad)))))))))) (fv 6) (fun _ _ => rfl)) ad))))))) aD)
  (af (aS (aY (bo K HU) (aB bt (fv 3) ag) ag (aO _)) (aj (aA (cR (FA.pa (aa (ak [97, 100, 100]) (aa (fv 1) (aa (dw (FA.pa (aa (ak []) (aa (ak [69, 85]) (aa (ak [69, 85, 82, 79]) (aa (ak [101, 117, 114]) (aa ag (aa (bU (FA.pa (aa (ak [69, 85, 82]) ad))) (aa (ak [69, 32, 82]) (aa eh (aa (ak [65, 49, 66]) ad)))))))))) (fv 6) (fun _ _ => rfl)) (aa (fv 2) ad)))))))) aD)
  (af (aT (i := 8) ND rfl (Or.inl rfl) (dw (FA.pa (aa (fv 5) (aa (ak []) (aa cX (aa ag (aa (aB bf (fv 1) (ak [58])) (aa (aB bf (fv 1) (ak [65])) (aa (bU (FA.pa (aa (fv 1) ad))) (aa (aB bf (ak [58]) (fv 1)) (aa (aB bf (aB lZ (ak [97, 58]) ag) (ak [97])) ad)))))))))) (fv 6) (fun _ _ => rfl)))
  (af (aT (i := 9) ND rfl (Or.inl rfl) (dw (FA.pa (aa (qQ kJ ag) (aa ag (aa cX (aa eh (aa (ak [53]) (aa (bU (FA.pa (aa ag ad))) (aa (aB bf ag (fv 7)) (aa (aB Dg (qQ kJ ag) (fv 7)) (aa eh ad)))))))))) (fv 6) (fun _ _ => rfl)))
  (af (aS (aY (bo K HU) (aB bt (fv 3) ag) ag (aO _)) (aj (aA (cR (FA.pa (aa (ak [97, 100, 100]) (aa (fv 8) (aa cX (aa (fv 2) ad)))))))) aD)
  (af (aS (aY (bo K HU) (aB bt (fv 3) ag) ag (aO _)) (aj (aA (cR (FA.pa (aa (ak [97, 100, 100]) (aa (fv 1) (aa cX (aa (fv 9) ad)))))))) aD)
  (aj (aA (cR (FA.pa (aa (ak [115, 104, 117, 116]) (aa (aK (aq K) (bU (FA.pa (aa (fv 8) (aa (fv 1) ad)))) (aB bt (aB dD (fv 3) ag) ag) (fun _ _ => rfl)) (aa (fv 9) ad))))))))))))))))), ?_⟩
 obtain ⟨n0, e0⟩ : ∃ n0, nl[0]? = some n0 := ⟨nl[0], List.getElem?_eq_getElem (by omega)⟩
 obtain ⟨n4, e4⟩ : ∃ n4, nl[4]? = some n4 := ⟨nl[4], List.getElem?_eq_getElem (by omega)⟩
 walk_at "rd"
 have m9 : 0 <= mo % 9 /\ mo % 9 < 9 := by omega
 have k0 := okn (nmn n0 (List.mem_of_getElem? e0))
 have k4 := okn (nmn n4 (List.mem_of_getElem? e4))
 have a0 : atI (nl.map L2.T) 0 = some (L2.T n0) := aE (j := 0) (by rw [List.getElem?_map, e0]; rfl)
 have a4 : atI (nl.map L2.T) 4 = some (L2.T n4) := aE (j := 4) (by rw [List.getElem?_map, e4]; rfl)
 generalize (if mo < 0 then -mo else mo) % 10 ^ Int.toNat 60 = far
 refine ⟨_, _, .inl (SqL.of hn), a0, by decide, by decide, ?_⟩
 have ok0 := pQ k0 (by decide)
 have ok4 := pQ k4 (by decide)
 have okl := pQ hl (by decide)
 generalize ce % 6 = c6
 by_cases c0 : c6 = 0
 ·refine itp c0 ⟨hN, ?_⟩
  walk_at "rd"
  refine ⟨by omega, by walk_at "om", fun p hp => ⟨by decide, by omega, al _ hp, by walk_at "om", fun p1 hp1 => ?_⟩⟩
  refine fN (K := K) hN m9.1 m9.2 (fa (pkT (by decide)) (fa (pkT (by decide)) (fa (pkT (sj k0 (by decide) (by decide))) (fa pkN (fa pkI (fa (pkL hp ae) (fa (pkT (by decide)) (fa pkB (fa (pkT (sj k0 (by decide) (by decide))) fn))))))))) fun v H' s n av => ⟨by walk_at "om", fun q hq => ?_⟩
  exact k q (.top v (L2.T [104, 97, 118, 101])) _ (s.trans (al _ hq)) (az n rfl) ae ⟨av.1, (av.same (al _ hq)).2.1, .inl rfl⟩
 refine itn c0 ?_
 by_cases c1 : c6 = 1
 ·refine itp c1 ⟨_, _, .inl (SqL.of hn), a4, hN, by walk_at "om", fun p hp => ⟨by walk_at "om", fun p1 hp1 => ⟨(al _ hp).trans (al _ hp1), by walk_at "om", fun p2 hp2 => ?_⟩⟩⟩
  refine fN (K := K) hN m9.1 m9.2 (fa (pkT (by decide)) (fa (pkT (by decide)) (fa pkN (fa pkI (fa (pkL hp ((al _ hp1) _ _ ae)) (fa (pkT (by decide)) (fa (pkT (by decide)) (fa (pkT (by decide)) (fa (pkU ((al _ hp).free hp1) ae) fn))))))))) fun v H' s n av => ⟨by walk_at "om", fun q hq => ?_⟩
  have av := av.same (al (HO.tup [L2.T [116, 111, 112], L2.T n4, v]) hq)
  exact k q (.top (L2.T n4) v) _ (s.trans (al _ hq)) (az n rfl) ae ⟨(rj (K := K) (H := H) ok4).1, ⟨_, rfl⟩, av.2.2⟩
 refine itn c1 ?_
 by_cases c2 : c6 = 2
 ·refine itp c2 ⟨hN, by walk_at "om", fun p hp => ⟨al _ hp, by walk_at "om", fun p1 hp1 => ?_⟩⟩
  refine fN (K := K) hN m9.1 m9.2 (fa (pkT (by decide)) (fa (pkT (by decide)) (fa (pkT (by decide)) (fa (pkT (by decide)) (fa pkI (fa (pkL hp ae) (fa (pkT (by decide)) (fa pkB (fa (pkT (by decide)) fn))))))))) fun v H' s n av => ⟨by walk_at "om", fun q hq => ?_⟩
  exact k q (.add (L2.T l) v (.int day)) _ (s.trans (al _ hq)) (az n rfl) ae ⟨(rj (K := K) (H := H) okl).1, ⟨_, rfl⟩, BP av.1, (av.same (al _ hq)).2.1, ⟨_, rfl⟩⟩
 refine itn c2 ⟨hN, by omega, by omega, by walk_at "om", fun p hp => ⟨by omega, by decide, by show 13 <= sizeLine; omega, al _ hp, by walk_at "om", fun p1 hp1 => ?_⟩⟩
 refine fN (K := K) hN m9.1 m9.2 (fa (pkT ok0) (fa (pkT (by decide)) (fa pkN (fa pkI (fa (pkT (sj hl (by decide) (by decide))) (fa (pkT (sj hl (by decide) (by decide))) (fa (pkL hp ae) (fa (pkT (DJ hl (by decide) (by decide))) (fa (pkT (by decide)) fn))))))))) fun wr H1 s1 N1 aw => ⟨N1, by walk_at "om", fun p2 hp2 => ⟨al _ hp2, by walk_at "om", fun p3 hp3 => ?_⟩⟩
 refine fN (K := K) N1 m9.1 m9.2 (fa pkI (fa pkI (fa pkN (fa pkB (fa (pkT (by decide)) (fa (pkL hp2 ae) (fa pkI (fa pkI (fa pkB fn))))))))) fun wh H2 s2 N2 ah => ?_
 have aw := aw.same s2
 have s12 := s1.trans s2
 by_cases c3 : c6 = 3
 ·refine itp c3 ⟨by walk_at "om", fun q hq => ?_⟩
  exact k q (.add wr .non (.int day)) _ (s12.trans (al _ hq)) (az N2 rfl) ae ⟨aw.1, (aw.same (al _ hq)).2.1, (fun _ z => nomatch z), ⟨_, rfl⟩, ⟨_, rfl⟩⟩
 refine itn c3 ?_
 by_cases c4 : c6 = 4
 ·refine itp c4 ⟨by walk_at "om", fun q hq => ?_⟩
  exact k q (.add (L2.T l) .non wh) _ (s12.trans (al _ hq)) (az N2 rfl) ae ⟨(rj (K := K) (H := H) okl).1, ⟨_, rfl⟩, (fun _ z => nomatch z), ⟨_, rfl⟩, (ah.same (al _ hq)).2.1⟩
 refine itn c4 ?_
 walk_at "rd"
 refine ⟨by walk_at "om", fun p hp => ?_⟩
 have s3 := al (HO.lst [wr, L2.T l]) hp
 have c2 : ce / 6 % 2 = 0 \/ ce / 6 % 2 = 1 := by omega
 obtain ⟨v, ev, av⟩ : ∃ v, atI [wr, L2.T l] (ce / 6 % 2) = some v /\ Any K H2 v := by
  rcases c2 with z | z <;> rw [z]
  ·exact ⟨wr, rfl, aw⟩
  ·exact ⟨_, rfl, rj okl⟩
 refine ⟨_, v, .inl (SqL.of ae), ev, by walk_at "om", fun q hq => ?_⟩
 have s4 := s3.trans (al (HO.tup [L2.T [115, 104, 117, 116], v, wh]) hq)
 exact k q (.sh v wh) _ (s12.trans s4) (az (az N2 rfl) rfl) ae ⟨av.1, (av.same s4).2.1, (ah.same s4).2.1⟩
theorem uD {m : Nat} : ∀ (ps : List (List Nat)), (∀ p ∈ ps, p.length <= m) -> (bG [58] ps).length <= (m + 1) * ps.length
 | [], _ => by simp [bG]
 | [p], h => by
  have := h p (by simp)
  simp only [bG, List.length_singleton, Nat.mul_one]; omega
 | p :: q :: r, h => by
  have ih := uD (q :: r) fun x hx => h x (List.mem_cons_of_mem _ hx)
  have := h p (by simp)
  rw [bG, List.length_append, List.length_append, List.length_singleton, List.length_cons, Nat.mul_add (m + 1) _ 1, Nat.mul_one]
  omega
theorem oV {l : List Nat} (h : d_ l = true) : (∀ c ∈ l, c < 128) /\ l.length <= 78 := by
 refine ⟨fun c hc => by rcases tf h c hc with z | z <;> omega, ?_⟩
 unfold d_ at h
 simp only [Bool.and_eq_true, decide_eq_true_eq, List.all_eq_true] at h
 have := uD (m := 12) (spN 58 l) fun p hp => (sC (h.2 p hp)).2.1
 rw [eg] at this
 have h6 := h.1.2
 have : (12 + 1) * (spN 58 l).length <= 13 * 6 := Nat.mul_le_mul_left _ h6
 omega
theorem atm {l : List (List Nat)} {i : Int} (h : 0 < l.length) : ∃ x ∈ l, atI (l.map L2.T) (i % (l.length : Int)) = some (L2.T x) := by
 have a0 : 0 <= i % (l.length : Int) := Int.emod_nonneg _ (by omega)
 have a1 : i % (l.length : Int) < l.length := Int.emod_lt_of_pos _ (by omega)
 obtain ⟨j, hj⟩ : ∃ j : Nat, i % (l.length : Int) = j := ⟨(i % (l.length : Int)).toNat, by omega⟩
 rw [hj] at a1 ⊢
 have hl : j < l.length := by omega
 exact ⟨l[j], List.getElem_mem hl, aE (by rw [List.getElem?_map, List.getElem?_eq_getElem hl]; rfl)⟩
theorem Dr {l : List Nat} (h : cur l = true) : l.length = 3 /\ ∀ d ∈ l, 65 <= d /\ d <= 90 := by
 unfold cur lie at h
 simp only [Bool.and_eq_true, decide_eq_true_eq, List.all_eq_true] at h
 exact ⟨h.1, fun d hd => h.2 d hd⟩
theorem vt {l n : List Nat} {m m' : Nat} (h : (∀ c ∈ l, c < 128) /\ l.length <= m) (h' : (∀ c ∈ n, c < 128) /\ n.length <= m') (hm : m + m' <= 99) : (∀ d ∈ l ++ [58] ++ n, d < 128) /\ (l ++ [58] ++ n).length <= 100 := by
 refine ⟨fun d hd => ?_, ?_⟩
 ·rcases List.mem_append.mp hd with z | z
  ·rcases List.mem_append.mp z with z | z
   ·exact h.1 d z
   ·rw [List.mem_singleton.mp z]; decide
  ·exact h'.1 d z
 ·have := h.2; have := h'.2; rw [List.length_append, List.length_append, List.length_singleton]; omega
def sp_Aj (K : W.Frag) : Sp := sp7 fun x n c kd ce mo ba H Q _ => NoT H /\ asR x fun r => asR n fun pn => asR c fun pc => asI kd fun ki => asI ce fun cell => asI mo fun more => asI ba fun bas => ∃ (ra : List Nat -> Addr) (as : List Acc) (nl cl : List (List Nat)), RAt H r ra as /\ as ≠ [] /\ as.length < 64 /\ (∀ c ∈ as, d_ c.pa = true) /\ H pn = some (.lst (nl.map L2.T)) /\ nl.length = 5 /\ (∀ n ∈ nl, nm n = true) /\ H pc = some (.lst (cl.map L2.T)) /\ cl.length = 3 /\ (∀ n ∈ cl, cur n = true) /\
 ∀ q dd H', Same H H' -> NoT H' -> H' q = some (.tup dd.vs) -> DOk K H' dd -> Q (.ref q) H'
theorem vE (T : Txt K mg a) : bQ P w K mg base (XE P w) 2 a.ir a.oC ["_law_rows", "_law_names", "_law_coins", "_law_kind", "_law_cell", "_law_more", "_law_base"] (sp_Aj K) := by
 refine T.lN.okX pw (fun vs H Q E h => sp7.len h) (fun cdv A outer s H vs Q E hr h => ?_)
 obtain ⟨x0, x1, x2, x3, x4, x5, x6, rfl, h⟩ := sp7.inv h
 try dsimp only [sp_Aj, sp7] at h
 have ND := pw.nd
 have HU := bx hr
 obtain ⟨hN, h1⟩ := h
 obtain ⟨r, rfl, h2⟩ := asR.inv h1
 obtain ⟨pn, rfl, h3⟩ := asR.inv h2
 obtain ⟨pc, rfl, h4⟩ := asR.inv h3
 obtain ⟨ki, rfl, h5⟩ := asI.inv h4
 obtain ⟨cell, rfl, h6⟩ := asI.inv h5
 obtain ⟨more, rfl, h7⟩ := asI.inv h6
 obtain ⟨bas, rfl, ra, as, nl, cl, R, ne, len, pa, hn, ln, nmn, hc, lc, cun, k⟩ := asI.inv h7
 have sz := szl
 have G__law_odd := @xl P w K mg base a T
 have b__law_odd := xu T.nL
 have at5 : ∀ i : Int, ∃ n, nm n = true /\ atI (nl.map L2.T) (i % 5) = some (L2.T n) := fun i => by
  obtain ⟨n, h, e⟩ := atm (l := nl) (i := i) (by omega)
  rw [ln] at e
  exact ⟨n, nmn n h, e⟩
 have c4 : ∃ u, PSs (fz (XE P w) P w K mg base ["_law_rows", "_law_names", "_law_coins", "_law_kind", "_law_cell", "_law_more", "_law_base", "_law_day", "_law_known", "_law_path"] "_law_deed" (ai cK) a.ir cdv A outer s H E) (List.drop 4 (aC cK)) u /\ ∀ (day : Int) (l : List Nat) (lk : Addr) (out : List (List Nat)) H1, Same H H1 -> NoT H1 -> ((∀ c ∈ l, c < 128) /\ l.length <= 100) -> H1 lk = some (.lst (out.map L2.T)) -> 0 < out.length -> (∀ x ∈ out, d_ x = true) ->
  u { nx := fun _ H' => Q .non H', rt := Q } [some (.ref r), some (.ref pn), some (.ref pc), some (.int ki), some (.int cell), some (.int more), some (.int bas), some (.int day), some (.ref lk), some (L2.T l)] H1 := by
  refine ⟨_, (af (aS (aY (bo K HU) (fv 3) ag (aO _)) (aj (aA (cR (FA.pa (aa (ak [116, 111, 112]) (aa (aK (aq K) (fv 1) (aB bt (fv 4) ag) (fun _ _ => rfl)) (aa (dw (FA.pa (aa (ak [104, 97, 118, 101]) (aa (ak [111, 119, 101]) (aa (ak [111, 119, 110]) (aa (ak [103, 97, 105, 110]) (aa (ak [99, 111, 115, 116]) ad)))))) (aB bt (fv 5) ag) (fun _ _ => rfl)) ad))))))) aD)
   (af (aS (aY uV (fv 3) ag (aO _)) (aj (aA (cR (FA.pa (aa (ak [97, 100, 100]) (aa (fv 9) (aa (dw (FA.pa (aa cX (aa (aK (aq K) (fv 2) ag (fun _ _ => rfl)) (aa (aK (aq K) (fv 2) ag (fun _ _ => rfl)) (aa (aK (aq K) (fv 2) ag (fun _ _ => rfl)) (aa cX ad)))))) (aB bt (aB dD (fv 5) ag) ag) (fun _ _ => rfl)) (aa (fv 7) ad)))))))) aD)
   (af (aS (aY uV (fv 3) ag (aO _)) (aj (aA (cR (FA.pa (aa (ak [115, 104, 117, 116]) (aa (dw (FA.pa (aa (fv 9) (aa (aK (aq K) (fv 8) (aB bt (aB dD (fv 4) ag) (aG (dm K) rfl T.g_ eO (FA.pa (aa (fv 8) ad)))) (fun _ _ => rfl)) ad))) (gS oq rfl T.tD nM (FA.pa (aa (cz uB (aB bt (fv 4) ag) ag (aO _)) ad))) (fun _ _ => rfl)) (aa (fv 7) ad))))))) aD)
   (aj (aA (aN G__law_odd (hr.mono (by decide)) rfl T.zf T.nL.kp b__law_odd .nil bb (FA.pa (aa (fv 1) (aa (fv 9) (aa (fv 7) (aa (fv 4) (aa (fv 5) ad)))))))))))), fun day l lk out H1 sm N1 hl hk lo po => ?_⟩
  walk_at "rd"
  have hn1 := SqL.of (K := K) (sm _ _ hn)
  have hc1 := SqL.of (K := K) (sm _ _ hc)
  by_cases k0 : ki = 0
  ·obtain ⟨n, nn, e⟩ := at5 cell
   refine itp k0 ⟨_, _, .inl hn1, e, N1, by walk_at "om", fun p hp => ?_⟩
   refine fN (K := K) N1 (by omega) (by show _ < (5 : Int); omega) (fa (pkT (by decide)) (fa (pkT (by decide)) (fa (pkT (by decide)) (fa (pkT (by decide)) (fa (pkT (by decide)) fn))))) fun v H' s n' av => ⟨by walk_at "om", fun q hq => ?_⟩
   exact k q (.top (L2.T n) v) _ ((sm.trans s).trans (al _ hq)) (az n' rfl) ae ⟨(rj (K := K) (H := H) (pQ (okn nn) (by decide))).1, ⟨_, rfl⟩, (av.same (al _ hq)).2.2⟩
  refine itn k0 ?_
  by_cases k5 : ki < 5
  ·obtain ⟨c0, c1, c2, rfl⟩ : ∃ c0 c1 c2, cl = [c0, c1, c2] := by
    match cl, lc with
    | [c0, c1, c2], _ => exact ⟨c0, c1, c2, rfl⟩
   have okc : ∀ c, c ∈ [c0, c1, c2] -> (∀ d ∈ c, d < 128) /\ c.length <= 199 := fun c hm => by
    have := Dr (cun c hm)
    exact ⟨fun d hd => by have := this.2 d hd; omega, by omega⟩
   refine itp k5 ⟨N1, _, _, .inl hc1, aE (j := 0) rfl, _, _, .inl hc1, aE (j := 1) rfl, _, _, .inl hc1, aE (j := 2) rfl, by walk_at "om", fun p hp => ?_⟩
   refine fN (K := K) N1 (by omega) (by show _ < (5 : Int); omega) (fa pkN (fa (pkT (okc _ (by simp))) (fa (pkT (okc _ (by simp))) (fa (pkT (okc _ (by simp))) (fa pkN fn))))) fun v H' s n' av => ⟨by walk_at "om", fun q hq => ?_⟩
   exact k q (.add (L2.T l) v (.int day)) _ ((sm.trans s).trans (al _ hq)) (az n' rfl) ae ⟨(rj (K := K) (H := H) (pQ hl (by decide))).1, ⟨_, rfl⟩, BP av.1, (av.same (al _ hq)).2.1, ⟨_, rfl⟩⟩
  refine itn k5 ?_
  by_cases k7 : ki < 7
  ·obtain ⟨x, hx, e⟩ := atm (l := out) (i := cell / 7) lo
   refine itp k7 ⟨N1, _, .inl (SqL.of hk), by rw [List.length_map]; omega, _, _, .inl (SqL.of hk), by rw [List.length_map]; exact e, by walk_at "om", fun p hp => ?_⟩
   refine fN (K := K) N1 (by split <;> omega) (by show _ < (2 : Int); split <;> omega) (fa (pkT (pQ hl (by decide))) (fa (pkT (pQ (oV (po x hx)) (by decide))) fn)) fun v H' s n' av => ⟨by walk_at "om", fun q hq => ?_⟩
   exact k q (.sh v (.int day)) _ ((sm.trans s).trans (al _ hq)) (az n' rfl) ae ⟨av.1, (av.same (al _ hq)).2.1, ⟨_, rfl⟩⟩
  refine itn k7 ⟨N1, nl, sm _ _ hn, ln, nmn, ⟨hl.1, by have := hl.2; omega⟩, fun q dd H' s n' h1 h2 => k q dd H' (sm.trans s) n' h1 h2⟩
 obtain ⟨u4, hu4, c4⟩ := c4
 refine ⟨_, (af (aT (i := 7) ND rfl (Or.inl rfl) (aG (zi rfl) rfl T.Cz yL (FA.pa (aa ag (aa (aB bf (fv 6) (aB bt (fv 5) ag)) ad)))))
  (af (aT (i := 8) ND rfl (Or.inl rfl) (aG (ou rfl) rfl T.jk gT (FA.pa (aa (fv 0) ad))))
  (af (aT (i := 9) ND rfl (Or.inl rfl) (aB bf (aB bf (aK (aq K) (fv 1) (aB bt (fv 4) ag) (fun _ _ => rfl)) (ak [58])) (aK (aq K) (fv 1) (aB bt (aB dD (fv 4) ag) ag) (fun _ _ => rfl))))
  (af (aS (aY uB (aB bt (fv 4) ag) ag (aO _)) (aj (aT (i := 9) ND rfl (Or.inl rfl) (aB bf (aB bf (aK (aq K) (fv 8) (aB bt (aB dD (fv 4) ag) (aG (dm K) rfl T.g_ eO (FA.pa (aa (fv 8) ad)))) (fun _ _ => rfl)) (ak [58])) (aK (aq K) (fv 1) (aB bt (aB dD (fv 5) ag) ag) (fun _ _ => rfl))))) aD)
  hu4)))), ?_⟩
 walk_at "rd"
 refine ⟨_, as.map (·.pa), R.dc, by rw [List.map_map, List.map_map]; rfl, by rw [List.length_map]; exact len, fun out po _ lk hlk => ?_⟩
 have sm := al (HO.lst (out.map L2.T)) hlk
 have N1 : NoT (upd H lk (HO.lst (out.map L2.T))) := az hN rfl
 have hk : upd H lk (HO.lst (out.map L2.T)) lk = _ := ae
 generalize upd H lk (HO.lst (out.map L2.T)) = H1 at sm N1 hk ⊢
 have hn1 := SqL.of (K := K) (sm _ _ hn)
 have lo : 0 < out.length := by
  rw [po.length_eq, List.length_map]
  exact List.length_pos_iff.mpr ne
 have pout : ∀ x ∈ out, d_ x = true := fun x hx => by
  obtain ⟨c, hc, rfl⟩ := List.mem_map.mp (po.mem_iff.mp hx)
  exact pa c hc
 obtain ⟨n1, nn1, e1⟩ := at5 cell
 obtain ⟨n2, nn2, e2⟩ := at5 (cell / 5)
 have o1 := okn nn1
 have o2 := okn nn2
 refine ⟨_, _, .inl hn1, e1, ?_⟩
 walk_at "rd"
 refine ⟨by omega, _, _, .inl hn1, e2, ?_⟩
 walk_at "rd"
 refine ⟨by rw [List.length_append, List.length_singleton]; omega, ?_⟩
 by_cases h7 : 0 < cell % 7
 ·obtain ⟨x, hx, e⟩ := atm (l := out) (i := cell / 7) lo
  obtain ⟨n3, nn3, e3⟩ := at5 (more / 24)
  have o3 := okn nn3
  have ox := oV (pout x hx)
  refine itp h7 ⟨_, .inl (SqL.of hk), by rw [List.length_map]; omega, _, _, .inl (SqL.of hk), by rw [List.length_map]; exact e, ?_⟩
  walk_at "rd"
  refine ⟨by omega, _, _, .inl hn1, e3, ?_⟩
  walk_at "rd"
  refine ⟨by rw [List.length_append, List.length_singleton]; omega, ?_⟩
  exact c4 _ _ lk out H1 sm N1 (vt ox o3 (by decide)) hk lo pout
 ·exact itn h7 (c4 _ _ lk out H1 sm N1 (vt o1 o2 (by decide)) hk lo pout)
structure Tree (as : List Acc) : Prop where
 pn : ∀ c ∈ as, d_ c.pa = true
 be : ∀ c ∈ as, c.be = upB as c.pa
 up : ∀ c ∈ as, 58 ∈ c.pa -> ∃ u ∈ as, u.pa = rpN 58 c.pa /\ u.ki = c.ki
 ki : ∀ c ∈ as, ∃ l, c.ki = L2.T l
 cu : ∀ c ∈ as, cy c.cu = true
def kds (as : List Acc) : List (Key × V) := (as.filter fun c => !decide (58 ∈ c.pa)).map fun c => (.inr ⟨⟨c.pa⟩⟩, c.ki)
theorem CU {l : List Nat} (h : 58 ∈ l) : ∃ n, l = rpN 58 l ++ 58 :: n /\ 58 ∉ n := by
 obtain ⟨v, n, e, hn⟩ := ny (l := l) fun z => zY.mp z h
 exact ⟨n, by rw [e, pF hn], hn⟩
theorem Tree.root {as : List Acc} (T : Tree as) : ∀ (m : Nat) (c : Acc), c.pa.length <= m -> c ∈ as -> ∃ t ∈ as, 58 ∉ t.pa /\ (spN 58 c.pa)[0]? = some t.pa /\ t.ki = c.ki
 | m, c, hm, hc => by
  by_cases h : 58 ∈ c.pa
  ·obtain ⟨u, hu, e, k⟩ := T.up c hc h
   obtain ⟨n, e2, hn⟩ := CU h
   rw [<- e] at e2
   have l2 : c.pa.length = u.pa.length + (n.length + 1) := by
    have := congrArg List.length e2
    rw [List.length_append, List.length_cons] at this; exact this
   match m, hm with
   | 0, hm => omega
   | m + 1, hm =>
    obtain ⟨t, ht, t1, t2, t3⟩ := T.root m u (by omega) hu
    refine ⟨t, ht, t1, ?_, t3.trans k⟩
    rw [e2, wC hn, List.getElem?_append_left (by
     rcases Nat.eq_zero_or_pos (spN 58 u.pa).length with z | z
     ·exact absurd (List.eq_nil_of_length_eq_zero z) (gj 58 u.pa)
     ·exact z)]
    exact t2
  ·exact ⟨c, hc, h, by rw [sA h]; rfl, rfl⟩
theorem Dy {as : List Acc} (np : (as.map (·.pa)).Nodup) {t : Acc} (ht : t ∈ as) (h : 58 ∉ t.pa) : lV (kds as) (.inr ⟨⟨t.pa⟩⟩) = some t.ki := by
 induction as with
 | nil => cases ht
 | cons b r ih =>
  rw [List.map_cons, List.nodup_cons] at np
  unfold kds
  by_cases hb : 58 ∈ b.pa
  ·rw [List.filter_cons_of_neg (by simpa using hb)]
   rcases List.mem_cons.mp ht with rfl | ht
   ·exact absurd hb h
   ·exact ih np.2 ht
  ·rw [List.filter_cons_of_pos (by simpa using hb), List.map_cons]
   rcases List.mem_cons.mp ht with rfl | ht
   ·exact jb rfl
   ·rw [ib fun z => np.1 (by
     have : b.pa = t.pa := by simpa using z
     rw [this]; exact List.mem_map_of_mem ht)]
    exact ih np.2 ht
def New (H H' : Hp) (hd : Addr) (hs es : List V) : Prop := H' hd = some (.lst (hs ++ es)) /\ Keep [hd] H H' /\ NoT H' /\ ∀ e ∈ es, ∃ q ls, e = .ref q /\ H q = none /\ H' q = some (.lst (List.map L2.T ls)) /\ q ≠ hd
structure Sd (C A : Addr) (H : Hp) (p d r kd : Addr) (ra : List Nat -> Addr) (as : List Acc) : Prop where
 ch : CAt C A H p d as
 rw : RAt H r ra as
 kd : H kd = some (.dK (kds as))
 tr : Tree as
 ln : as.length < 64
theorem FJ (as : List Acc) (l : List Nat) : ((as.filter fun c => decide (rpN 58 c.pa = l)).map fun c => L2.T c.pa) = (upB as l).map L2.T := by
 unfold upB; rw [List.filter_map, List.map_map]; rfl
theorem mY (x : V) : List.lookup (Str.ofString "beneath") [(Str.ofString "by_path", x)] = none := by rw [bu (by decide +kernel)]; rfl
theorem Ak (x : V) : List.lookup (Str.ofString "kind_of") [(Str.ofString "by_path", x)] = none := by rw [bu (by decide +kernel)]; rfl
theorem xg (x : V) : List.lookup (Str.ofString "currency_of") [(Str.ofString "by_path", x)] = none := by rw [bu (by decide +kernel)]; rfl
theorem Ar (x : V) : List.lookup (Str.ofString "span_of") [(Str.ofString "by_path", x)] = none := by rw [bu (by decide +kernel)]; rfl
theorem Ae (x : V) : List.lookup (Str.ofString "is_open") [(Str.ofString "by_path", x)] = none := by rw [bu (by decide +kernel)]; rfl
theorem wH {H : Hp} {x : V} {Q : VK} (h : cy x = true) (q : Q (.bl true) H) : m5 K false x x H Q := by
 cases x with
 | non => walk_at "rd"; simpa using q
 | bl => walk_at "rd"; simpa using q
 | int => walk_at "rd"; simpa using q
 | str => walk_at "rd"; simpa using q
 | _ => cases h
theorem EqR.two {H : Hp} {p q : Addr} {i : Int} {u : Option Int} (hx : SqT K H p [.int i, cl u]) (hy : SqT K H q [.int i, cl u]) : EqR K H p q true := by
 have h := EqR.tup (K := K) (H := H) (e := fun _ => true) hx hy fun n x y gx gy => by
  rw [gx] at gy; cases gy
  have := EqH.flat (K := K) (H := H) (n := 50) (x := x) (y := x)
  match n, gx with
  | 0, gx => cases gx; have h := this rfl rfl; simpa [eqV] using h
  | 1, gx => cases gx; cases u <;> (have h := this rfl rfl; simpa [eqV, cl] using h)
  | n + 2, gx => simp at gx
 exact h
structure Sq (C A : Addr) (H : Hp) (p d r kd : Addr) (ra : List Nat -> Addr) (as : List Acc) : Prop where
 ch : CAt C A H p d as
 rd : Rd H r (.dK (as.map fun c => (.inr ⟨⟨c.pa⟩⟩, .ref (ra c.pa))))
 rw : ∀ c ∈ as, H (ra c.pa) = some (.lst [c.cu, .int c.fi, cl c.un])
 kd : H kd = some (.dK (kds as))
 tr : Tree as
 ln : as.length < 64
theorem Sd.q {C A : Addr} {H : Hp} {p d r kd : Addr} {ra : List Nat -> Addr} {as : List Acc} (S : Sd C A H p d r kd ra as) : Sq C A H p d r kd ra as := ⟨S.ch, .inl S.rw.dc, S.rw.rw, S.kd, S.tr, S.ln⟩
def sp_B3 (C A : Addr) : Sp := sp7 fun x y z l t w h H Q _ => NoT H /\ asR x fun p => asR y fun r => asR z fun kd => asT l fun path => asI t fun day => asI w fun way => asR h fun hd => ∃ d ra as c hs, Sq C A H p d r kd ra as /\ c ∈ as /\ c.pa = path /\ H hd = some (.lst hs) /\ hs.length <= 5000 /\
 ∀ H' es, New H H' hd hs es -> es.length <= 1 -> Q (.bl true) H'
theorem qq (T : Txt K mg a) : bQ P w K mg base (XE P w) 4 a.eC a.jo ["_law_chart", "_law_rows", "_law_kinds", "_law_path", "_law_day", "_law_way", "_law_held"] (sp_B3 a.aH a.ay) := by
 refine T.gE.okX jc (fun vs H Q E h => sp7.len h) (fun cdv A outer s H vs Q E hr h => ?_)
 obtain ⟨x0, x1, x2, x3, x4, x5, x6, rfl, h⟩ := sp7.inv h
 try dsimp only [sp_B3, sp7] at h
 have ND := jc.nd
 have HU := bx hr
 obtain ⟨hN, h1⟩ := h
 obtain ⟨p, rfl, h2⟩ := asR.inv h1
 obtain ⟨r, rfl, h3⟩ := asR.inv h2
 obtain ⟨kd, rfl, h4⟩ := asR.inv h3
 obtain ⟨path, rfl, h5⟩ := asT.inv h4
 obtain ⟨day, rfl, h6⟩ := asI.inv h5
 obtain ⟨way, rfl, h7⟩ := asI.inv h6
 obtain ⟨hd, rfl, d, ra, as, c, hs, S, hc, pc, hh, lh, k⟩ := asR.inv h7
 have pc : c.pa = path := pc
 subst pc
 have sz := szl
 have G_Chart_beneath := @jx P w K mg base a T
 have b_Chart_beneath := iM T.gb
 have G_Chart_is_open := @ji P w K mg base a T
 have b_Chart_is_open := iX T.f_
 have G_Chart_span_of := @jv P w K mg base a T
 have b_Chart_span_of := iW T.gu
 have G_Chart_currency_of := @fV P w K mg base a T
 have b_Chart_currency_of := fL T.dX
 have G_Chart_kind_of := @jf P w K mg base a T
 have b_Chart_kind_of := jD T.gm
 have G_Chart_has := @jH P w K mg base a T
 have b_Chart_has := jU T.ip
 have c6 : ∃ u, PSs (fz (XE P w) P w K mg base ["_law_chart", "_law_rows", "_law_kinds", "_law_path", "_law_day", "_law_way", "_law_held", "_law_currency", "_law_first", "_law_end", "_law_span", "_law_found", "_law_due_here", "_law_below"] "_law_way_good" (ai bH) a.eC cdv A outer s H E) (List.drop 6 (aC bH)) u /\ ∀ (x7 x8 x9 : V),
  u { nx := fun _ H' => Q .non H', rt := Q } [some (.ref p), some (.ref r), some (.ref kd), some (L2.T c.pa), some (.int day), some (.int way), some (.ref hd), some x7, some x8, some x9, none, none, none, none] H := by
  refine ⟨_, (af (aT (i := 12) ND rfl (Or.inl rfl) (aG (wL K) rfl T.jk gT (FA.pa (aa (Em (dt rfl (cl := _) (x := "_law_other") (xs := ["_law_other"]) (fr := ["_law_path"]) (ks := [3]) (by exact ⟨rfl, by decide +kernel, rfl, by decide +kernel, rfl, cI rfl, rfl, aW rfl, aW (k := fun y => List.lookup y _) rfl, cJ rfl⟩) rfl (Ai (fv 1)) (fun _ _ _ _ _ => (bv (i := 0) (fQ (l := ["_law_other", "_law_path"]) (by decide)) rfl (Or.inl rfl))) (fun _ _ _ _ _ => (jQ (aY (bo K HU) (aK (aq K) (cW K PySem.F.plainAttrs_str PySem.F.slot_str_rpartition PySem.F.type_str_rpartition wS (fv 0) (FA.pa (aa (ak [58]) ad))) ag (fun _ _ => rfl)) (fv 1) (aO _)))) (fun _ _ _ _ _ => (fv 0)))) ad))))
   (af (aT (i := 13) ND rfl (Or.inl rfl) (bi (fv 0) T.aR T.fF G_Chart_beneath (hr.mono (by decide)) b_Chart_beneath .nil bb (FA.pa (aa (fv 3) ad))))
   (af (aS (L2.PW.pt (lK (cc (b_ (aG (bI K) rfl T.aP aJ (FA.pa (aa (fv 13) (aa (cU (v := .ty "list") rfl T.yx vk rfl) ad)))))) (hR (aY (iK K HU) (fv 13) (fv 12) (aO _))))) (aj (aA eh)) aD)
   (af (cZ (cW K PySem.F.plainAttrs_list PySem.F.slot_list_append PySem.F.type_list_append eZ (fv 13) (FA.pa (aa (ak [109, 111, 114, 101]) ad))))
   (af (cZ (cW K PySem.F.plainAttrs_list PySem.F.slot_list_append PySem.F.type_list_append eZ (fv 6) (FA.pa (aa (bi (fv 0) T.aR T.fF G_Chart_beneath (hr.mono (by decide)) b_Chart_beneath .nil bb (FA.pa (aa (fv 3) ad))) ad))))
   (aj (aA (cz (bo K HU) (aK (aq K) (fv 6) (qQ kJ ag) (fun _ _ => rfl)) (fv 12) (aO _))))))))), fun x7 x8 x9 => ?_⟩
  walk_at "rd"
  refine GV ?_
  walk_at "rd"
  refine ⟨r, _, rfl, rfl, S.rd, fun o hor => BN as (fun c => .ref (ra c.pa)) hor (by have := S.ln; omega) hN (fun c' => decide (rpN 58 c'.pa = c.pa)) (fun c' => L2.T c'.pa) (fun c' hc' F R nF kp rd q => ?_) (fun c' hc' F R kp rd q => ?_) (fun D G hD s2 N2 g2 => ?_)⟩
  ·walk_at "rd"
   refine ⟨by have := (oV (S.tr.pn c' hc')).2; omega, fun p b e hp => ⟨_, _, .inr (SqT.of ae), aE (j := 0) rfl, ?_⟩⟩
   have q1 := q _ (al (HO.tup [L2.T (rpN 58 c'.pa), L2.T b, L2.T e]) hp) (az nF rfl)
   walk_at "rd"
   exact q1
  ·exact q
  rw [FJ] at g2
  have lb : ∀ l, (upB as l).length < 64 := fun l => Nat.lt_of_le_of_lt (List.length_filter_le _ _) (by rw [List.length_map]; exact S.ln)
  walk_at "rd"
  refine ⟨_, SqL.of g2, lb _, fun out po io q1 hq1 => ?_⟩
  have s3 := s2.trans (al (HO.lst (out.map L2.T)) hq1)
  have N3 : NoT (upd G q1 (HO.lst (out.map L2.T))) := az N2 rfl
  have h3 : upd G q1 (HO.lst (out.map L2.T)) q1 = _ := ae
  have f1 := s2.free hq1
  generalize upd G q1 (HO.lst (out.map L2.T)) = H3 at s3 N3 h3 ⊢
  have J3 := S.ch.same s3
  obtain ⟨dx, hp3⟩ := J3.ob
  have ef : fY as (L2.T c.pa) = some c := we S.ch.np hc
  have be64 : ∀ c ∈ as, c.be.length < 64 := fun c hc => by rw [S.tr.be c hc]; exact lb _
  refine ⟨_, _, hp3, mY _, N3, d, as, J3, be64, ?_⟩
  rw [ef]
  intro out2 po2 io2 q2 hq2
  rw [S.tr.be c hc] at po2
  have e2 : out2 = out := jE (po2.trans po.symm) io2 io
  subst e2
  have s4 := s3.trans (al (HO.lst (out2.map L2.T)) hq2)
  have N4 : NoT (upd H3 q2 (HO.lst (out2.map L2.T))) := az N3 rfl
  have h4 : upd H3 q2 (HO.lst (out2.map L2.T)) q2 = _ := ae
  have h41 := (al (HO.lst (out2.map L2.T)) hq2) _ _ h3
  have f2 := s3.free hq2
  have n12 : q1 ≠ q2 := au h3 hq2
  generalize upd H3 q2 (HO.lst (out2.map L2.T)) = H4 at s4 N4 h4 h41 ⊢
  have ke : cN H4 (.ref q2) = some "list" := by simp [cN, h4]
  simp only [ke]
  refine itn (by decide) ?_
  walk_at "rd"
  have fl : ((out2.map L2.T).all cy) = true := ma out2
  refine ⟨_, EqR.flatL (SqL.of h4) (SqL.of h41) fl, ?_⟩
  walk_at "rd"
  have lo : out2.length < 64 := by rw [po2.length_eq]; exact lb _
  refine ⟨.inl ⟨_, SqL.of h4⟩, q2, _, _, rfl, rfl, h4, by rw [List.length_map]; omega, ?_⟩
  have s5 := jK (o := HO.lst (out2.map L2.T ++ [L2.T [109, 111, 114, 101]])) s4 f2
  have N5 : NoT (upd H4 q2 (HO.lst (out2.map L2.T ++ [L2.T [109, 111, 114, 101]]))) := az N4 rfl
  have h51 : upd H4 q2 (HO.lst (out2.map L2.T ++ [L2.T [109, 111, 114, 101]])) q1 = _ := (ar n12).trans h41
  generalize upd H4 q2 (HO.lst (out2.map L2.T ++ [L2.T [109, 111, 114, 101]])) = H5 at s5 N5 h51 ⊢
  have J5 := S.ch.same s5
  obtain ⟨dx5, hp5⟩ := J5.ob
  refine ⟨.inl ⟨_, SqL.of (s5 _ _ hh)⟩, _, _, hp5, mY _, N5, d, as, J5, be64, ?_⟩
  rw [ef]
  intro out3 po3 io3 q3 hq3
  rw [S.tr.be c hc] at po3
  have e3 : out3 = out2 := jE (po3.trans po2.symm) io3 io2
  subst e3
  have s6 := s5.trans (al (HO.lst (out3.map L2.T)) hq3)
  have N6 : NoT (upd H5 q3 (HO.lst (out3.map L2.T))) := az N5 rfl
  have h6 : upd H5 q3 (HO.lst (out3.map L2.T)) q3 = _ := ae
  have h61 := (al (HO.lst (out3.map L2.T)) hq3) _ _ h51
  have f3 := s5.free hq3
  generalize upd H5 q3 (HO.lst (out3.map L2.T)) = H6 at s6 N6 h6 h61 ⊢
  have n1 : q1 ≠ hd := Ne.symm (au hh f1)
  have n3 : q3 ≠ hd := Ne.symm (au hh f3)
  refine ⟨hd, hs, _, rfl, rfl, s6 _ _ hh, by rw [sizeLine_eq]; omega, _, _, .inl (SqL.of ae), pC _ _, ?_⟩
  walk_at "rd"
  refine ⟨_, EqR.flatL (SqL.of ((ar n3).trans h6)) (SqL.of ((ar n1).trans h61)) fl, ?_⟩
  refine k _ [.ref q3] ⟨ae, (Keep.same s6).put (.head _), az N6 rfl, fun e he => ?_⟩ (Nat.le_refl 1)
  rw [List.mem_singleton.mp he]
  exact ⟨q3, out3, rfl, f3, (ar n3).trans h6, n3⟩
 obtain ⟨u6, hu6, c6⟩ := c6
 refine ⟨_, (af (sJ (fK (Nat.lt_of_le_of_lt (Nat.add_le_add_left (by decide) _) HU) (fv 1) (fv 3) (fun _ _ => rfl)) (Eh K (n := 3) rfl (g0 (bv (i := 7) ND rfl (Or.inl rfl)) (g0 (bv (i := 8) ND rfl (Or.inl rfl)) (g0 (bv (i := 9) ND rfl (Or.inl rfl)) vX)))))
  (af (aS (aY (bo K HU) (fv 5) ag (aO _)) (aj (aA (lO (FR (bi (fv 0) T.aR T.jJ G_Chart_has (hr.mono (by decide)) b_Chart_has .nil bb (FA.pa (aa (fv 3) ad))))))) aD)
  (af (aS (aY (bo K HU) (fv 5) ag (aO _)) (aj (aA (cz (bo K HU) (bi (fv 0) T.aR T.i3 G_Chart_kind_of (hr.mono (by decide)) b_Chart_kind_of .nil bb (FA.pa (aa (fv 3) ad))) (fK (Nat.lt_of_le_of_lt (Nat.add_le_add_left (by decide) _) HU) (fv 2) (aK (aq K) (cW K PySem.F.plainAttrs_str PySem.F.slot_str_split PySem.F.type_str_split oM (fv 3) (FA.pa (aa (ak [58]) ad))) ag (fun _ _ => rfl)) (fun _ _ => rfl)) (aO _)))) aD)
  (af (aS (aY (bo K HU) (fv 5) ag (aO _)) (aj (aA (cz (bo K HU) (bi (fv 0) T.aR T.fX G_Chart_currency_of (hr.mono (by decide)) b_Chart_currency_of .nil bb (FA.pa (aa (fv 3) ad))) (fv 7) (aO _)))) aD)
  (af (aS (aY (bo K HU) (fv 5) ag (aO _)) (af (aT (i := 10) ND rfl (Or.inl rfl) (bi (fv 0) T.aR T.jj G_Chart_span_of (hr.mono (by decide)) b_Chart_span_of .nil bb (FA.pa (aa (fv 3) ad))))
  (aj (aA (eU (aG (bI K) rfl T.aP aJ (FA.pa (aa (fv 10) (aa (cU (v := .ty "tuple") rfl T.Eb Cf rfl) ad)))) (d5 (cz (bo K HU) (fv 10) (cR (FA.pa (aa (fv 8) (aa (fv 9) ad)))) (aO _))))))) aD)
  (af (aS (aY (bo K HU) (fv 5) ag (aO _)) (af (aT (i := 11) ND rfl (Or.inl rfl) (bi (fv 0) T.aR T.iS G_Chart_is_open (hr.mono (by decide)) b_Chart_is_open .nil bb (FA.pa (aa (fv 3) (aa (fv 4) ad)))))
  (aj (aA (eU (aG (bI K) rfl T.aP aJ (FA.pa (aa (fv 11) (aa (cU (v := .ty "bool") rfl T.yZ vB rfl) ad)))) (d5 (cz (bo K HU) (fv 11) (eU (cz gH (fv 8) (fv 4) (aO _)) (d5 (Ax (lO (mZ (fv 9))) (d5 (cz uV (fv 4) (fv 9) (aO _)))))) (aO _))))))) aD)
  hu6)))))), ?_⟩
 walk_at "rd"
 obtain ⟨dx, hp⟩ := S.ch.ob
 have ef : fY as (L2.T c.pa) = some c := we S.ch.np hc
 have kn : ∀ H', Same H H' -> NoT H' -> Q (.bl true) H' := fun H' s n => k H' [] ⟨by rw [List.append_nil]; exact s _ _ hh, Keep.same s, n, fun _ m => nomatch m⟩ (Nat.zero_le _)
 refine ⟨r, _, rfl, wm S.rd hc, _, _, rfl, SqL.of (S.rw c hc), rfl, _, _, rfl, _, _, rfl, _, _, rfl, rfl, ?_⟩
 by_cases w0 : way = 0
 ·refine itp w0 ⟨_, _, hp, yM _, hN, d, as, S.ch, ?_⟩
  rw [show vz as (L2.T c.pa) = true by rw [s_, ef]; rfl]
  exact kn _ (Same.refl _) hN
 refine itn w0 ?_
 by_cases w1 : way = 1
 ·refine itp w1 ⟨_, _, hp, Ak _, hN, d, as, S.ch, ?_⟩
  rw [ef]
  have lp := (oV (S.tr.pn c hc)).2
  refine ⟨by omega, fun p2 hp2 => ?_⟩
  have s2 := al (HO.lst ((spN 58 c.pa).map L2.T)) hp2
  obtain ⟨t, ht, t1, t2, t3⟩ := S.tr.root _ c (Nat.le_refl _) hc
  refine ⟨_, _, .inl (SqL.of ae), aE (j := 0) (by rw [List.getElem?_map, t2]; rfl), ?_⟩
  have g := DGet.k (k := .inr ⟨⟨t.pa⟩⟩) (s2 _ _ S.kd)
  rw [Dy S.ch.np ht t1] at g
  refine ⟨kd, _, rfl, g, ?_⟩
  obtain ⟨l, el⟩ := S.tr.ki c hc
  rw [t3, el]
  exact wH rfl (kn _ s2 (az hN rfl))
 refine itn w1 ?_
 by_cases w2 : way = 2
 ·refine itp w2 ⟨_, _, hp, xg _, hN, d, as, S.ch, ?_⟩
  rw [ef]
  exact wH (S.tr.cu c hc) (kn _ (Same.refl _) hN)
 refine itn w2 ?_
 by_cases w3 : way = 3
 ·refine itp w3 ⟨_, _, hp, Ar _, hN, d, as, S.ch, ?_⟩
  rw [ef]
  intro q hq
  have ke : cN (upd H q (HO.tup [V.int c.fi, cl c.un])) (.ref q) = some "tuple" := by simp [cN, ae]
  simp only [ke]
  refine itp rfl ?_
  walk_at "rd"
  refine ⟨by walk_at "om", fun q2 hq2 => ⟨_, EqR.two (SqT.of ((al _ hq2) _ _ ae)) (SqT.of ae), ?_⟩⟩
  exact kn _ ((al _ hq).trans (al _ hq2)) (az (az hN rfl) rfl)
 refine itn w3 ?_
 by_cases w4 : way = 4
 ·refine itp w4 ⟨_, _, hp, Ae _, hN, d, as, S.ch, ?_⟩
  rw [ef]
  walk_at "rd"
  show ite _ _ _
  by_cases h1 : c.fi <= day
  ·refine itp h1 ?_
   cases un : c.un with
   | none =>
    refine itp rfl ?_
    rw [show opn c.fi none day = true by unfold opn; rw [decide_eq_true h1]; rfl]
    exact kn _ (Same.refl _) hN
   | some t =>
    refine itn (by intro z; cases z) ?_
    walk_at "rd"
    rw [show opn c.fi (some t) day = decide (day < t) by unfold opn; rw [decide_eq_true h1]; rfl]
    show m5 K false (V.bl (decide (day < t))) (V.bl (decide (day < t))) H Q
    exact wH rfl (kn _ (Same.refl _) hN)
  ·refine itn h1 ?_
   rw [show opn c.fi c.un day = false by unfold opn; rw [decide_eq_false h1]; rfl]
   exact kn _ (Same.refl _) hN
 exact itn w4 (c6 _ _ _)
theorem Sd.same {C A : Addr} {H H' : Hp} {p d r kd : Addr} {ra : List Nat -> Addr} {as : List Acc} (S : Sd C A H p d r kd ra as) (s : Same H H') : Sd C A H' p d r kd ra as := ⟨S.ch.same s, S.rw.same s, s _ _ S.kd, S.tr, S.ln⟩
theorem Sd.keep {C A : Addr} {X : List Addr} {H H' : Hp} {p d r kd : Addr} {ra : List Nat -> Addr} {as : List Acc} (S : Sd C A H p d r kd ra as) (s : Keep X H H') (h1 : p ∉ X /\ d ∉ X /\ r ∉ X /\ kd ∉ X) (h2 : ∀ c ∈ as, c.ob ∉ X /\ c.bl ∉ X /\ ra c.pa ∉ X) : Sd C A H' p d r kd ra as :=
 ⟨S.ch.keep s h1.1 h1.2.1 fun c hc => ⟨(h2 c hc).1, (h2 c hc).2.1⟩, ⟨s _ _ S.rw.dc h1.2.2.1, fun c hc => s _ _ (S.rw.rw c hc) (h2 c hc).2.2⟩, s _ _ S.kd h1.2.2.2, S.tr, S.ln⟩
def Off (hd : Addr) (ra : List Nat -> Addr) (as : List Acc) : Prop := ∀ c ∈ as, c.bl ≠ hd /\ ra c.pa ≠ hd
theorem Sq.held {C A : Addr} {hd : Addr} {H H' : Hp} {p d r kd : Addr} {ra : List Nat -> Addr} {as : List Acc} {hs : List V} (S : Sq C A H p d r kd ra as) (s : Keep [hd] H H') (hh : H hd = some (.lst hs)) (o : Off hd ra as) : Sq C A H' p d r kd ra as := by
 obtain ⟨dx, hp⟩ := S.ch.ob
 have n : ∀ {x : Addr} {o : HO}, H x = some o -> (∀ l, o ≠ .lst l) -> x ∉ [hd] := fun e q m => bj e hh (fun z => q _ z) (List.mem_singleton.mp m)
 refine ⟨S.ch.keep s (n hp (by intro _ z; cases z)) (n S.ch.dc (by intro _ z; cases z)) fun c hc => ⟨?_, by simpa using (o c hc).1⟩, ?_, fun c hc => s _ _ (S.rw c hc) (by simpa using (o c hc).2), s _ _ S.kd (n S.kd (by intro _ z; cases z)), S.tr, S.ln⟩
 ·obtain ⟨dc, ho⟩ := (S.ch.ac c hc).ob
  exact n ho (by intro _ z; cases z)
 ·rcases S.rd with e | ⟨q, e⟩
  ·exact .inl (s _ _ e (n e (by intro _ z; cases z)))
  ·exact .inr ⟨q, s _ _ e (n e (by intro _ z; cases z))⟩
theorem Sd.held {C A : Addr} {hd : Addr} {H H' : Hp} {p d r kd : Addr} {ra : List Nat -> Addr} {as : List Acc} {hs : List V} (S : Sd C A H p d r kd ra as) (s : Keep [hd] H H') (hh : H hd = some (.lst hs)) (o : Off hd ra as) : Sd C A H' p d r kd ra as := by
 obtain ⟨dx, hp⟩ := S.ch.ob
 refine S.keep s ⟨?_, ?_, ?_, ?_⟩ fun c hc => ⟨?_, ?_, ?_⟩
 ·simpa using bj hp hh
 ·simpa using bj S.ch.dc hh
 ·simpa using bj S.rw.dc hh
 ·simpa using bj S.kd hh
 ·obtain ⟨dc, ho⟩ := (S.ch.ac c hc).ob
  simpa using bj ho hh
 ·simpa using (o c hc).1
 ·simpa using (o c hc).2
theorem New.trans {H H1 H2 : Hp} {hd : Addr} {hs es es' : List V} (a : New H H1 hd hs es) (b : New H1 H2 hd (hs ++ es) es') : New H H2 hd hs (es ++ es') := by
 obtain ⟨a1, a2, a3, a4⟩ := a
 obtain ⟨b1, b2, b3, b4⟩ := b
 refine ⟨by rw [<- List.append_assoc]; exact b1, a2.trans b2, b3, fun e he => ?_⟩
 rcases List.mem_append.mp he with h | h
 ·obtain ⟨q, ls, e1, e2, e3, e4⟩ := a4 e h
  exact ⟨q, ls, e1, e2, b2 _ _ e3 (by simpa using e4), e4⟩
 ·obtain ⟨q, ls, e1, e2, e3, e4⟩ := b4 e h
  exact ⟨q, ls, e1, a2.free e2 (by simpa using e4), e3, e4⟩
theorem New.refl {H : Hp} {hd : Addr} {hs : List V} (hN : NoT H) (hh : H hd = some (.lst hs)) : New H H hd hs [] := ⟨by rw [List.append_nil]; exact hh, Keep.refl, hN, fun _ m => nomatch m⟩
theorem oN {ta : TA} {g : TG} {tb : TS} {D : kh} {σ : St} {H : Hp} (h : ta σ H fun vs H1 => ∃ j : Int, vs = [.int j] /\ -(2 ^ 62) <= j /\ j < 2 ^ 62 /\ FE (Itr 0 j.toNat) g tb D σ H1) : BD (Di ta) g tb D σ H := h
def sp_Cj (C A : Addr) : Sp := sp7 fun x y z l t h w H Q _ => NoT H /\ asR x fun p => asR y fun r => asR z fun kd => asT l fun path => asI t fun day => asR h fun hd => asI w fun turn => ∃ d ra as c hs, Sq C A H p d r kd ra as /\ c ∈ as /\ c.pa = path /\ H hd = some (.lst hs) /\ hs.length <= 4000 /\ Off hd ra as /\
 ∀ H' es, New H H' hd hs es -> es.length <= 6 -> Q (.bl true) H'
theorem jm (T : Txt K mg a) : bQ P w K mg base (XE P w) 5 a.gF a.iY ["_law_chart", "_law_rows", "_law_kinds", "_law_path", "_law_day", "_law_held", "_law_turn"] (sp_Cj a.aH a.ay) := by
 refine T.dv.okX jp (fun vs H Q E h => sp7.len h) (fun cdv A outer s H vs Q E hr h => ?_)
 obtain ⟨x0, x1, x2, x3, x4, x5, x6, rfl, h⟩ := sp7.inv h
 try dsimp only [sp_Cj, sp7] at h
 have ND := jp.nd
 obtain ⟨hN, h1⟩ := h
 obtain ⟨p, rfl, h2⟩ := asR.inv h1
 obtain ⟨r, rfl, h3⟩ := asR.inv h2
 obtain ⟨kd, rfl, h4⟩ := asR.inv h3
 obtain ⟨path, rfl, h5⟩ := asT.inv h4
 obtain ⟨day, rfl, h6⟩ := asI.inv h5
 obtain ⟨hd, rfl, h7⟩ := asR.inv h6
 obtain ⟨turn, rfl, d, ra, as, c, hs, S, hc, pc, hh, lh, off, k⟩ := asI.inv h7
 have pc : c.pa = path := pc
 subst pc
 have sz := szl
 have G__law_way_good := @qq P w K mg base a T
 have b__law_way_good := qF T.gE
 refine ⟨_, (af (kL (by passes_own) rfl (dA rfl T.eG (FA.pa (aa ag ad))) (bv (i := 7) ND rfl (Or.inl rfl)) (aj (aS (cc (b_ (aN G__law_way_good (hr.mono (by decide)) rfl T.rN T.gE.kp b__law_way_good .nil bb (FA.pa (aa (fv 0) (aa (fv 1) (aa (fv 2) (aa (fv 3) (aa (fv 4) (aa (aB bt (aB bf (fv 6) (aB lw (fv 7) (dw (FA.pa (aa ag (aa ag ad))) (aB bt (aB dD (fv 6) ag) ag) (fun _ _ => rfl)))) ag) (aa (fv 5) ad))))))))))) (aj (aA eh)) aD)))
  (aj (aA eh))), ?_⟩
 walk_at "rd"
 refine oN ?_
 walk_at "rd"
 refine l_ (lo := 0) (n := 6) (fun i σ' H' => ∃ es x7, New H H' hd hs es /\ es.length <= i /\ σ' = [some (.ref p), some (.ref r), some (.ref kd), some (L2.T c.pa), some (.int day), some (.ref hd), some (.int turn), x7]) ⟨[], none, New.refl hN hh, Nat.zero_le _, rfl⟩ ?_ ?_
 ·rintro i σ' H1 hi ⟨es, x7, n1, le, rfl⟩
  walk_at "rd"
  refine ⟨n1.2.2.1, by walk_at "om", fun p1 hp1 => ?_⟩
  refine AJ (ns := [1, 5]) (by omega) (by show _ < (2 : Int); omega) ?_
  generalize List.getD [1, 5] (turn / 6 % 2).toNat (0 : Int) = m
  walk_at "rd"
  refine ⟨.inl (by omega), n1.2.2.1, d, ra, as, c, hs ++ es, S.held n1.2.1 hh off, hc, rfl, n1.1, by rw [List.length_append]; omega, fun H' es' n2 le2 => ⟨es ++ es', _, n1.trans n2, by rw [List.length_append]; omega, rfl⟩⟩
 ·rintro σ' H1 ⟨es, x7, n1, le, rfl⟩
  walk_at "rd"
  exact k _ es n1 le
theorem qT (x : V) : List.lookup (Str.ofString "accounts") [(Str.ofString "by_path", x)] = none := by rw [bu (by decide +kernel)]; rfl
def sp_ye (C A : Addr) : Sp := sp4 fun x w th t H Q _ => NoT H /\ asR x fun p => asI w fun way => asI t fun day => asK H th fun _ => ∃ d as, CAt C A H p d as /\ (∀ c ∈ as, c.be.length < 64) /\ fY as th = none /\ 0 <= way /\ way < 5 /\ Q (L2.T yH) H
theorem uh (T : Txt K mg a) : bQ P w K mg base (XE P w) 5 a.jG a.mR ["_law_chart", "_law_way", "_law_thing", "_law_day"] (sp_ye a.aH a.ay) := by
 refine T.jR.okG mT (fun vs H Q E h => sp4.len h) (fun cdv A outer s H vs Q E hr h => ?_)
 obtain ⟨x0, x1, x2, x3, rfl, h⟩ := sp4.inv h
 try dsimp only [sp_ye, sp4] at h
 have ND := mT.nd
 have HU := bx hr
 obtain ⟨hN, h1⟩ := h
 obtain ⟨p, rfl, h2⟩ := asR.inv h1
 obtain ⟨way, rfl, h3⟩ := asI.inv h2
 obtain ⟨day, rfl, h4⟩ := asI.inv h3
 obtain ⟨t, ht, _, d, as, J, b64, ef, w0, w5, k⟩ := asK.inv h4
 have sz := szl
 obtain ⟨dx, hp⟩ := J.ob
 have fin := lU (K := K) (a := a) (Q := fun v H' => ∃ G, Gc H G H' /\ Q v G) hN (i := 6) T.db rfl fun H' s _ => ⟨H, Gc.none s, k⟩
 have G_Chart_beneath := @jx P w K mg base a T
 have b_Chart_beneath := iM T.gb
 have G_Chart_is_open := @ji P w K mg base a T
 have b_Chart_is_open := iX T.f_
 have G_Chart_span_of := @jv P w K mg base a T
 have b_Chart_span_of := iW T.gu
 have G_Chart_currency_of := @fV P w K mg base a T
 have b_Chart_currency_of := fL T.dX
 have G_Chart_kind_of := @jf P w K mg base a T
 have b_Chart_kind_of := jD T.gm
 have G__law_word := @n8 P w K mg base a T
 have b__law_word := pz T.fZ
 refine ⟨hN, _, (af (Da (i := 4) ND rfl rfl rfl T.oO rfl rfl rfl (fun pn Ee Ex PX => (af (aS (aY (bo K HU) (fv 1) ag (aO _)) (aj (cZ (bi (fv 0) T.aR T.i3 G_Chart_kind_of (hr.mono (by decide)) b_Chart_kind_of .nil PX (FA.pa (aa (fv 2) ad))))) aD)
  (af (aS (aY (bo K HU) (fv 1) ag (aO _)) (aj (cZ (bi (fv 0) T.aR T.fX G_Chart_currency_of (hr.mono (by decide)) b_Chart_currency_of .nil PX (FA.pa (aa (fv 2) ad))))) aD)
  (af (aS (aY (bo K HU) (fv 1) ag (aO _)) (aj (cZ (bi (fv 0) T.aR T.jj G_Chart_span_of (hr.mono (by decide)) b_Chart_span_of .nil PX (FA.pa (aa (fv 2) ad))))) aD)
  (af (aS (aY (bo K HU) (fv 1) ag (aO _)) (aj (cZ (bi (fv 0) T.aR T.iS G_Chart_is_open (hr.mono (by decide)) b_Chart_is_open .nil PX (FA.pa (aa (fv 2) (aa (fv 3) ad)))))) aD)
  (aj (aS (aY (bo K HU) (fv 1) ag (aO _)) (aj (cZ (bi (fv 0) T.aR T.fF G_Chart_beneath (hr.mono (by decide)) b_Chart_beneath .nil PX (FA.pa (aa (fv 2) ad))))) aD))))))) (fun e => (aj (aA (yb G__law_word (Room.toC hr (by decide)) rfl T.qW T.fZ.kp b__law_word .nil mQ (FA.pa (aa (fv 4) ad)))))))
  (aj (aA (ak [])))), ?_⟩
 walk_at "rd"
 by_cases e0 : way = 0
 ·refine itp e0 ⟨_, _, hp, Ak _, hN, asK.of ht ⟨d, as, J, ?_⟩⟩
  rw [ef]; exact fin
 refine itn e0 ?_
 by_cases e1 : way = 1
 ·refine itp e1 ⟨_, _, hp, xg _, hN, asK.of ht ⟨d, as, J, ?_⟩⟩
  rw [ef]; exact fin
 refine itn e1 ?_
 by_cases e2 : way = 2
 ·refine itp e2 ⟨_, _, hp, Ar _, hN, asK.of ht ⟨d, as, J, ?_⟩⟩
  rw [ef]; exact fin
 refine itn e2 ?_
 by_cases e3 : way = 3
 ·refine itp e3 ⟨_, _, hp, Ae _, hN, asK.of ht ⟨d, as, J, ?_⟩⟩
  rw [ef]; exact fin
 refine itn e3 (itp (show way = 4 by omega) ⟨_, _, hp, mY _, hN, asK.of ht ⟨d, as, J, b64, ?_⟩⟩)
 rw [ef]; exact fin
def sp_Az (C A : Addr) : Sp := sp4 fun x y th t H Q _ => NoT H /\ asR x fun p => asR y fun r => asI t fun day => asK H th fun _ => ∃ d kd ra as, Sd C A H p d r kd ra as /\ Q (.bl true) H
theorem oA (T : Txt K mg a) : bQ P w K mg base (XE P w) 6 a.dR a.il ["_law_chart", "_law_rows", "_law_thing", "_law_day"] (sp_Az a.aH a.ay) := by
 refine T.fE.okG og (fun vs H Q E h => sp4.len h) (fun cdv A outer s H vs Q E hr h => ?_)
 obtain ⟨x0, x1, x2, x3, rfl, h⟩ := sp4.inv h
 try dsimp only [sp_Az, sp4] at h
 have HU := bx hr
 obtain ⟨hN, h1⟩ := h
 obtain ⟨p, rfl, h2⟩ := asR.inv h1
 obtain ⟨r, rfl, h3⟩ := asR.inv h2
 obtain ⟨day, rfl, h4⟩ := asI.inv h3
 obtain ⟨t, ht, _, d, kd, ra, as, S, k⟩ := asK.inv h4
 have sz := szl
 obtain ⟨dx, hp⟩ := S.ch.ob
 have G__law_asked := @uh P w K mg base a T
 have b__law_asked := ui T.jR
 have G_Chart_has := @jH P w K mg base a T
 have b_Chart_has := jU T.ip
 have c1 : ∃ u, PSs (fz (XE P w) P w K mg base ["_law_chart", "_law_rows", "_law_thing", "_law_day"] "_law_none_good" (ai bC) a.dR cdv A outer s H (gcE H E)) (List.drop 1 (aC bC)) u /\ (fY as x2 = none -> u { nx := fun _ H' => ∃ G, Gc H G H' /\ Q .non G, rt := fun v H' => ∃ G, Gc H G H' /\ Q v G } [some (.ref p), some (.ref r), some x2, some (.int day)] H) := by
  refine ⟨_, (af (aS (gP (Ev (bi (fv 0) T.aR T.jJ G_Chart_has (hr.mono (by decide)) b_Chart_has .nil bb (FA.pa (aa (fv 2) ad))))) (aj (aA eh)) aD)
   (aj (aA (cz (bo K HU) (dt rfl (cl := _) (x := "_law_way") (xs := ["_law_way"]) (fr := ["_law_chart", "_law_thing", "_law_day"]) (ks := [0, 2, 3]) (by exact ⟨rfl, by decide +kernel, rfl, by decide +kernel, rfl, cI rfl, rfl, aW rfl, aW (k := fun y => List.lookup y _) rfl, cJ rfl⟩) rfl (dA rfl T.eG (FA.pa (aa ag ad))) (fun _ _ _ _ _ => (bv (i := 0) (fQ (l := ["_law_way", "_law_chart", "_law_thing", "_law_day"]) (by decide)) rfl (Or.inl rfl))) (fun _ _ _ _ _ => (jQ (aY (iK K HU) (aN G__law_asked (hr.mono (by decide)) rfl T.wb T.jR.kp b__law_asked .nil mQ (FA.pa (aa (fv 1) (aa (fv 0) (aa (fv 2) (aa (fv 3) ad)))))) (ak [97, 99, 99, 111, 117, 110, 116]) (aO _)))) (fun _ _ _ _ _ => (fv 0))) (bU (FA.pa ad)) (aO _))))), fun ef => ?_⟩
  walk_at "rd"
  refine ⟨_, _, hp, yM _, hN, asK.of ht ⟨d, as, S.ch, ?_⟩⟩
  rw [s_, ef]
  refine itp rfl (cmR (fun H' => NoT H' /\ Same H H') (fun D ys hD => ⟨az hN rfl, al _ hD⟩) 5 (fun _ => false) (fun j : Nat => .int j) (fun R r => ?_) (by omega) (fun j hj H' R c r => ?_) (fun j hj z => nomatch z) (fun D hD => ⟨Nat.zero_le _, fun p1 hp1 => ?_⟩))
  ·walk_at "rd"
   exact r
  ·walk_at "rd"
   refine ⟨c.1, asK.of (e6 c.2 ht) ⟨d, as, S.ch.same c.2, fun c hc => ?_, ef, by omega, by omega, ?_⟩⟩
   ·rw [S.tr.be c hc]; exact Nat.lt_of_le_of_lt (List.length_filter_le _ _) (by rw [List.length_map]; exact S.ln)
   ·exact r
  ·walk_at "rd"
   refine ⟨_, sf (SqL.same (al _ hp1) (SqL.of ae)) (SqL.of ae), H, Gc.none ((al _ hD).trans (al _ hp1)), ?_⟩
   rw [List.filter_eq_nil_iff.mpr (by simp)]
   exact k
 obtain ⟨u1, hu1, c1⟩ := c1
 refine ⟨hN, _, (af (aS (L2.PW.pt (wd (b_ (aG (bI K) rfl T.aP aJ (FA.pa (aa (fv 2) (aa (cU (v := .ty "str") rfl T.sR nB rfl) ad))))) (rZ (gP (qh (Nat.lt_of_le_of_lt (Nat.add_le_add_left (by decide) _) HU) (fv 2) (fv 1)) (by with_unfolding_all rfl))))) (aj (aA eh)) aD)
  hu1), ?_⟩
 by_cases hs : ∃ l, x2 = .str ⟨⟨l⟩⟩
 ·obtain ⟨l, rfl⟩ := hs
  walk_at "rd"
  have g := DGet.k (k := .inr ⟨⟨l⟩⟩) S.rw.dc
  rw [iA] at g
  refine ⟨r, _, rfl, g, ?_⟩
  rw [Option.isSome_map]
  cases ef : fnd as l with
  | some c => exact itp rfl k
  | none => exact itn (by decide) (c1 ef)
 ·have e1 := jF ht hs
  walk_at "rd"
  simp only [ht]
  refine itn (by rw [e1]; decide) (c1 ?_)
  cases x2 with
  | str y => exact absurd ⟨y.cps.toList, rfl⟩ hs
  | _ => rfl
def sp_uG (C A : Addr) : Sp := sp3 fun x y z H Q _ => NoT H /\ asR x fun p => asR y fun r => asR z fun hd => ∃ d kd ra as hs, Sd C A H p d r kd ra as /\ H hd = some (.lst hs) /\ hs.length <= 5000 /\ ∀ H' es, New H H' hd hs es -> es.length <= 1 -> Q (.bl true) H'
theorem k_ (T : Txt K mg a) : bQ P w K mg base (XE P w) 2 a.iE a.lA ["_law_chart", "_law_rows", "_law_held"] (sp_uG a.aH a.ay) := by
 refine T.d9.okX kX (fun vs H Q E h => sp3.len h) (fun cdv A outer s H vs Q E hr h => ?_)
 obtain ⟨x0, x1, x2, rfl, h⟩ := sp3.inv h
 try dsimp only [sp_uG, sp3] at h
 have ND := kX.nd
 have HU := bx hr
 obtain ⟨hN, h1⟩ := h
 obtain ⟨p, rfl, h2⟩ := asR.inv h1
 obtain ⟨r, rfl, h3⟩ := asR.inv h2
 obtain ⟨hd, rfl, d, kd, ra, as, hs, S, hh, lh, k⟩ := asR.inv h3
 have sz := szl
 obtain ⟨dx, hp⟩ := S.ch.ob
 have G_Chart_accounts := @oS P w K mg base a T
 have b_Chart_accounts := pp T.jw
 refine ⟨_, (af (aT (i := 3) ND rfl (Or.inl rfl) (uy (fv 0) T.aR T.iB G_Chart_accounts (hr.mono (by decide)) b_Chart_accounts .nil bb))
  (af (aS (ut (L2.PW.pt (lK (cc (b_ (aG (bI K) rfl T.aP aJ (FA.pa (aa (fv 3) (aa (cU (v := .ty "list") rfl T.yx vk rfl) ad)))))) (hR (aY (iK K HU) (fv 3) (aG (ou rfl) rfl T.jk gT (FA.pa (aa (fv 1) ad))) (aO _)))))) (aj (aA eh)) aD)
  (af (cZ (cW K PySem.F.plainAttrs_list PySem.F.slot_list_append PySem.F.type_list_append eZ (fv 3) (FA.pa (aa (ak [109, 111, 114, 101]) ad))))
  (af (cZ (cW K PySem.F.plainAttrs_list PySem.F.slot_list_append PySem.F.type_list_append eZ (fv 2) (FA.pa (aa (uy (fv 0) T.aR T.iB G_Chart_accounts (hr.mono (by decide)) b_Chart_accounts .nil bb) ad))))
  (aj (aA (cz (bo K HU) (aK (aq K) (fv 2) (qQ kJ ag) (fun _ _ => rfl)) (aG (ou rfl) rfl T.jk gT (FA.pa (aa (fv 1) ad))) (aO _)))))))), ?_⟩
 walk_at "rd"
 refine ⟨_, _, hp, qT _, hN, d, as, S.ch, S.ln, fun out po io q1 hq1 => ⟨az hN rfl, ?_⟩⟩
 have s1 := al (HO.lst (out.map L2.T)) hq1
 have N1 : NoT (upd H q1 (HO.lst (out.map L2.T))) := az hN rfl
 have h1 : upd H q1 (HO.lst (out.map L2.T)) q1 = _ := ae
 generalize upd H q1 (HO.lst (out.map L2.T)) = H1 at s1 N1 h1 ⊢
 have ke : cN H1 (.ref q1) = some "list" := by simp [cN, h1]
 simp only [ke]
 have eks : ∀ ra : List Nat -> Addr, List.map (fun e : Key × V => kV e.fst) (as.map fun c => ((.inr ⟨⟨c.pa⟩⟩ : Key), V.ref (ra c.pa))) = List.map L2.T (as.map (·.pa)) := fun ra => by rw [List.map_map, List.map_map]; rfl
 refine itn (by decide) ⟨_, as.map (·.pa), s1 _ _ S.rw.dc, eks ra, by rw [List.length_map]; exact S.ln, fun out2 po2 io2 q2 hq2 => ?_⟩
 have e2 : out2 = out := jE (po2.trans po.symm) io2 io
 subst e2
 have fl : ((out2.map L2.T).all cy) = true := ma out2
 have s2 := al (HO.lst (out2.map L2.T)) hq2
 refine ⟨_, EqR.flatL (SqL.of (s2 _ _ h1)) (SqL.of ae) fl, H1, Gc.none s2, itn (by decide) ?_⟩
 have lo : out2.length < 64 := by rw [po.length_eq, List.length_map]; exact S.ln
 refine ⟨.inl ⟨_, SqL.of h1⟩, q1, _, _, rfl, rfl, h1, by rw [List.length_map]; omega, ?_⟩
 have s3 := jK (o := HO.lst (out2.map L2.T ++ [L2.T [109, 111, 114, 101]])) s1 hq1
 have N3 : NoT (upd H1 q1 (HO.lst (out2.map L2.T ++ [L2.T [109, 111, 114, 101]]))) := az N1 rfl
 generalize upd H1 q1 (HO.lst (out2.map L2.T ++ [L2.T [109, 111, 114, 101]])) = H3 at s3 N3 ⊢
 have J3 := S.ch.same s3
 obtain ⟨dx3, hp3⟩ := J3.ob
 refine ⟨.inl ⟨_, SqL.of (s3 _ _ hh)⟩, _, _, hp3, qT _, N3, d, as, J3, S.ln, fun out4 po4 io4 q4 hq4 => ?_⟩
 have e4 : out4 = out2 := jE (po4.trans po.symm) io4 io
 subst e4
 have s4 := s3.trans (al (HO.lst (out4.map L2.T)) hq4)
 have N4 : NoT (upd H3 q4 (HO.lst (out4.map L2.T))) := az N3 rfl
 have h4 : upd H3 q4 (HO.lst (out4.map L2.T)) q4 = _ := ae
 have f4 := s3.free hq4
 generalize upd H3 q4 (HO.lst (out4.map L2.T)) = H4 at s4 N4 h4 ⊢
 have n4 : q4 ≠ hd := Ne.symm (au hh f4)
 refine ⟨hd, hs, _, rfl, rfl, s4 _ _ hh, by rw [sizeLine_eq]; omega, _, _, .inl (SqL.of ae), pC _ _, ?_⟩
 have hr : upd H4 hd (HO.lst (hs ++ [V.ref q4])) r = _ := (ar (bj (s4 _ _ S.rw.dc) (s4 _ _ hh))).trans (s4 _ _ S.rw.dc)
 refine ⟨_, as.map (·.pa), hr, eks ra, by rw [List.length_map]; exact S.ln, fun out5 po5 io5 q5 hq5 => ?_⟩
 have e5 : out5 = out4 := jE (po5.trans po.symm) io5 io
 subst e5
 walk_at "rd"
 have s5 := al (HO.lst (out5.map L2.T)) hq5
 have h5 : upd H4 hd (HO.lst (hs ++ [V.ref q4])) q4 = _ := (ar n4).trans h4
 refine ⟨_, EqR.flatL (SqL.of (s5 _ _ h5)) (SqL.of ae) fl, ?_⟩
 refine k _ [.ref q4] ⟨s5 _ _ ae, ((Keep.same s4).put (.head _)).new hq5, az (az N4 rfl) rfl, fun e he => ?_⟩ (Nat.le_refl 1)
 rw [List.mem_singleton.mp he]
 exact ⟨q4, out5, rfl, f4, s5 _ _ h5, n4⟩
theorem pI (as : List Acc) (c : Acc) (l : List Nat) : upB (as ++ [c]) l = upB as l ++ (if rpN 58 c.pa = l then [c.pa] else []) := by
 unfold upB
 rw [List.map_append, List.filter_append, List.map_singleton]
 congr 1
 by_cases h : rpN 58 c.pa = l
 ·rw [if_pos h, List.filter_cons_of_pos (by simpa using h), List.filter_nil]
 ·rw [if_neg h, List.filter_cons_of_neg (by simpa using h), List.filter_nil]
theorem yg {l : List Nat} (h : d_ l = true) : l ≠ [] := by
 rintro rfl
 revert h; decide
theorem Tree.none {as : List Acc} (T : Tree as) {l : List Nat} (hf : fnd as l = none) (hl : l ≠ []) : upB as l = [] := by
 unfold upB
 refine List.filter_eq_nil_iff.mpr fun x hx z => ?_
 obtain ⟨c, hc, rfl⟩ := List.mem_map.mp hx
 have z : rpN 58 c.pa = l := by simpa using z
 by_cases h : 58 ∈ c.pa
 ·obtain ⟨u, hu, e, _⟩ := T.up c hc h
  exact ej hf u hu (e.trans z)
 ·rw [vh h] at z
  exact hl z.symm
theorem Tree.top {as : List Acc} (T : Tree as) {c : Acc} (hf : fnd as c.pa = Option.none) (hn : nm c.pa = true) (hb : c.be = []) (hk : ∃ l, c.ki = L2.T l) (hc : cy c.cu = true) : Tree (as ++ [c]) := by
 have n58 := zO hn
 have ne : c.pa ≠ [] := fun z => by rw [z] at hn; revert hn; decide
 have mem : ∀ {P : Acc -> Prop}, (∀ x ∈ as, P x) -> P c -> ∀ x ∈ as ++ [c], P x := fun h1 h2 x hx => by
  rcases List.mem_append.mp hx with z | z
  ·exact h1 x z
  ·rw [List.mem_singleton.mp z]; exact h2
 refine ⟨mem T.pn ((mi _).mp hn).1, mem (fun x hx => ?_) ?_, mem (fun x hx h => ?_) (fun h => absurd h n58), mem T.ki hk, mem T.cu hc⟩
 ·rw [pI, vh n58, if_neg (fun z => yg (T.pn x hx) z.symm), List.append_nil]
  exact T.be x hx
 ·rw [pI, vh n58, if_neg (fun z => ne z.symm), List.append_nil, T.none hf ne]
  exact hb
 ·obtain ⟨u, hu, e⟩ := T.up x hx h
  exact ⟨u, List.mem_append_left _ hu, e⟩
theorem DO {as : List Acc} {v : List Nat} {f : Acc -> Acc} (hf : ∀ z, (f z).pa = z.pa) : (dS as v f).map (·.pa) = as.map (·.pa) := cG (·.pa) hf
theorem wl {as : List Acc} {v : List Nat} {f : Acc -> Acc} (hf : ∀ z, (f z).pa = z.pa) (l : List Nat) : upB (dS as v f) l = upB as l := by unfold upB; rw [DO hf]
theorem Tree.add {as : List Acc} (T : Tree as) {c u : Acc} {v n : List Nat} (hf : fnd as c.pa = Option.none) (hu : fnd as v = some u) (ev : c.pa = v ++ 58 :: n) (hn : 58 ∉ n) (hp : d_ c.pa = true) (hb : c.be = []) (hk : c.ki = u.ki) (hc : cy c.cu = true) : Tree (dS as v (grw c.pa) ++ [c]) := by
 have ne := yg hp
 have er : rpN 58 c.pa = v := by rw [ev]; exact pF hn
 obtain ⟨mu, pu⟩ := eA hu
 have mem : ∀ {P : Acc -> Prop}, (∀ y ∈ as, P (if y.pa = v then grw c.pa y else y)) -> P c -> ∀ x ∈ dS as v (grw c.pa) ++ [c], P x := fun h1 h2 x hx => by
  rcases List.mem_append.mp hx with z | z
  ·obtain ⟨y, hy, e⟩ := js z
   rw [e]; exact h1 y hy
  ·rw [List.mem_singleton.mp z]; exact h2
 have pa_if : ∀ y : Acc, (if y.pa = v then grw c.pa y else y).pa = y.pa := fun y => by split <;> rfl
 have ki_if : ∀ y : Acc, (if y.pa = v then grw c.pa y else y).ki = y.ki := fun y => by split <;> rfl
 have cu_if : ∀ y : Acc, (if y.pa = v then grw c.pa y else y).cu = y.cu := fun y => by split <;> rfl
 have im : ∀ y ∈ as, (if y.pa = v then grw c.pa y else y) ∈ dS as v (grw c.pa) ++ [c] := fun y hy => List.mem_append_left _ (List.mem_map_of_mem hy)
 refine ⟨mem (fun y hy => by rw [pa_if]; exact T.pn y hy) hp, mem (fun y hy => ?_) ?_, mem (fun y hy h => ?_) (fun h => ?_), mem (fun y hy => by rw [ki_if]; exact T.ki y hy) (by rw [hk]; exact T.ki u mu), mem (fun y hy => by rw [cu_if]; exact T.cu y hy) hc⟩
 ·rw [pI, wl (f := grw c.pa) (fun _ => rfl), pa_if, er, <- T.be y hy]
  by_cases h : y.pa = v
  ·rw [if_pos h, if_pos h.symm]; rfl
  ·rw [if_neg h, if_neg (fun z => h z.symm), List.append_nil]
 ·rw [pI, wl (f := grw c.pa) (fun _ => rfl), T.none hf ne, er, if_neg, hb]
  ·rfl
  ·intro z
   have := congrArg List.length (z.trans ev)
   rw [List.length_append, List.length_cons] at this; omega
 ·rw [pa_if] at h
  obtain ⟨u', hu', e, k⟩ := T.up y hy h
  exact ⟨_, im u' hu', by rw [pa_if, pa_if]; exact e, by rw [ki_if, ki_if]; exact k⟩
 ·exact ⟨_, im u mu, by rw [pa_if, pu, er], by rw [ki_if, hk]⟩
theorem Tree.shut {as : List Acc} (T : Tree as) {l : List Nat} {day : Int} : Tree (dS as l (shu day)) := by
 have pa_if : ∀ y : Acc, (if y.pa = l then shu day y else y).pa = y.pa := fun y => by split <;> rfl
 have ki_if : ∀ y : Acc, (if y.pa = l then shu day y else y).ki = y.ki := fun y => by split <;> rfl
 have cu_if : ∀ y : Acc, (if y.pa = l then shu day y else y).cu = y.cu := fun y => by split <;> rfl
 have be_if : ∀ y : Acc, (if y.pa = l then shu day y else y).be = y.be := fun y => by split <;> rfl
 have mem : ∀ {P : Acc -> Prop}, (∀ y ∈ as, P (if y.pa = l then shu day y else y)) -> ∀ x ∈ dS as l (shu day), P x := fun h1 x hx => by
  obtain ⟨y, hy, e⟩ := js hx
  rw [e]; exact h1 y hy
 refine ⟨mem fun y hy => by rw [pa_if]; exact T.pn y hy, mem fun y hy => by rw [pa_if, be_if, wl (f := shu day) fun _ => rfl]; exact T.be y hy, mem fun y hy h => ?_, mem fun y hy => by rw [ki_if]; exact T.ki y hy, mem fun y hy => by rw [cu_if]; exact T.cu y hy⟩
 rw [pa_if] at h
 obtain ⟨u', hu', e, k⟩ := T.up y hy h
 exact ⟨_, List.mem_map_of_mem hu', by rw [pa_if, pa_if]; exact e, by rw [ki_if, ki_if]; exact k⟩
theorem Tree.nil : Tree [] := ⟨fun _ m => (nomatch m), fun _ m => (nomatch m), fun _ m => (nomatch m), fun _ m => (nomatch m), fun _ m => (nomatch m)⟩
theorem sI (as : List Acc) (c : Acc) : kds (as ++ [c]) = kds as ++ (if 58 ∈ c.pa then [] else [(.inr ⟨⟨c.pa⟩⟩, c.ki)]) := by
 unfold kds
 rw [List.filter_append, List.map_append]
 congr 1
 by_cases h : 58 ∈ c.pa
 ·rw [if_pos h, List.filter_cons_of_neg (by simpa using h)]; rfl
 ·rw [if_neg h, List.filter_cons_of_pos (by simpa using h)]; rfl
theorem zN {as : List Acc} {v : List Nat} {f : Acc -> Acc} (hf : ∀ z, (f z).pa = z.pa) (hk : ∀ z, (f z).ki = z.ki) : kds (dS as v f) = kds as := by
 unfold kds dS
 induction as with
 | nil => rfl
 | cons b r ih =>
  have e1 : (if b.pa = v then f b else b).pa = b.pa := by split; exact hf b; rfl
  have e2 : (if b.pa = v then f b else b).ki = b.ki := by split; exact hk b; rfl
  rw [List.map_cons]
  by_cases h : 58 ∈ b.pa
  ·rw [List.filter_cons_of_neg (by rw [e1]; simpa using h), List.filter_cons_of_neg (by simpa using h), ih]
  ·rw [List.filter_cons_of_pos (by rw [e1]; simpa using h), List.filter_cons_of_pos (by simpa using h), List.map_cons, List.map_cons, ih, e1, e2]
theorem BY {as : List Acc} {l : List Nat} (hf : fnd as l = Option.none) : lV (kds as) (.inr ⟨⟨l⟩⟩) = Option.none := by
 have : ∀ as : List Acc, (∀ c ∈ as, c.pa ≠ l) -> lV (as.map fun c => ((.inr ⟨⟨c.pa⟩⟩ : Key), c.ki)) (.inr ⟨⟨l⟩⟩) = Option.none := fun as h => by
  induction as with
  | nil => rfl
  | cons b r ih =>
   rw [List.map_cons, ib fun z => h b (by simp) (by simpa using z)]
   exact ih fun c hc => h c (List.mem_cons_of_mem _ hc)
 exact this _ fun c hc => ej hf c (List.mem_filter.mp hc).1
def own (d r kd : Addr) (ra : List Nat -> Addr) (as : List Acc) : List Addr := d :: r :: kd :: (as.map (·.ob) ++ (as.map (·.bl) ++ as.map fun c => ra c.pa))
theorem bw {d r kd : Addr} {ra : List Nat -> Addr} {as : List Acc} {x : Addr} : x ∈ own d r kd ra as ↔ x = d \/ x = r \/ x = kd \/ ∃ c ∈ as, x = c.ob \/ x = c.bl \/ x = ra c.pa := by
 unfold own
 simp only [List.mem_cons, List.mem_append, List.mem_map]
 constructor
 ·rintro (h | h | h | ⟨c, hc, e⟩ | ⟨c, hc, e⟩ | ⟨c, hc, e⟩)
  ·exact .inl h
  ·exact .inr (.inl h)
  ·exact .inr (.inr (.inl h))
  ·exact .inr (.inr (.inr ⟨c, hc, .inl e.symm⟩))
  ·exact .inr (.inr (.inr ⟨c, hc, .inr (.inl e.symm)⟩))
  ·exact .inr (.inr (.inr ⟨c, hc, .inr (.inr e.symm)⟩))
 ·rintro (h | h | h | ⟨c, hc, e | e | e⟩)
  ·exact .inl h
  ·exact .inr (.inl h)
  ·exact .inr (.inr (.inl h))
  ·exact .inr (.inr (.inr (.inl ⟨c, hc, e.symm⟩)))
  ·exact .inr (.inr (.inr (.inr (.inl ⟨c, hc, e.symm⟩))))
  ·exact .inr (.inr (.inr (.inr (.inr ⟨c, hc, e.symm⟩))))
structure Ap (hd d r kd : Addr) (ra : List Nat -> Addr) (as : List Acc) : Prop where
 rk : r ≠ kd
 dr : d ≠ r
 dk : d ≠ kd
 ij : ∀ c ∈ as, ∀ c' ∈ as, ra c.pa = ra c'.pa -> c.pa = c'.pa
 br : ∀ c ∈ as, ∀ c' ∈ as, c.bl ≠ ra c'.pa
 of : Off hd ra as
theorem Sd.is {C A : Addr} {H : Hp} {p d r kd : Addr} {ra : List Nat -> Addr} {as : List Acc} (S : Sd C A H p d r kd ra as) {x : Addr} (h : x ∈ own d r kd ra as) : H x ≠ none := by
 rcases bw.mp h with rfl | rfl | rfl | ⟨c, hc, rfl | rfl | rfl⟩
 ·rw [S.ch.dc]; exact fun z => nomatch z
 ·rw [S.rw.dc]; exact fun z => nomatch z
 ·rw [S.kd]; exact fun z => nomatch z
 ·obtain ⟨dx, e⟩ := (S.ch.ac c hc).ob; rw [e]; exact fun z => nomatch z
 ·rw [(S.ch.ac c hc).ls]; exact fun z => nomatch z
 ·rw [S.rw.rw c hc]; exact fun z => nomatch z
structure Wn (C A : Addr) (n : Nat) (H H' : Hp) (hd p d r kd : Addr) (ra : List Nat -> Addr) (as : List Acc) (ra' : List Nat -> Addr) (as' : List Acc) (hs es : List V) : Prop where
 sd : Sd C A H' p d r kd ra' as'
 ap : Ap hd d r kd ra' as'
 hl : H' hd = some (.lst (hs ++ es))
 ne : ∀ e ∈ es, ∃ q ls, e = .ref q /\ H q = none /\ H' q = some (.lst (List.map L2.T ls)) /\ q ≠ hd /\ q ∉ own d r kd ra' as'
 kp : Keep (hd :: own d r kd ra as) H H'
 gr : ∀ x ∈ own d r kd ra' as', x ∈ own d r kd ra as \/ H x = none
 nT : NoT H'
 ln : as'.length <= as.length + n
 lo : as.length <= as'.length
 mo : ∀ x ∈ own d r kd ra as, x ∈ own d r kd ra' as'
structure St1 (C A : Addr) (H H' : Hp) (hd p d r kd : Addr) (ra : List Nat -> Addr) (as : List Acc) (ra' : List Nat -> Addr) (as' : List Acc) : Prop where
 sd : Sd C A H' p d r kd ra' as'
 ap : Ap hd d r kd ra' as'
 kp : Keep (own d r kd ra as) H H'
 gr : ∀ x ∈ own d r kd ra' as', x ∈ own d r kd ra as \/ H x = none
 nT : NoT H'
 ln : as'.length <= as.length + 1
 lo : as.length <= as'.length
 mo : ∀ x ∈ own d r kd ra as, x ∈ own d r kd ra' as'
variable {C A : Addr} {H H1 H2 : Hp} {hd p d r kd : Addr} {ra ra' : List Nat -> Addr} {as as' : List Acc}
theorem St1.held {hs es : List V} {H' : Hp} (x : St1 C A H H1 hd p d r kd ra as ra' as') (hh : H hd = some (.lst hs)) (oh : hd ∉ own d r kd ra as) (n : New H1 H' hd hs es) : Wn C A 1 H H' hd p d r kd ra as ra' as' hs es := by
 have h1 := x.kp _ _ hh oh
 refine ⟨x.sd.held n.2.1 h1 x.ap.of, x.ap, n.1, fun e he => ?_, (x.kp.mono fun _ m => .tail _ m).trans (n.2.1.mono fun c m => by rw [List.mem_singleton.mp m]; exact .head _), x.gr, n.2.2.1, x.ln, x.lo, x.mo⟩
 obtain ⟨q, ls, e1, e2, e3, e4⟩ := n.2.2.2 e he
 refine ⟨q, ls, e1, ?_, e3, e4, fun m => x.sd.is m e2⟩
 cases e5 : H q with
 | none => rfl
 | some z =>
  by_cases m : q ∈ own d r kd ra as
  ·exact absurd e2 (x.sd.is (x.mo q m))
  ·rw [x.kp _ _ e5 m] at e2; cases e2
def tri (c : Acc) : List Nat × Addr × Addr := (c.pa, c.ob, c.bl)
theorem eD {as0 : List Acc} (e : as0.map tri = as.map tri) {c : Acc} (h : c ∈ as0) : ∃ c' ∈ as, c'.pa = c.pa /\ c'.ob = c.ob /\ c'.bl = c.bl := by
 have : tri c ∈ as.map tri := by rw [<- e]; exact List.mem_map_of_mem h
 obtain ⟨c', hc, e⟩ := List.mem_map.mp this
 unfold tri at e
 injection e with e1 e
 injection e with e2 e3
 exact ⟨c', hc, e1, e2, e3⟩
theorem pW {as0 : List Acc} (e : as0.map tri = as.map tri) {x : Addr} : x ∈ own d r kd ra as0 ↔ x ∈ own d r kd ra as := by
 rw [bw, bw]
 constructor
 ·rintro (h | h | h | ⟨c, hc, h⟩)
  ·exact .inl h
  ·exact .inr (.inl h)
  ·exact .inr (.inr (.inl h))
  ·obtain ⟨c', hc', e1, e2, e3⟩ := eD e hc
   exact .inr (.inr (.inr ⟨c', hc', by rw [e1, e2, e3]; exact h⟩))
 ·rintro (h | h | h | ⟨c, hc, h⟩)
  ·exact .inl h
  ·exact .inr (.inl h)
  ·exact .inr (.inr (.inl h))
  ·obtain ⟨c', hc', e1, e2, e3⟩ := eD e.symm hc
   exact .inr (.inr (.inr ⟨c', hc', by rw [e1, e2, e3]; exact h⟩))
theorem B1 {b : Addr} {c : Acc} (hf : fnd as c.pa = none) {x : Addr} : x ∈ own d r kd (pt ra c.pa b) (as ++ [c]) ↔ x ∈ own d r kd ra as \/ x = c.ob \/ x = c.bl \/ x = b := by
 have e1 : ∀ c' ∈ as, pt ra c.pa b c'.pa = ra c'.pa := fun c' hc => if_neg (ej hf c' hc)
 have e2 : pt ra c.pa b c.pa = b := if_pos rfl
 rw [bw, bw]
 constructor
 ·rintro (h | h | h | ⟨c', hc', h⟩)
  ·exact .inl (.inl h)
  ·exact .inl (.inr (.inl h))
  ·exact .inl (.inr (.inr (.inl h)))
  ·rcases List.mem_append.mp hc' with m | m
   ·rw [e1 c' m] at h; exact .inl (.inr (.inr (.inr ⟨c', m, h⟩)))
   ·rw [List.mem_singleton.mp m, e2] at h; exact .inr h
 ·rintro ((h | h | h | ⟨c', hc', h⟩) | h)
  ·exact .inl h
  ·exact .inr (.inl h)
  ·exact .inr (.inr (.inl h))
  ·exact .inr (.inr (.inr ⟨c', List.mem_append_left _ hc', by rw [e1 c' hc']; exact h⟩))
  ·exact .inr (.inr (.inr ⟨c, by simp, by rw [e2]; exact h⟩))
theorem Ap.tri {as0 : List Acc} (a : Ap hd d r kd ra as) (e : as0.map tri = as.map tri) : Ap hd d r kd ra as0 := by
 refine ⟨a.rk, a.dr, a.dk, fun c hc c' hc' h => ?_, fun c hc c' hc' => ?_, fun c hc => ?_⟩
 ·obtain ⟨x, hx, x1, x2, x3⟩ := eD e hc
  obtain ⟨y, hy, y1, y2, y3⟩ := eD e hc'
  rw [<- x1, <- y1] at h ⊢
  exact a.ij x hx y hy h
 ·obtain ⟨x, hx, x1, x2, x3⟩ := eD e hc
  obtain ⟨y, hy, y1, y2, y3⟩ := eD e hc'
  rw [<- x3, <- y1]
  exact a.br x hx y hy
 ·obtain ⟨x, hx, x1, x2, x3⟩ := eD e hc
  rw [<- x3, <- x1]
  exact a.of x hx
theorem Ap.more (ap : Ap hd d r kd ra as) {c : Acc} {b : Addr} (hf : fnd as c.pa = none) (nb : b ≠ c.bl) (hb : c.bl ≠ hd) (bh : b ≠ hd) (o1 : c.bl ∉ own d r kd ra as) (o2 : b ∉ own d r kd ra as) : Ap hd d r kd (pt ra c.pa b) (as ++ [c]) := by
 have e1 : ∀ c' ∈ as, pt ra c.pa b c'.pa = ra c'.pa := fun c' hc => if_neg (ej hf c' hc)
 have e2 : pt ra c.pa b c.pa = b := if_pos rfl
 have mb : ∀ c' ∈ as, c'.bl ≠ b := fun c' hc z => o2 (bw.mpr (.inr (.inr (.inr ⟨c', hc, .inr (.inl z.symm)⟩))))
 have mr : ∀ c' ∈ as, ra c'.pa ≠ b := fun c' hc z => o2 (bw.mpr (.inr (.inr (.inr ⟨c', hc, .inr (.inr z.symm)⟩))))
 have ml : ∀ c' ∈ as, c.bl ≠ ra c'.pa := fun c' hc z => o1 (bw.mpr (.inr (.inr (.inr ⟨c', hc, .inr (.inr z)⟩))))
 refine ⟨ap.rk, ap.dr, ap.dk, fun x hx y hy h => ?_, fun x hx y hy => ?_, fun x hx => ?_⟩
 ·rcases List.mem_append.mp hx with m | m
  ·rcases List.mem_append.mp hy with m' | m'
   ·rw [e1 x m, e1 y m'] at h; exact ap.ij x m y m' h
   ·rw [List.mem_singleton.mp m', e1 x m, e2] at h; exact absurd h (mr x m)
  ·rcases List.mem_append.mp hy with m' | m'
   ·rw [List.mem_singleton.mp m, e1 y m', e2] at h; exact absurd h.symm (mr y m')
   ·rw [List.mem_singleton.mp m, List.mem_singleton.mp m']
 ·rcases List.mem_append.mp hx with m | m
  ·rcases List.mem_append.mp hy with m' | m'
   ·rw [e1 y m']; exact ap.br x m y m'
   ·rw [List.mem_singleton.mp m', e2]; exact mb x m
  ·rcases List.mem_append.mp hy with m' | m'
   ·rw [List.mem_singleton.mp m, e1 y m']; exact ml y m'
   ·rw [List.mem_singleton.mp m, List.mem_singleton.mp m', e2]; exact Ne.symm nb
 ·rcases List.mem_append.mp hx with m | m
  ·rw [e1 x m]; exact ap.of x m
  ·rw [List.mem_singleton.mp m, e2]; exact ⟨hb, bh⟩
theorem St1.more (S : Sd C A H p d r kd ra as) (ap : Ap hd d r kd ra as) {as0 : List Acc} {c : Acc} {b : Addr} {hs : List V} (hh : H hd = some (.lst hs)) (et : as0.map tri = as.map tri) (hf : fnd as c.pa = none) (fo : H c.ob = none) (fb : H c.bl = none) (J1 : CAt C A H1 p d (as0 ++ [c])) (K1 : Keep (d :: as.map (·.bl)) H H1) (hb : H1 b = none) (R2 : RAt H2 r (pt ra c.pa b) (as0 ++ [c])) (K2 : Keep [r, kd] H1 H2) (k2 : H2 kd = some (.dK (kds (as0 ++ [c])))) (N2 : NoT H2) (tr : Tree (as0 ++ [c])) (ln : as.length < 63) : St1 C A H H2 hd p d r kd ra as (pt ra c.pa b) (as0 ++ [c]) := by
 have l0 : as0.length = as.length := by have := congrArg List.length et; rwa [List.length_map, List.length_map] at this
 have hf0 : fnd as0 c.pa = none := List.find?_eq_none.mpr fun z hz => by
  obtain ⟨x, hx, x1, _, _⟩ := eD et hz
  have := ej hf x hx
  simpa [<- x1] using this
 have mc : c ∈ as0 ++ [c] := by simp
 obtain ⟨dc, h1o⟩ := (J1.ac c mc).ob
 have h1b := (J1.ac c mc).ls
 have hR1 : ∀ x ∈ as, ra x.pa ∉ d :: as.map (·.bl) := fun x hx m => by
  rcases List.mem_cons.mp m with z | z
  ·exact bj (S.rw.rw x hx) S.ch.dc (by intro z; cases z) z
  ·obtain ⟨y, hy, e⟩ := List.mem_map.mp z
   exact ap.br y hy x hx e
 have kr : H1 r = _ := K1 _ _ S.rw.dc fun m => by
  rcases List.mem_cons.mp m with z | z
  ·exact ap.dr z.symm
  ·obtain ⟨y, hy, e⟩ := List.mem_map.mp z
   exact bj (S.ch.ac y hy).ls S.rw.dc (by intro z; cases z) e
 have kk : H1 kd = _ := K1 _ _ S.kd fun m => by
  rcases List.mem_cons.mp m with z | z
  ·exact ap.dk z.symm
  ·obtain ⟨y, hy, e⟩ := List.mem_map.mp z
   exact bj (S.ch.ac y hy).ls S.kd (by intro z; cases z) e
 have nd1 : ∀ {x : Addr} {o : HO}, H1 x = some o -> b ≠ x := fun e z => by rw [<- z, hb] at e; cases e
 have bS : b ∉ own d r kd ra as := fun m => by
  rcases bw.mp m with z | z | z | ⟨x, hx, z | z | z⟩
  ·exact nd1 J1.dc z
  ·exact nd1 kr z
  ·exact nd1 kk z
  ·obtain ⟨y, hy, y1, y2, y3⟩ := eD et.symm hx
   obtain ⟨dy, e⟩ := (J1.ac y (List.mem_append_left _ hy)).ob
   exact nd1 e (by rw [y2]; exact z)
  ·obtain ⟨y, hy, y1, y2, y3⟩ := eD et.symm hx
   exact nd1 (J1.ac y (List.mem_append_left _ hy)).ls (by rw [y3]; exact z)
  ·exact nd1 (K1 _ _ (S.rw.rw x hx) (hR1 x hx)) z
 have ohd : hd ∉ d :: as.map (·.bl) := fun m => by
  rcases List.mem_cons.mp m with z | z
  ·exact bj hh S.ch.dc (by intro z; cases z) z
  ·obtain ⟨y, hy, e⟩ := List.mem_map.mp z
   exact (ap.of y hy).1 e
 have hh1 := K1 _ _ hh ohd
 have fbH : H b = none := K1.free hb fun m => by
  rcases List.mem_cons.mp m with z | z
  ·exact nd1 J1.dc z
  ·obtain ⟨y, hy, e⟩ := List.mem_map.mp z
   obtain ⟨y', hy', y1, y2, y3⟩ := eD et.symm hy
   exact nd1 (J1.ac y' (List.mem_append_left _ hy')).ls (by rw [y3]; exact e.symm)
 have oc : ∀ {x : Addr}, H x = none -> x ∉ own d r kd ra as := fun e m => S.is m e
 have gr : ∀ x, x ∈ own d r kd (pt ra c.pa b) (as0 ++ [c]) ↔ x ∈ own d r kd ra as \/ x = c.ob \/ x = c.bl \/ x = b := fun x => by
  rw [B1 hf0, pW et]
 refine ⟨⟨J1.keep K2 ?_ ?_ fun x hx => ⟨?_, ?_⟩, R2, k2, tr, by rw [List.length_append, List.length_singleton]; omega⟩, (ap.tri et).more hf0 (nd1 h1b) (au hh fb).symm (au hh fbH).symm (fun m => oc fb ((pW et).mp m)) (fun m => bS ((pW et).mp m)), ?_, fun x hx => ?_, N2, by rw [List.length_append, List.length_singleton]; omega, by rw [List.length_append]; omega, fun x hx => (gr x).mpr (.inl hx)⟩
 ·obtain ⟨dx, hp⟩ := J1.ob
  intro m
  rcases List.mem_cons.mp m with z | z
  ·obtain ⟨dx0, hp0⟩ := S.ch.ob
   exact bj hp0 S.rw.dc (by intro z; cases z) z
  ·obtain ⟨dx0, hp0⟩ := S.ch.ob
   exact bj hp0 S.kd (by intro z; cases z) (List.mem_singleton.mp z)
 ·intro m
  rcases List.mem_cons.mp m with z | z
  ·exact ap.dr z
  ·exact ap.dk (List.mem_singleton.mp z)
 ·obtain ⟨dx, e⟩ := (J1.ac x hx).ob
  intro m
  rcases List.mem_cons.mp m with z | z
  ·exact bj e kr (by intro z; cases z) z
  ·exact bj e kk (by intro z; cases z) (List.mem_singleton.mp z)
 ·have e := (J1.ac x hx).ls
  intro m
  rcases List.mem_cons.mp m with z | z
  ·exact bj e kr (by intro z; cases z) z
  ·exact bj e kk (by intro z; cases z) (List.mem_singleton.mp z)
 ·refine (K1.mono fun x m => ?_).trans (K2.mono fun x m => ?_)
  ·rcases List.mem_cons.mp m with z | z
   ·exact bw.mpr (.inl z)
   ·obtain ⟨y, hy, e⟩ := List.mem_map.mp z
    exact bw.mpr (.inr (.inr (.inr ⟨y, hy, .inr (.inl e.symm)⟩)))
  ·rcases List.mem_cons.mp m with z | z
   ·exact bw.mpr (.inr (.inl z))
   ·exact bw.mpr (.inr (.inr (.inl (List.mem_singleton.mp z))))
 ·rcases (gr x).mp hx with z | z | z | z
  ·exact .inl z
  ·rw [z]; exact .inr fo
  ·rw [z]; exact .inr fb
  ·rw [z]; exact .inr fbH
theorem Ep {v : List Nat} {f : Acc -> Acc} (h : ∀ z, tri (f z) = tri z) : (dS as v f).map tri = as.map tri := cG tri h
theorem St1.shut (S : Sd C A H p d r kd ra as) (ap : Ap hd d r kd ra as) {u : Acc} {day : Int} (hu : u ∈ as) (J1 : CAt C A H1 p d (dS as u.pa (shu day))) (K1 : Keep (as.map (·.ob)) H H1) (R2 : RAt H2 r ra (dS as u.pa (shu day))) (K2 : Keep [ra u.pa] H1 H2) (N2 : NoT H2) : St1 C A H H2 hd p d r kd ra as ra (dS as u.pa (shu day)) := by
 have et := Ep (as := as) (v := u.pa) (f := shu day) fun _ => rfl
 have no : ∀ {x : Addr} {o : HO}, H x = some o -> (∀ k e f, o ≠ .ins k e f) -> H1 x = some o := fun e n => K1 _ _ e fun m => by
  obtain ⟨y, hy, z⟩ := List.mem_map.mp m
  obtain ⟨dy, ey⟩ := (S.ch.ac y hy).ob
  exact bj ey e (fun q => n _ _ _ q.symm) z
 have ru := no (S.rw.rw u hu) (by intro _ _ _ z; cases z)
 have nr : ∀ {x : Addr} {o : HO}, H1 x = some o -> (∀ l, o ≠ .lst l) -> x ∉ [ra u.pa] := fun e n m => bj e ru (fun q => n _ q) (List.mem_singleton.mp m)
 refine ⟨⟨J1.keep K2 ?_ (nr J1.dc (by intro _ z; cases z)) fun x hx => ⟨?_, ?_⟩, R2, ?_, S.tr.shut, ?_⟩, ap.tri et, (K1.mono fun x m => ?_).trans (K2.mono fun x m => ?_), fun x hx => .inl ((pW et).mp hx), N2, ?_, ?_, fun x hx => (pW et).mpr hx⟩
 ·obtain ⟨dx, e⟩ := J1.ob
  exact nr e (by intro _ z; cases z)
 ·obtain ⟨dx, e⟩ := (J1.ac x hx).ob
  exact nr e (by intro _ z; cases z)
 ·obtain ⟨y, hy, y1, y2, y3⟩ := eD et hx
  intro m
  rw [<- y3] at m
  exact ap.br y hy u hu (List.mem_singleton.mp m)
 ·have := no S.kd (by intro _ _ _ z; cases z)
  rw [zN (f := shu day) (fun _ => rfl) (fun _ => rfl)]
  exact K2 _ _ this (nr this (by intro _ z; cases z))
 ·unfold dS; rw [List.length_map]; exact S.ln
 ·obtain ⟨y, hy, e⟩ := List.mem_map.mp m
  exact bw.mpr (.inr (.inr (.inr ⟨y, hy, .inl e.symm⟩)))
 ·exact bw.mpr (.inr (.inr (.inr ⟨u, hu, .inr (.inr (List.mem_singleton.mp m))⟩)))
 ·unfold dS; rw [List.length_map]; omega
 ·unfold dS; rw [List.length_map]; exact Nat.le_refl _
theorem St1.refl (S : Sd C A H p d r kd ra as) (ap : Ap hd d r kd ra as) (s : Same H H1) (n : NoT H1) : St1 C A H H1 hd p d r kd ra as ra as := ⟨S.same s, ap, Keep.same s, fun _ h => .inl h, n, by omega, Nat.le_refl _, fun _ h => h⟩
end
section
variable {pS : Addr} {ns : List Int} {P : Program} {w : World} {K : W.Frag} {mg : Str -> Option Value} {base : Heap} {a : Adr}
theorem Sd.off {C A : Addr} {H : Hp} {hd p d r kd : Addr} {ra : List Nat -> Addr} {as : List Acc} {hs : List V} (S : Sd C A H p d r kd ra as) (ap : Ap hd d r kd ra as) (hh : H hd = some (.lst hs)) : hd ∉ own d r kd ra as := fun m => by
 rcases bw.mp m with z | z | z | ⟨c, hc, z | z | z⟩
 ·exact bj hh S.ch.dc (by intro z; cases z) z
 ·exact bj hh S.rw.dc (by intro z; cases z) z
 ·exact bj hh S.kd (by intro z; cases z) z
 ·obtain ⟨dx, e⟩ := (S.ch.ac c hc).ob
  exact bj hh e (by intro z; cases z) z
 ·exact (ap.of c hc).1 z.symm
 ·exact (ap.of c hc).2 z.symm
theorem Sd.tup {C A : Addr} {H : Hp} {p d r kd q : Addr} {ra : List Nat -> Addr} {as : List Acc} {xs : List V} (S : Sd C A H p d r kd ra as) (hq : H q = some (.tup xs)) : q ∉ own d r kd ra as := fun m => by
 rcases bw.mp m with z | z | z | ⟨c, hc, z | z | z⟩
 ·exact bj hq S.ch.dc (by intro z; cases z) z
 ·exact bj hq S.rw.dc (by intro z; cases z) z
 ·exact bj hq S.kd (by intro z; cases z) z
 ·obtain ⟨dx, e⟩ := (S.ch.ac c hc).ob
  exact bj hq e (by intro z; cases z) z
 ·exact bj hq (S.ch.ac c hc).ls (by intro z; cases z) z
 ·exact bj hq (S.rw.rw c hc) (by intro z; cases z) z
theorem Sd.tup' {C A : Addr} {H : Hp} {p d r kd q : Addr} {ra : List Nat -> Addr} {as : List Acc} {xs : List V} (S : Sd C A H p d r kd ra as) (hq : H q = some (.tup xs)) : q ∉ d :: as.map (·.bl) := fun m => by
 rcases List.mem_cons.mp m with z | z
 ·exact S.tup hq (bw.mpr (.inl z))
 ·obtain ⟨y, hy, e⟩ := List.mem_map.mp z
  exact S.tup hq (bw.mpr (.inr (.inr (.inr ⟨y, hy, .inr (.inl e.symm)⟩))))
theorem Sd.rows {C A : Addr} {H H1 : Hp} {hd p d r kd : Addr} {ra : List Nat -> Addr} {as : List Acc} (S : Sd C A H p d r kd ra as) (ap : Ap hd d r kd ra as) (K1 : Keep (d :: as.map (·.bl)) H H1) : RAt H1 r ra as /\ H1 kd = some (.dK (kds as)) := by
 have h : ∀ {x : Addr} {o : HO}, H x = some o -> x ≠ d -> (∀ y ∈ as, y.bl ≠ x) -> H1 x = some o := fun e n1 n2 => K1 _ _ e fun m => by
  rcases List.mem_cons.mp m with z | z
  ·exact n1 z
  ·obtain ⟨y, hy, e⟩ := List.mem_map.mp z
   exact n2 y hy e
 exact ⟨⟨h S.rw.dc (Ne.symm ap.dr) fun y hy => bj (S.ch.ac y hy).ls S.rw.dc, fun c hc => h (S.rw.rw c hc) (bj (S.rw.rw c hc) S.ch.dc) fun y hy => ap.br y hy c hc⟩, h S.kd (Ne.symm ap.dk) fun y hy => bj (S.ch.ac y hy).ls S.kd⟩
theorem GC {z : V} {ls : List (List Nat)} (h : inV z (ls.map L2.T) = true) : ∃ l, z = L2.T l := by
 unfold inV at h
 rw [List.any_eq_true] at h
 obtain ⟨x, hx, e⟩ := h
 obtain ⟨l, _, rfl⟩ := List.mem_map.mp hx
 cases z with
 | str y => exact ⟨y.cps.toList, rfl⟩
 | _ => exact absurd e (fun z => nomatch (show false = true from z))
theorem E3 {as : List Acc} {l : List Nat} {z : V} (h : duD as (.top (L2.T l) z) = []) : nm l = true /\ (∃ l, z = L2.T l) /\ fnd as l = none := by
 change duT as (L2.T l) z = [] at h
 unfold duT at h
 split at h
 ·rename_i h1
  split at h
  ·rename_i h2
   split at h
   ·cases h
   ·rename_i h3
    refine ⟨h1, GC h2, ?_⟩
    cases e : fnd as l with
    | none => rfl
    | some c => exact absurd (show (fnd as l).isSome = true by rw [e]; rfl) h3
  ·cases h
 ·cases h
theorem Ba {z : V} (h : xb z = true) : cy z = true := by
 cases z with
 | non => rfl
 | str => rfl
 | _ => exact absurd h (fun z => nomatch (show false = true from z))
theorem FV {as : List Acc} {c : Acc} {v n : List Nat} {z : V} {t : Int} (h : duD as (.add (L2.T c.pa) z (.int t)) = []) (ev : c.pa = v ++ 58 :: n) (hn : 58 ∉ n) : d_ c.pa = true /\ fnd as c.pa = none /\ ∃ u, fnd as v = some u /\ cy z = true := by
 change duA as (L2.T c.pa) z (.int t) = [] at h
 unfold duA at h
 have er : rpN 58 (tOf (L2.T c.pa)) = v := by show rpN 58 c.pa = v; rw [ev]; exact pF hn
 rw [er] at h
 split at h
 ·rename_i h1
  split at h
  ·cases h
  ·split at h
   ·rename_i h2
    split at h
    ·split at h
     ·cases h
     ·rename_i h3
      have hf : fnd as c.pa = none := by
       cases e : fnd as c.pa with
       | none => rfl
       | some c' => exact absurd (show (fnd as c.pa).isSome = true by rw [e]; rfl) h3
      cases eu : fnd as v with
      | none => rw [eu] at h; cases h
      | some u => exact ⟨h1, hf, u, rfl, Ba h2⟩
    ·cases h
   ·cases h
 ·cases h
theorem GN {as : List Acc} {l : List Nat} {z : V} (h : duD as (.sh (L2.T l) z) = []) : ∃ u ∈ as, u.pa = l := by
 change duS as (L2.T l) z = [] at h
 unfold duS at h
 split at h
 ·rw [show fY as (L2.T l) = fnd as l from rfl] at h
  cases eu : fnd as l with
  | none => rw [eu] at h; cases h
  | some u => exact ⟨u, (eA eu).1, (eA eu).2⟩
 ·cases h
def sp_AB (K : W.Frag) (C A : Addr) : Sp := sp7 fun x y z q t h w H Q _ => NoT H /\ asR x fun p => asR y fun r => asR z fun kd => asR q fun dq => asI t fun day => asR h fun hd => asI w fun turn => ∃ d ra as dd hs, Sd C A H p d r kd ra as /\ Ap hd d r kd ra as /\ as.length < 63 /\ H dq = some (.tup dd.vs) /\ DOk K H dd /\ H hd = some (.lst hs) /\ hs.length <= 4000 /\
 ∀ H' ra' as' es, Wn C A 1 H H' hd p d r kd ra as ra' as' hs es -> es.length <= 6 -> Q (.bl true) H'
theorem ix (T : Txt K mg a) : bQ P w K mg base (XE P w) 9 a.dW a.iu ["_law_chart", "_law_rows", "_law_kinds", "_law_deed_here", "_law_day", "_law_held", "_law_turn"] (sp_AB K a.aH a.ay) := by
 refine T.cV.okX iw (fun vs H Q E h => sp7.len h) (fun cdv A outer s H vs Q E hr h => ?_)
 obtain ⟨x0, x1, x2, x3, x4, x5, x6, rfl, h⟩ := sp7.inv h
 try dsimp only [sp_AB, sp7] at h
 have ND := iw.nd
 have HU := bx hr
 obtain ⟨hN, h1⟩ := h
 obtain ⟨p, rfl, h2⟩ := asR.inv h1
 obtain ⟨r, rfl, h3⟩ := asR.inv h2
 obtain ⟨kd, rfl, h4⟩ := asR.inv h3
 obtain ⟨dq, rfl, h5⟩ := asR.inv h4
 obtain ⟨day, rfl, h6⟩ := asI.inv h5
 obtain ⟨hd, rfl, h7⟩ := asR.inv h6
 obtain ⟨turn, rfl, d, ra, as, dd, hs, S, ap, len, hq, ok, hh, lh, k⟩ := asI.inv h7
 have sz := szl
 have oh := S.off ap hh
 have G__law_one_good := @jm P w K mg base a T
 have b__law_one_good := iT T.dv
 have G__law_done := @pJ P w K mg base a T
 have b__law_done := pO T.fM
 have G__law_told := @vM P w K mg base a T
 have b__law_told := wt T.ll
 have G__law_due := @yf P w K mg base a T
 have b__law_due := xO T.nJ
 have c3 : ∃ u, PSs (fz (XE P w) P w K mg base ["_law_chart", "_law_rows", "_law_kinds", "_law_deed_here", "_law_day", "_law_held", "_law_turn", "_law_due_here"] "_law_went_good" (ai bB) a.dW cdv A outer s H E) (List.drop 3 (aC bB)) u /\ ∀ x7, duD as dd = [] -> TlK a.aH a.ay H p d as (fun H1 => u { nx := fun _ H' => Q .non H', rt := Q } [some (.ref p), some (.ref r), some (.ref kd), some (.ref dq), some (.int day), some (.ref hd), some (.int turn), some x7] H1) dd := by
  refine ⟨_, (af (cZ (aN G__law_done (hr.mono (by decide)) rfl T.qL T.fM.kp b__law_done .nil bb (FA.pa (aa (fv 1) (aa (fv 2) (aa (fv 3) ad))))))
   (aj (aA (aN G__law_one_good (hr.mono (by decide)) rfl T.j5 T.dv.kp b__law_one_good .nil bb (FA.pa (aa (fv 0) (aa (fv 1) (aa (fv 2) (aa (aK (aq K) (fv 3) ag (fun _ _ => rfl)) (aa (fv 4) (aa (fv 5) (aa (fv 6) ad)))))))))))), fun x7 e0 => ?_⟩
  have tail : ∀ H2 ra' as' (c : Acc), St1 a.aH a.ay H H2 hd p d r kd ra as ra' as' -> c ∈ as' -> dd.vs[1]? = some (L2.T c.pa) -> ∃ xs v, (SqL K H2 dq xs \/ SqT K H2 dq xs) /\ atI xs 1 = some v /\ NoT H2 /\ asT v fun path => ∃ d ra as c hs, Sq a.aH a.ay H2 p d r kd ra as /\ c ∈ as /\ c.pa = path /\ H2 hd = some (HO.lst hs) /\ hs.length <= 4000 /\ Off hd ra as /\ ∀ (H' : Hp) (es : List V), New H2 H' hd hs es -> es.length <= 6 -> Q (V.bl true) H' := fun H2 ra' as' c X hc hv =>
   ⟨_, _, .inr (SqT.of (X.kp _ _ hq (S.tup hq))), aE (j := 1) hv, X.nT, d, ra', as', c, hs, X.sd.q, hc, rfl, X.kp _ _ hh oh, lh, X.ap.of, fun H' es n le => k H' ra' as' es (X.held hh oh n) le⟩
  have lk : (kds as).length <= 100 := by unfold kds; rw [List.length_map]; exact Nat.le_trans (List.length_filter_le _ _) (by omega)
  cases dd with
  | top x z =>
   intro c H1 ex ek ec ef eu eb fo fb J1 K1 N1
   subst ex
   obtain ⟨hn, hz, hf⟩ := E3 e0
   have K1' : Keep (d :: as.map (·.bl)) H H1 := K1.mono fun x m => by rw [List.mem_singleton.mp m]; exact .head _
   obtain ⟨R1, k1⟩ := S.rows ap K1'
   walk_at "rd"
   refine ⟨N1, ra, as, kds as, .top (L2.T c.pa) z, R1, ap.ij, ap.rk, k1, by omega, lk, K1' _ _ hq (S.tup' hq), ?_⟩
   dsimp only [DnK]
   refine wJ rfl ?_
   refine ⟨hf, c, rfl, ec, ef, eu, fun b H2 hb R2 k2 K2 N2 => ?_⟩
   have n58 := zO hn
   refine tail H2 _ _ c (St1.more S ap hh rfl hf fo fb J1 K1' hb R2 K2 ?_ N2 (S.tr.top hf hn eb (by rw [ek]; exact hz) (by rw [ec]; rfl)) len) (by simp) rfl
   rw [k2, sI, if_neg n58, o_ _ (BY hf), ek]
  | add y z t =>
   intro c H1 v n ey ev hn eki ec et eu eb fo fb J1 K1 N1
   subst ey et
   obtain ⟨hp, hf, u, hu, hz⟩ := FV e0 ev hn
   obtain ⟨R1, k1⟩ := S.rows ap K1
   walk_at "rd"
   refine ⟨N1, ra, as, kds as, .add (L2.T c.pa) z (.int c.fi), R1, ap.ij, ap.rk, k1, by omega, lk, K1 _ _ hq (S.tup' hq), ?_⟩
   dsimp only [DnK]
   refine wJ rfl ?_
   change fnd as c.pa = none /\ _
   have hr : (dS as v (grw c.pa)).map mM = as.map mM := cG mM fun _ => rfl
   have ht : (dS as v (grw c.pa)).map tri = as.map tri := cG tri fun _ => rfl
   refine ⟨hf, c, _, rfl, ec, rfl, eu, hr, fun b H2 hb R2 K2 N2 => ?_⟩
   have K2' : Keep [r, kd] H1 H2 := K2.mono fun x m => by rw [List.mem_singleton.mp m]; exact .head _
   refine tail H2 _ _ c (St1.more S ap hh ht hf fo fb J1 K1 hb R2 K2' ?_ N2 (S.tr.add hf hu ev hn hp eb (eki u hu) (by rw [ec]; exact hz)) len) (by simp) rfl
   rw [sI, if_pos (by rw [ev]; simp), List.append_nil, zN (f := grw c.pa) (fun _ => rfl) (fun _ => rfl)]
   exact K2 _ _ k1 (by simpa using Ne.symm ap.rk)
  | sh y z =>
   intro l dy H1 ey ez J1 K1 N1
   subst ey ez
   obtain ⟨u, hu, pu⟩ := GN e0
   subst pu
   have no : ∀ {x : Addr} {o : HO}, H x = some o -> (∀ k e f, o ≠ .ins k e f) -> H1 x = some o := fun e n => K1 _ _ e fun m => by
    obtain ⟨y, hy, z⟩ := List.mem_map.mp m
    obtain ⟨dy, ey⟩ := (S.ch.ac y hy).ob
    exact bj ey e (fun q => n _ _ _ q.symm) z
   walk_at "rd"
   refine ⟨N1, ra, as, kds as, .sh (L2.T u.pa) (.int dy), ⟨no S.rw.dc (by intro _ _ _ z; cases z), fun c hc => no (S.rw.rw c hc) (by intro _ _ _ z; cases z)⟩, ap.ij, ap.rk, no S.kd (by intro _ _ _ z; cases z), by omega, lk, no hq (by intro _ _ _ z; cases z), ?_⟩
   dsimp only [DnK]
   refine wJ rfl ?_
   change (∃ u' ∈ as, u'.pa = u.pa) /\ _
   refine ⟨⟨u, hu, rfl⟩, fun H2 R2 K2 N2 => ?_⟩
   refine tail H2 _ _ (shu dy u) (St1.shut S ap hu J1 K1 R2 K2 N2) ?_ rfl
   have : (if u.pa = u.pa then shu dy u else u) ∈ dS as u.pa (shu dy) := List.mem_map_of_mem hu
   rwa [if_pos rfl] at this
 obtain ⟨u3, hu3, c3⟩ := c3
 refine ⟨_, (af (aT (i := 7) ND rfl (Or.inl rfl) (aN G__law_due (hr.mono (by decide)) rfl T.yE T.nJ.kp b__law_due .nil bb (FA.pa (aa (fv 1) (aa (fv 3) ad)))))
  (af (aS (aY (iK K HU) (aN G__law_told (hr.mono (by decide)) rfl T.xj T.ll.kp b__law_told .nil bb (FA.pa (aa (fv 0) (aa (fv 3) ad)))) (fv 7) (aO _)) (aj (aA eh)) aD)
  (af (aS (aY (iK K HU) (fv 7) (ak []) (aO _)) (aj (aA eh)) aD)
  hu3))), ?_⟩
 walk_at "rd"
 refine ⟨hN, ra, as, dd, S.rw, by omega, fun c hc => by have := (oV (S.tr.pn c hc)).2; omega, hq, ok, hN, d, as, dd, S.ch, by omega, S.tr.be, hq, ok, fun ne H' s n => itp rfl (itn ne (k H' ra as [] ((St1.refl S ap s n).held hh oh (New.refl n (s _ _ hh))) (Nat.zero_le _))), fun e0 => ?_⟩
 have := c3 (L2.T []) e0
 simp only [e0, if_true]
 exact this
variable {C A : Addr} {H H1 H2 : Hp} {hd p d r kd : Addr} {ra ra1 ra2 : List Nat -> Addr} {as as1 as2 : List Acc} {hs es es2 : List V} {n m : Nat}
theorem Wn.free (x : Wn C A n H H1 hd p d r kd ra as ra1 as1 hs es) {q : Addr} (h : H1 q = none) : H q = none := by
 refine x.kp.free h fun z => ?_
 rcases List.mem_cons.mp z with rfl | z
 ·rw [x.hl] at h; cases h
 ·exact x.sd.is (x.mo q z) h
theorem Wn.trans (x : Wn C A n H H1 hd p d r kd ra as ra1 as1 hs es) (y : Wn C A m H1 H2 hd p d r kd ra1 as1 ra2 as2 (hs ++ es) es2) : Wn C A (n + m) H H2 hd p d r kd ra as ra2 as2 hs (es ++ es2) := by
 refine ⟨y.sd, y.ap, by rw [<- List.append_assoc]; exact y.hl, fun e he => ?_, fun c z e nc => ?_, fun c hc => ?_, y.nT, by have := x.ln; have := y.ln; omega, Nat.le_trans x.lo y.lo, fun c hc => y.mo c (x.mo c hc)⟩
 ·rcases List.mem_append.mp he with h | h
  ·obtain ⟨q, ls, e1, e2, e3, e4, e5⟩ := x.ne e h
   refine ⟨q, ls, e1, e2, y.kp _ _ e3 ?_, e4, fun m => ?_⟩
   ·intro z
    rcases List.mem_cons.mp z with z | z
    ·exact e4 z
    ·exact e5 z
   ·rcases y.gr q m with z | z
    ·exact e5 z
    ·rw [e3] at z; cases z
  ·obtain ⟨q, ls, e1, e2, e3, e4, e5⟩ := y.ne e h
   exact ⟨q, ls, e1, x.free e2, e3, e4, e5⟩
 ·refine y.kp c z (x.kp c z e nc) fun m => ?_
  rcases List.mem_cons.mp m with m | m
  ·exact nc (by rw [m]; exact .head _)
  ·rcases x.gr c m with q | q
   ·exact nc (.tail _ q)
   ·rw [e] at q; cases q
 ·rcases y.gr c hc with q | q
  ·exact x.gr c q
  ·exact .inr (x.free q)
theorem Wn.same (x : Wn C A n H H1 hd p d r kd ra as ra1 as1 hs es) (s : Same H1 H2) (nt : NoT H2) : Wn C A n H H2 hd p d r kd ra as ra1 as1 hs es :=
 ⟨x.sd.same s, x.ap, s _ _ x.hl, fun e he => by obtain ⟨q, ls, e1, e2, e3, e4⟩ := x.ne e he; exact ⟨q, ls, e1, e2, s _ _ e3, e4⟩, x.kp.trans (Keep.same s), x.gr, nt, x.ln, x.lo, x.mo⟩
theorem Wn.start (S : Sd C A H p d r kd ra as) (ap : Ap hd d r kd ra as) (hh : H hd = some (.lst hs)) (s : Same H H1) (nt : NoT H1) : Wn C A 0 H H1 hd p d r kd ra as ra as hs [] :=
 ⟨S.same s, ap, by rw [List.append_nil]; exact s _ _ hh, (fun _ m => nomatch m), Keep.same s, fun _ h => .inl h, nt, Nat.le_refl _, Nat.le_refl _, fun _ h => h⟩
theorem Wn.pre (s : Same H H1) (S : Sd C A H p d r kd ra as) (x : Wn C A n H1 H2 hd p d r kd ra as ra1 as1 hs es) : Wn C A n H H2 hd p d r kd ra as ra1 as1 hs es :=
 ⟨x.sd, x.ap, x.hl, fun e he => by obtain ⟨q, ls, e1, e2, e3, e4⟩ := x.ne e he; exact ⟨q, ls, e1, s.free e2, e3, e4⟩, (Keep.same s).trans x.kp, fun c hc => (x.gr c hc).imp id s.free, x.nT, x.ln, x.lo, x.mo⟩
theorem Wn.at_ (x : Wn C A n H H1 hd p d r kd ra as ra1 as1 hs es) {q : Addr} {o : HO} (h : H q = some o) (n1 : q ≠ hd) (n2 : q ∉ own d r kd ra as) : H1 q = some o := x.kp _ _ h fun z => by
 rcases List.mem_cons.mp z with z | z
 ·exact n1 z
 ·exact n2 z
theorem cM {H : Hp} {p : Addr} {o : HO} (h : H p = none) (n : NoT H) (ho : qD o = true) : ∃ H1, upd H p o = H1 /\ Same H H1 /\ H1 p = some o /\ NoT H1 := ⟨_, rfl, al _ h, ae, az n ho⟩
def sp_xR (K : W.Frag) (C A : Addr) : Sp := sp6 fun x y z nn b h H Q _ => NoT H /\ asR x fun p => asR y fun r => asR z fun kd => asR nn fun pn => asI b fun bas => asR h fun hd => ∃ d ra as hs, ∃ nl : List (List Nat), Sd C A H p d r kd ra as /\ Ap hd d r kd ra as /\ as.length <= 50 /\ H hd = some (.lst hs) /\ hs.length <= 3000 /\ H pn = some (.lst (nl.map L2.T)) /\ nl.length = 5 /\ (∀ n ∈ nl, nm n = true) /\
 ∀ H' ra' as' es, Wn C A 6 H H' hd p d r kd ra as ra' as' hs es -> Q (.bl true) H'
theorem m8 (T : Txt K mg a) : bQ P w K mg base (XE P w) 10 a.dC a.gX ["_law_chart", "_law_rows", "_law_kinds", "_law_names", "_law_base", "_law_held"] (sp_xR K a.aH a.ay) := by
 refine T.e_.okX ia (fun vs H Q E h => sp6.len h) (fun cdv A outer s H vs Q E hr h => ?_)
 obtain ⟨x0, x1, x2, x3, x4, x5, rfl, h⟩ := sp6.inv h
 try dsimp only [sp_xR, sp6] at h
 have ND := ia.nd
 obtain ⟨hN, h1⟩ := h
 obtain ⟨p, rfl, h2⟩ := asR.inv h1
 obtain ⟨r, rfl, h3⟩ := asR.inv h2
 obtain ⟨kd, rfl, h4⟩ := asR.inv h3
 obtain ⟨pn, rfl, h5⟩ := asR.inv h4
 obtain ⟨bas, rfl, h6⟩ := asI.inv h5
 obtain ⟨hd, rfl, d, ra, as, hs, nl, S, ap, len, hh, lh, hn, ln, nmn, k⟩ := asR.inv h6
 have sz := szl
 have G__law_listed := @k_ P w K mg base a T
 have b__law_listed := lS T.d9
 have G__law_went_good := @ix P w K mg base a T
 have b__law_went_good := iq T.cV
 have c4 : ∃ u, PSs (fz (XE P w) P w K mg base ["_law_chart", "_law_rows", "_law_kinds", "_law_names", "_law_base", "_law_held", "_law_path", "_law_low", "_law_deeds", "_law_k", "_law_deed_here"] "_law_again_good" (ai bz) a.dC cdv A outer s H E) (List.drop 4 (aC bz)) u /\ ∀ (pl : List Nat) (low : Int) (dl : Addr) (xs : List V) H0, Same H H0 -> NoT H0 -> H0 dl = some (.lst xs) -> H dl = none -> xs.length = 6 -> (∀ v ∈ xs, ∃ q dd, v = .ref q /\ H0 q = some (.tup (Dd.vs dd)) /\ ∀ G, DOk K G dd) ->
  u { nx := fun _ H' => Q .non H', rt := Q } [some (.ref p), some (.ref r), some (.ref kd), some (.ref pn), some (.int bas), some (.ref hd), some (L2.T pl), some (.int low), some (.ref dl), none, none] H0 := by
  refine ⟨_, (af (kL (by passes_own) rfl (DS K rfl T.qV (FA.pa (aa (fv 8) ad))) (zC K (n := 2) rfl (g0 (bv (i := 9) ND rfl (Or.inl rfl)) (g0 (bv (i := 10) ND rfl (Or.inl rfl)) vX))) (aj (aS (cc (b_ (aN G__law_went_good (hr.mono (by decide)) rfl T.jn T.cV.kp b__law_went_good .nil bb (FA.pa (aa (fv 0) (aa (fv 1) (aa (fv 2) (aa (fv 10) (aa (fv 7) (aa (fv 5) (aa (aB bf (fv 4) (aB lw ag (fv 9))) ad))))))))))) (aj (aA eh)) aD)))
   (aj (aA (aN G__law_listed (hr.mono (by decide)) rfl T.mS T.d9.kp b__law_listed .nil bb (FA.pa (aa (fv 0) (aa (fv 1) (aa (fv 5) ad)))))))), fun pl low dl xs H0 s0 N0 hdl fdl lx hx => ?_⟩
  have S0 := S.same s0
  have hh0 := s0 _ _ hh
  have ndl : dl ≠ hd := Ne.symm (au hh fdl)
  have odl : dl ∉ own d r kd ra as := fun m => S.is m fdl
  walk_at "rd"
  refine Ef ?_
  walk_at "rd"
  refine ⟨⟨_, SqL.of hdl⟩, Dv (xs := xs) (fun i σ' G => ∃ ra1 as1 es x9 x10, Wn a.aH a.ay i H0 G hd p d r kd ra as ra1 as1 hs es /\ es.length <= 6 * i /\ σ' = [some (.ref p), some (.ref r), some (.ref kd), some (.ref pn), some (.int bas), some (.ref hd), some (L2.T pl), some (.int low), some (.ref dl), x9, x10]) ⟨ra, as, [], none, none, Wn.start S0 ap hh0 (Same.refl _) N0, Nat.zero_le _, rfl⟩ ?_ ?_ ?_⟩
  ·rintro i σ' G hi ⟨ra1, as1, es, x9, x10, W, le, rfl⟩
   exact SqL.of (W.at_ hdl ndl odl)
  ·rintro i x σ' G q0 hxi fq ⟨ra1, as1, es, x9, x10, W, le, rfl⟩
   have hi6 : i < 6 := by rw [<- lx]; exact (List.getElem?_eq_some_iff.mp hxi).1
   obtain ⟨q, dd, rfl, hq, ok⟩ := hx x (List.mem_of_getElem? hxi)
   walk_at "rd"
   have s1 := al (HO.tup [V.int (i : Int), V.ref q]) fq
   have N1 : NoT (upd G q0 (HO.tup [V.int (i : Int), V.ref q])) := az W.nT rfl
   have W1 := W.same s1 N1
   refine ⟨q0, _, rfl, SqT.of ae, rfl, _, _, rfl, _, _, rfl, rfl, ?_⟩
   generalize upd G q0 (HO.tup [V.int (i : Int), V.ref q]) = G1 at s1 N1 W1 ⊢
   walk_at "rd"
   have hqo : q ∉ own d r kd ra as := S0.tup hq
   have hqn : q ≠ hd := bj hq hh0
   have l1 := W1.ln
   refine ⟨N1, d, ra1, as1, dd, hs ++ es, W1.sd, W1.ap, by omega, W1.at_ hq hqn hqo, ok _, W1.hl, by rw [List.length_append]; omega, fun H' ra' as' es' W2 le2 => ⟨ra', as', es ++ es', _, _, W1.trans W2, by rw [List.length_append]; omega, rfl, rfl⟩⟩
  ·rintro σ' G ⟨ra1, as1, es, x9, x10, W, le, rfl⟩
   walk_at "rd"
   have oh := W.sd.off W.ap W.hl
   refine ⟨W.nT, d, kd, ra1, as1, hs ++ es, W.sd, W.hl, by rw [List.length_append]; omega, fun H' es' n le2 => ?_⟩
   have W2 := (St1.refl W.sd W.ap (Same.refl _) W.nT).held W.hl oh n
   have W3 := W.trans (m := 0) ⟨W2.sd, W2.ap, W2.hl, W2.ne, W2.kp, W2.gr, W2.nT, Nat.le_refl _, W2.lo, W2.mo⟩
   rw [lx] at W3
   exact k H' ra1 as1 _ (W3.pre s0 S)
 obtain ⟨u4, hu4, c4⟩ := c4
 refine ⟨_, (af (aT (i := 6) ND rfl (Or.inl rfl) (aB bf (aB bf (aK (aq K) (fv 3) ag (fun _ _ => rfl)) (ak [58])) (aK (aq K) (fv 3) ag (fun _ _ => rfl))))
  (af (aT (i := 7) ND rfl (Or.inl rfl) (aG (zi rfl) rfl T.Cz yL (FA.pa (aa ag (aa (fv 4) ad)))))
  (af (aT (i := 8) ND rfl (Or.inl rfl) (bU (FA.pa (aa (cR (FA.pa (aa (ak [97, 100, 100]) (aa (fv 6) (aa cX (aa (fv 7) ad)))))) (aa (cR (FA.pa (aa (ak [116, 111, 112]) (aa (aK (aq K) (fv 3) ag (fun _ _ => rfl)) (aa (ak [99, 111, 115, 116]) ad))))) (aa (cR (FA.pa (aa (ak [97, 100, 100]) (aa (fv 6) (aa cX (aa (fv 7) ad)))))) ad))))))
  (af (aT (i := 8) ND rfl (Or.inl rfl) (aB zo (fv 8) (bU (FA.pa (aa (cR (FA.pa (aa (ak [115, 104, 117, 116]) (aa (aK (aq K) (fv 3) ag (fun _ _ => rfl)) (aa (aB bf (fv 7) ag) ad))))) (aa (cR (FA.pa (aa (ak [115, 104, 117, 116]) (aa (fv 6) (aa (aB bf (fv 7) ag) ad))))) (aa (cR (FA.pa (aa (ak [115, 104, 117, 116]) (aa (aK (aq K) (fv 3) ag (fun _ _ => rfl)) (aa (aB bf (fv 7) ag) ad))))) ad)))))))
  hu4)))), ?_⟩
 walk_at "rd"
 obtain ⟨n2, e2⟩ : ∃ n2, nl[2]? = some n2 := ⟨nl[2], List.getElem?_eq_getElem (by omega)⟩
 obtain ⟨n4, e4⟩ : ∃ n4, nl[4]? = some n4 := ⟨nl[4], List.getElem?_eq_getElem (by omega)⟩
 have o2 := okn (nmn n2 (List.mem_of_getElem? e2))
 have o4 := okn (nmn n4 (List.mem_of_getElem? e4))
 have a2 : atI (nl.map L2.T) 2 = some (L2.T n2) := aE (j := 2) (by rw [List.getElem?_map, e2]; rfl)
 have a4 : atI (nl.map L2.T) 4 = some (L2.T n4) := aE (j := 4) (by rw [List.getElem?_map, e4]; rfl)
 refine ⟨_, _, .inl (SqL.of hn), a4, ?_⟩
 walk_at "rd"
 refine ⟨by omega, _, _, .inl (SqL.of hn), a2, ?_⟩
 walk_at "rd"
 generalize (if bas < 146095 then bas else 146095) = low
 have okp := vt o4 o2 (by decide)
 refine ⟨by rw [List.length_append, List.length_singleton]; omega, by walk_at "om", fun p1 f1 => ?_⟩
 obtain ⟨H1, ee, s1, g1, N1⟩ := cM (o := HO.tup [L2.T [97, 100, 100], L2.T (n4 ++ [58] ++ n2), V.non, V.int low]) f1 hN rfl
 rw [ee]
 refine ⟨_, _, .inl (SqL.of (s1 _ _ hn)), a4, by walk_at "om", fun p2 f2 => ?_⟩
 obtain ⟨H2, ee, s2, g2, N2⟩ := cM (o := HO.tup [L2.T [116, 111, 112], L2.T n4, L2.T [99, 111, 115, 116]]) f2 N1 rfl
 rw [ee]
 refine ⟨by walk_at "om", fun p3 f3 => ?_⟩
 obtain ⟨H3, ee, s3, g3, N3⟩ := cM (o := HO.tup [L2.T [97, 100, 100], L2.T (n4 ++ [58] ++ n2), V.non, V.int low]) f3 N2 rfl
 rw [ee]
 refine ⟨by walk_at "om", fun p4 f4 => ?_⟩
 obtain ⟨H4, ee, s4, g4, N4⟩ := cM (o := HO.lst [V.ref p1, V.ref p2, V.ref p3]) f4 N3 rfl
 rw [ee]
 have t4 := ((s1.trans s2).trans s3).trans s4
 refine ⟨_, _, .inl (SqL.of (t4 _ _ hn)), a4, by walk_at "om", fun p5 f5 => ?_⟩
 obtain ⟨H5, ee, s5, g5, N5⟩ := cM (o := HO.tup [L2.T [115, 104, 117, 116], L2.T n4, V.int (low + 1)]) f5 N4 rfl
 rw [ee]
 refine ⟨by walk_at "om", fun p6 f6 => ?_⟩
 obtain ⟨H6, ee, s6, g6, N6⟩ := cM (o := HO.tup [L2.T [115, 104, 117, 116], L2.T (n4 ++ [58] ++ n2), V.int (low + 1)]) f6 N5 rfl
 rw [ee]
 have t6 := (t4.trans s5).trans s6
 refine ⟨_, _, .inl (SqL.of (t6 _ _ hn)), a4, by walk_at "om", fun p7 f7 => ?_⟩
 obtain ⟨H7, ee, s7, g7, N7⟩ := cM (o := HO.tup [L2.T [115, 104, 117, 116], L2.T n4, V.int (low + 1)]) f7 N6 rfl
 rw [ee]
 refine ⟨by walk_at "om", fun p8 f8 => ?_⟩
 obtain ⟨H8, ee, s8, g8, N8⟩ := cM (o := HO.lst [V.ref p5, V.ref p6, V.ref p7]) f8 N7 rfl
 rw [ee]
 have t48 := ((s5.trans s6).trans s7).trans s8
 refine ⟨_, _, t48 _ _ g4, g8, by show 6 <= sizeLine; omega, fun dl fdl => ?_⟩
 obtain ⟨H9, ee, s9, g9, N9⟩ := cM (o := HO.lst ([V.ref p1, V.ref p2, V.ref p3] ++ [V.ref p5, V.ref p6, V.ref p7])) fdl N8 rfl
 rw [ee]
 have t89 := t48.trans s9
 have t49 := s4.trans t89
 have d4 : ∀ G, Any K G (L2.T n4) := fun G => rj (pQ o4 (by decide))
 have dp : ∀ G, Any K G (L2.T (n4 ++ [58] ++ n2)) := fun G => rj (pQ okp (by decide))
 have nO : okV .non := fun _ z => nomatch z
 refine c4 _ low dl _ H9 (t4.trans t89) N9 g9 ((t4.trans t48).free fdl) rfl ?_
 refine fa ⟨p1, .add (L2.T (n4 ++ [58] ++ n2)) .non (.int low), rfl, t49 _ _ (s3 _ _ (s2 _ _ g1)), fun G => ⟨(dp G).1, (dp G).2.1, nO, ⟨_, rfl⟩, ⟨_, rfl⟩⟩⟩ (fa ⟨p2, .top (L2.T n4) (L2.T [99, 111, 115, 116]), rfl, t49 _ _ (s3 _ _ g2), fun G => ⟨(d4 G).1, (d4 G).2.1, .inl rfl⟩⟩ (fa ⟨p3, .add (L2.T (n4 ++ [58] ++ n2)) .non (.int low), rfl, t49 _ _ g3, fun G => ⟨(dp G).1, (dp G).2.1, nO, ⟨_, rfl⟩, ⟨_, rfl⟩⟩⟩ (fa ⟨p5, .sh (L2.T n4) (.int (low + 1)), rfl, s9 _ _ (s8 _ _ (s7 _ _ (s6 _ _ g5))), fun G => ⟨(d4 G).1, (d4 G).2.1, ⟨_, rfl⟩⟩⟩ (fa ⟨p6, .sh (L2.T (n4 ++ [58] ++ n2)) (.int (low + 1)), rfl, s9 _ _ (s8 _ _ (s7 _ _ g6)), fun G => ⟨(dp G).1, (dp G).2.1, ⟨_, rfl⟩⟩⟩ (fa ⟨p7, .sh (L2.T n4) (.int (low + 1)), rfl, s9 _ _ (s8 _ _ g7), fun G => ⟨(d4 G).1, (d4 G).2.1, ⟨_, rfl⟩⟩⟩ fn)))))
end
section
variable {pS : Addr} {ns : List Int} {P : Program} {w : World} {K : W.Frag} {mg : Str -> Option Value} {base : Heap} {a : Adr}
def sp_Ca (C A : Addr) : Sp := sp5 fun x y z nn t H Q _ => NoT H /\ asR x fun p => asR y fun r => asR z fun kd => asR nn fun pn => asI t fun day => ∃ d ra as, ∃ nl : List (List Nat), Sd C A H p d r kd ra as /\ d ≠ r /\ kd ≠ r /\ H pn = some (.lst (nl.map L2.T)) /\ nl.length = 5 /\ (∀ n ∈ nl, nm n = true) /\ Q (.bl true) H
theorem pZ (T : Txt K mg a) : bQ P w K mg base (XE P w) 7 a.eB a.iV ["_law_chart", "_law_rows", "_law_kinds", "_law_names", "_law_day"] (sp_Ca a.aH a.ay) := by
 refine T.gh.okG je (fun vs H Q E h => sp5.len h) (fun cdv A outer s H vs Q E hr h => ?_)
 obtain ⟨x0, x1, x2, x3, x4, rfl, h⟩ := sp5.inv h
 try dsimp only [sp_Ca, sp5] at h
 have ND := je.nd
 have HU := bx hr
 obtain ⟨hN, h1⟩ := h
 obtain ⟨p, rfl, h2⟩ := asR.inv h1
 obtain ⟨r, rfl, h3⟩ := asR.inv h2
 obtain ⟨kd, rfl, h4⟩ := asR.inv h3
 obtain ⟨pn, rfl, h5⟩ := asR.inv h4
 obtain ⟨day, rfl, d, ra, as, nl, S, dr, kr, hn, ln, nmn, k⟩ := asI.inv h5
 have sz := szl
 have G__law_none_good := @oA P w K mg base a T
 have b__law_none_good := oo T.fE
 have G__law_one_good := @jm P w K mg base a T
 have b__law_one_good := iT T.dv
 have c1 : ∃ u, PSs (fz (XE P w) P w K mg base ["_law_chart", "_law_rows", "_law_kinds", "_law_names", "_law_day", "_law_turn", "_law_path", "_law_things"] "_law_end_good" (ai bL) a.eB cdv A outer s H (gcE H E)) (List.drop 1 (aC bL)) u /\ ∀ x5 x6 H1, Same H H1 -> NoT H1 ->
  u { nx := fun _ H' => ∃ G, Gc H G H' /\ Q .non G, rt := fun v H' => ∃ G, Gc H G H' /\ Q v G } [some (.ref p), some (.ref r), some (.ref kd), some (.ref pn), some (.int day), x5, x6, none] H1 := by
  refine ⟨_, (af (aT (i := 7) ND rfl (Or.inl rfl) (cR (FA.pa (aa cX (aa ag (aa (bU (FA.pa ad)) (aa (aB bf (aK (aq K) (fv 3) ag (fun _ _ => rfl)) (ak [120])) (aa (aB bf (aB bf (aK (aq K) (fv 3) ag (fun _ _ => rfl)) (ak [58])) (aK (aq K) (fv 3) ag (fun _ _ => rfl))) (aa (ak []) (aa (cR (FA.pa (aa (aK (aq K) (fv 3) ag (fun _ _ => rfl)) ad))) (aa (aB bf (aK (aq K) (fv 3) ag (fun _ _ => rfl)) (ak [58])) ad)))))))))))
   (aj (aA (cz (bo K HU) (dt rfl (cl := _) (x := "_law_thing") (xs := ["_law_thing"]) (fr := ["_law_chart", "_law_rows", "_law_day"]) (ks := [0, 1, 4]) (by exact ⟨rfl, by decide +kernel, rfl, by decide +kernel, rfl, cI rfl, rfl, aW rfl, aW (k := fun y => List.lookup y _) rfl, cJ rfl⟩) rfl (Dl K (fv 7)) (fun _ _ _ _ _ => (bv (i := 0) (fQ (l := ["_law_thing", "_law_chart", "_law_rows", "_law_day"]) (by decide)) rfl (Or.inl rfl))) (fun _ _ _ _ _ => (jQ (cc (b_ (aN G__law_none_good (hr.mono (by decide)) rfl T.qd T.fE.kp b__law_none_good .nil mQ (FA.pa (aa (fv 1) (aa (fv 2) (aa (fv 0) (aa (fv 3) ad)))))))))) (fun _ _ _ _ _ => (fv 0))) (bU (FA.pa ad)) (aO _))))), fun x5 x6 H1 s1 N1 => ?_⟩
  have S1 := S.same s1
  have hn1 := s1 _ _ hn
  obtain ⟨n0, e0⟩ : ∃ n0, nl[0]? = some n0 := ⟨nl[0], List.getElem?_eq_getElem (by omega)⟩
  obtain ⟨n3, e3⟩ : ∃ n3, nl[3]? = some n3 := ⟨nl[3], List.getElem?_eq_getElem (by omega)⟩
  obtain ⟨n4, e4⟩ : ∃ n4, nl[4]? = some n4 := ⟨nl[4], List.getElem?_eq_getElem (by omega)⟩
  have o0 := okn (nmn n0 (List.mem_of_getElem? e0))
  have o3 := okn (nmn n3 (List.mem_of_getElem? e3))
  have o4 := okn (nmn n4 (List.mem_of_getElem? e4))
  have a0 : atI (nl.map L2.T) 0 = some (L2.T n0) := aE (j := 0) (by rw [List.getElem?_map, e0]; rfl)
  have a3 : atI (nl.map L2.T) 3 = some (L2.T n3) := aE (j := 3) (by rw [List.getElem?_map, e3]; rfl)
  have a4 : atI (nl.map L2.T) 4 = some (L2.T n4) := aE (j := 4) (by rw [List.getElem?_map, e4]; rfl)
  walk_at "rd"
  refine ⟨Nat.zero_le _, fun p1 f1 => ?_⟩
  obtain ⟨H2, ee, s2, g2, N2⟩ := cM (o := HO.lst []) f1 N1 rfl
  rw [ee]
  have hn2 := SqL.of (K := K) (s2 _ _ hn1)
  refine ⟨_, _, .inl hn2, a0, ?_⟩
  walk_at "rd"
  refine ⟨by omega, _, _, .inl hn2, a4, ?_⟩
  walk_at "rd"
  refine ⟨by omega, _, _, .inl hn2, a3, ?_⟩
  walk_at "rd"
  refine ⟨by rw [List.length_append, List.length_singleton]; omega, _, _, .inl hn2, a0, by walk_at "om", fun p2 f2 => ?_⟩
  obtain ⟨H3, ee, s3, g3, N3⟩ := cM (o := HO.tup [L2.T n0]) f2 N2 rfl
  rw [ee]
  refine ⟨_, _, .inl (SqL.same s3 hn2), a0, ?_⟩
  walk_at "rd"
  refine ⟨by omega, by walk_at "om", fun p3 f3 => ?_⟩
  obtain ⟨H4, ee, s4, g4, N4⟩ := cM (o := HO.tup [V.non, V.int 5, V.ref p1, L2.T (n0 ++ [120]), L2.T (n4 ++ [58] ++ n3), L2.T [], V.ref p2, L2.T (n0 ++ [58])]) f3 N3 rfl
  rw [ee]
  have t4 := ((s1.trans s2).trans s3).trans s4
  have kx : ∀ x ∈ [V.non, V.int 5, V.ref p1, L2.T (n0 ++ [120]), L2.T (n4 ++ [58] ++ n3), L2.T [], V.ref p2, L2.T (n0 ++ [58])], Kd H4 x := fa ⟨_, rfl⟩ (fa ⟨_, rfl⟩ (fa (zR (K := K) (s4 _ _ (s3 _ _ g2))).2.1 (fa ⟨_, rfl⟩ (fa ⟨_, rfl⟩ (fa ⟨_, rfl⟩ (fa (zD (K := K) (s4 _ _ g3)).2.1 (fa ⟨_, rfl⟩ fn)))))))
  have S4 := S.same t4
  have lx : [V.non, V.int 5, V.ref p1, L2.T (n0 ++ [120]), L2.T (n4 ++ [58] ++ n3), L2.T [], V.ref p2, L2.T (n0 ++ [58])].length <= 8 := Nat.le_refl 8
  generalize [V.non, V.int 5, V.ref p1, L2.T (n0 ++ [120]), L2.T (n4 ++ [58] ++ n3), L2.T [], V.ref p2, L2.T (n0 ++ [58])] = xs at g4 kx lx
  refine cmT p3 xs (fun H' => NoT H' /\ Same H4 H') (fun D ys hD => ⟨az N4 rfl, al _ hD⟩) (fun H' c => SqT.of (c.2 _ _ g4)) (fun _ => false) (fun x => x) (fun R r => r) (SqT.of g4) (by omega) (fun x hx H' R c r' => ?_) (fun x hx z => nomatch z) (fun D hD => ⟨Nat.zero_le _, fun p4 f4 => ?_⟩)
  ·obtain ⟨t, ht⟩ := kx x hx
   walk_at "rd"
   exact ⟨c.1, asK.of (e6 c.2 ht) ⟨d, kd, ra, as, S4.same c.2, r'⟩⟩
  ·walk_at "rd"
   refine ⟨_, sf (SqL.same (al _ f4) (SqL.of ae)) (SqL.of ae), H, Gc.none ((t4.trans (al _ hD)).trans (al _ f4)), ?_⟩
   rw [List.filter_eq_nil_iff.mpr (by simp)]
   exact k
 obtain ⟨u1, hu1, c1⟩ := c1
 refine ⟨hN, _, (af (zS (kL (by passes_own) rfl (Cg rfl T.qV (fv 1)) (zC K (n := 2) rfl (g0 (bv (i := 5) ND rfl (Or.inl rfl)) (g0 (bv (i := 6) ND rfl (Or.inl rfl)) vX))) (aj (aS (ut (cc (b_ (aN G__law_one_good (hr.mono (by decide)) rfl T.j5 T.dv.kp b__law_one_good .nil bb (FA.pa (aa (fv 0) (aa (fv 1) (aa (fv 2) (aa (fv 6) (aa (fv 4) (aa (bU (FA.pa ad)) (aa (aB bf (fv 4) (aB lw ag (fv 5))) ad)))))))))))) (aj (aA eh)) aD))))
  hu1), ?_⟩
 walk_at "rd"
 refine Eu ?_
 walk_at "rd"
 refine ⟨r, _, rfl, rfl, .inl S.rw.dc, fun o _ => DB (fun i σ' G => G r = some (.frz o (.dK (as.map fun c => (.inr ⟨⟨c.pa⟩⟩, .ref (ra c.pa))))) /\ NoT G /\ (∀ c z, c ≠ r -> H c = some z -> G c = some z) /\ ∃ x5 x6, σ' = [some (.ref p), some (.ref r), some (.ref kd), some (.ref pn), some (.int day), x5, x6, none]) ⟨ae, az hN rfl, fun c z nc e => by rw [ar nc]; exact e, none, none, rfl⟩ (fun i σ' G h => h.1) ?_ ?_⟩
 ·rintro i x v σ' G q0 hi ⟨ke, en, rfl⟩ fq ⟨g1, gN, kp, x5, x6, rfl⟩
  rw [List.getElem?_map] at en
  obtain ⟨c, ec, e2⟩ := Option.map_eq_some_iff.mp en
  cases e2
  have hc := List.mem_of_getElem? ec
  walk_at "rd"
  obtain ⟨G1, ee, s1, q1, N1⟩ := cM (o := HO.tup [V.int (i : Int), kV (Sum.inr { cps := { toList := c.pa } })]) fq gN rfl
  rw [ee]
  refine ⟨q0, _, rfl, SqT.of q1, rfl, _, _, rfl, _, _, rfl, rfl, N1, Nat.zero_le _, fun hd fh => ?_⟩
  obtain ⟨G2, ee, s2, q2, N2⟩ := cM (o := HO.lst []) fh N1 rfl
  rw [ee]
  have s12 := s1.trans s2
  have ks : Keep [r] H G2 := fun c z e nc => s12 _ _ (kp c z (by simpa using nc) e)
  have nr : ∀ {x : Addr} {o : HO}, H x = some o -> (∀ l, o ≠ .dK l) -> x ∉ [r] := fun e q m => bj e S.rw.dc (fun z => q _ z) (List.mem_singleton.mp m)
  have off : Off hd ra as := fun c hc => ⟨au (s1 _ _ (kp _ _ (by simpa using nr (S.ch.ac c hc).ls (by intro _ z; cases z)) (S.ch.ac c hc).ls)) fh, au (s1 _ _ (kp _ _ (by simpa using nr (S.rw.rw c hc) (by intro _ z; cases z)) (S.rw.rw c hc))) fh⟩
  obtain ⟨dx, hp⟩ := S.ch.ob
  have Sx : Sq a.aH a.ay G2 p d r kd ra as := ⟨S.ch.keep ks (nr hp (by intro _ z; cases z)) (by simpa using dr) fun c hc => ⟨by obtain ⟨dc, ho⟩ := (S.ch.ac c hc).ob; exact nr ho (by intro _ z; cases z), nr (S.ch.ac c hc).ls (by intro _ z; cases z)⟩, .inr ⟨o, s12 _ _ g1⟩, fun c hc => ks _ _ (S.rw.rw c hc) (nr (S.rw.rw c hc) (by intro _ z; cases z)), ks _ _ S.kd (by simpa using kr), S.tr, S.ln⟩
  walk_at "rd"
  refine ⟨N2, d, ra, as, c, [], Sx, hc, rfl, q2, Nat.zero_le _, off, fun H' es n _ => ⟨G1, Gc.none (fun c z e => ?_), s1 _ _ g1, N1, fun c z nc e => s1 _ _ (kp c z nc e), _, _, rfl, rfl⟩⟩
  exact n.2.1 _ _ (s2 _ _ e) (by simpa using au e fh)
 ·rintro σ' G ⟨g1, gN, kp, x5, x6, rfl⟩
  refine ⟨r, o, _, g1, .inl ⟨S.rw.dc, rfl, c1 _ _ _ (fun c z e => ?_) (az gN rfl)⟩⟩
  by_cases hc : c = r
  ·subst hc; rw [ae]; rw [S.rw.dc] at e; exact e
  ·rw [ar hc]; exact kp _ _ hc e
structure Sde where
 p : Addr
 d : Addr
 r : Addr
 kd : Addr
 ra : List Nat -> Addr
 as : List Acc
def Sde.own (s : Sde) : List Addr := K7.own s.d s.r s.kd s.ra s.as
def WO (s t : Sde) (x : Addr) : Prop := x ∈ s.own \/ x ∈ t.own
def WW (hd : Addr) (s t : Sde) (x : Addr) : Prop := x = hd \/ WO s t x
structure LS (C A : Addr) (H0 H : Hp) (s t : Sde) : Prop where
 sm : Same H0 H
 nT : NoT H
 s0 : Sd C A H s.p s.d s.r s.kd s.ra s.as
 a0 : ∀ h, h ∉ s.own -> Ap h s.d s.r s.kd s.ra s.as
 s1 : Sd C A H t.p t.d t.r t.kd t.ra t.as
 a1 : ∀ h, h ∉ t.own -> Ap h t.d t.r t.kd t.ra t.as
 dj : ∀ x ∈ s.own, x ∉ t.own
 fr : ∀ x, WO s t x -> H0 x = none
def Stay (H : Hp) (W : Addr -> Prop) (H' : Hp) (W' : Addr -> Prop) : Prop := ∀ q o, H q = some o -> ¬ W q -> H' q = some o /\ ¬ W' q
theorem Stay.same {H H' : Hp} {W : Addr -> Prop} (s : Same H H') : Stay H W H' W := fun q o e n => ⟨s _ _ e, n⟩
def HdA (H : Hp) (W : Addr -> Prop) (v : V) (ls : List (List Nat)) : Prop := ∃ q, v = .ref q /\ H q = some (.lst (ls.map L2.T)) /\ ¬ W q
theorem HdA.stay {H H' : Hp} {W W' : Addr -> Prop} {vs : List V} {cs : List (List (List Nat))} (x : A2 (HdA H W) vs cs) (y : Stay H W H' W') : A2 (HdA H' W') vs cs := x.imp fun v ls _ _ h => by
 obtain ⟨q, e, e1, n⟩ := h
 obtain ⟨e2, n2⟩ := y q _ e1 n
 exact ⟨q, e, e2, n2⟩
variable {C A : Addr} {H0 H H' : Hp} {hd h0 : Addr} {s t : Sde} {hs es : List V} {n : Nat} {ra' : List Nat -> Addr} {as' : List Acc}
theorem LS.swap (L : LS C A H0 H s t) : LS C A H0 H t s :=
 ⟨L.sm, L.nT, L.s1, L.a1, L.s0, L.a0, fun x hx hy => L.dj x hy hx, fun x h => L.fr x h.symm⟩
theorem LS.same (L : LS C A H0 H s t) (m : Same H H') (n : NoT H') : LS C A H0 H' s t :=
 ⟨L.sm.trans m, n, L.s0.same m, L.a0, L.s1.same m, L.a1, L.dj, L.fr⟩
theorem Ap.to {d r kd : Addr} {ra : List Nat -> Addr} {as : List Acc} (ap : Ap h0 d r kd ra as) (h : hd ∉ K7.own d r kd ra as) : Ap hd d r kd ra as :=
 ⟨ap.rk, ap.dr, ap.dk, ap.ij, ap.br, fun c hc => ⟨fun z => h (bw.mpr (.inr (.inr (.inr ⟨c, hc, .inr (.inl z.symm)⟩)))), fun z => h (bw.mpr (.inr (.inr (.inr ⟨c, hc, .inr (.inr z.symm)⟩))))⟩⟩
theorem LS.step (L : LS C A H0 H s t) (hl : H hd = some (.lst hs)) (hw : ¬ WO s t hd) (h0 : H0 hd = none) (W : Wn C A n H H' hd s.p s.d s.r s.kd s.ra s.as ra' as' hs es) : LS C A H0 H' { s with ra := ra', as := as' } t /\ ¬ WO { s with ra := ra', as := as' } t hd /\ Stay H (WW hd s t) H' (WW hd { s with ra := ra', as := as' } t) /\ ∀ e ∈ es, ∃ ls, HdA H' (WW hd { s with ra := ra', as := as' } t) e ls := by
 have t0 : ∀ x ∈ t.own, x ∉ hd :: K7.own s.d s.r s.kd s.ra s.as := fun x hx m => by
  rcases List.mem_cons.mp m with z | z
  ·exact hw (by rw [<- z]; exact .inr hx)
  ·exact L.dj x z hx
 have ob : ∀ c ∈ t.as, c.ob ∉ hd :: K7.own s.d s.r s.kd s.ra s.as /\ c.bl ∉ hd :: K7.own s.d s.r s.kd s.ra s.as /\ t.ra c.pa ∉ hd :: K7.own s.d s.r s.kd s.ra s.as := fun c hc =>
  ⟨t0 _ (bw.mpr (.inr (.inr (.inr ⟨c, hc, .inl rfl⟩)))), t0 _ (bw.mpr (.inr (.inr (.inr ⟨c, hc, .inr (.inl rfl)⟩)))), t0 _ (bw.mpr (.inr (.inr (.inr ⟨c, hc, .inr (.inr rfl)⟩))))⟩
 have pt : t.p ∉ hd :: K7.own s.d s.r s.kd s.ra s.as := fun m => by
  obtain ⟨dx, e⟩ := L.s1.ch.ob
  rcases List.mem_cons.mp m with z | z
  ·exact bj e hl (by intro z; cases z) z
  ·rcases bw.mp z with z | z | z | ⟨c, hc, z | z | z⟩
   ·exact bj e L.s0.ch.dc (by intro z; cases z) z
   ·exact bj e L.s0.rw.dc (by intro z; cases z) z
   ·exact bj e L.s0.kd (by intro z; cases z) z
   ·obtain ⟨dc, ec⟩ := (L.s0.ch.ac c hc).ob
    refine bj e ec (fun z => ?_) z
    injection z with _ _ z
    unfold gw at z
    cases z
   ·exact bj e (L.s0.ch.ac c hc).ls (by intro z; cases z) z
   ·exact bj e (L.s0.rw.rw c hc) (by intro z; cases z) z
 have own' : ∀ x, x ∈ K7.own s.d s.r s.kd ra' as' -> x ∈ s.own \/ H x = none := W.gr
 have nt : ∀ x ∈ t.own, H x ≠ none := fun x hx => L.s1.is hx
 have ow : ∀ q o, H q = some o -> ¬ WO s t q -> ¬ WO { s with ra := ra', as := as' } t q := fun q o e nw z => by
  rcases z with z | z
  ·rcases own' q z with z | z
   ·exact nw (.inl z)
   ·rw [e] at z; cases z
  ·exact nw (.inr z)
 have st : Stay H (WW hd s t) H' (WW hd { s with ra := ra', as := as' } t) := fun q o e nw => by
  refine ⟨W.kp _ _ e fun m => ?_, fun z => ?_⟩
  ·rcases List.mem_cons.mp m with z | z
   ·exact nw (.inl z)
   ·exact nw (.inr (.inl z))
  ·rcases z with z | z
   ·exact nw (.inl z)
   ·exact ow q o e (fun z => nw (.inr z)) z
 refine ⟨⟨fun c z e => ?_, W.nT, W.sd, fun h hn => W.ap.to hn, L.s1.keep W.kp ⟨pt, t0 _ (bw.mpr (.inl rfl)), t0 _ (bw.mpr (.inr (.inl rfl))), t0 _ (bw.mpr (.inr (.inr (.inl rfl))))⟩ ob, L.a1, fun x hx hy => ?_, fun x h => ?_⟩, ow hd _ hl hw, st, fun e he => ?_⟩
 ·refine W.kp _ _ (L.sm _ _ e) fun m => ?_
  rcases List.mem_cons.mp m with z | z
  ·rw [z, h0] at e; cases e
  ·rw [L.fr c (.inl z)] at e; cases e
 ·rcases own' x hx with z | z
  ·exact L.dj x z hy
  ·exact nt x hy z
 ·rcases h with z | z
  ·rcases own' x z with z | z
   ·exact L.fr x (.inl z)
   ·exact L.sm.free z
  ·exact L.fr x (.inr z)
 ·obtain ⟨q, ls, e1, e2, e3, e4, e5⟩ := W.ne e he
  refine ⟨ls, q, e1, e3, fun z => ?_⟩
  rcases z with z | z | z
  ·exact e4 z
  ·exact e5 z
  ·exact nt q z e2
def SameA (s t : Sde) : Prop := t.p = s.p /\ t.d = s.d /\ t.r = s.r /\ t.kd = s.kd
theorem SameA.refl (s : Sde) : SameA s s := ⟨rfl, rfl, rfl, rfl⟩
theorem SameA.trans {s t u : Sde} (h : SameA s t) (g : SameA t u) : SameA s u := ⟨g.1.trans h.1, g.2.1.trans h.2.1, g.2.2.1.trans h.2.2.1, g.2.2.2.trans h.2.2.2⟩
theorem si (s t : Sde) : WO s t = WO t s := by funext x; exact propext ⟨Or.symm, Or.symm⟩
theorem zB {s0 t0 : Sde} {i : Int} (hi : i = 0 \/ i = 1) (es : SameA s0 s) (et : SameA t0 t) (L : LS C A H0 H s t) :
 ∃ x y, LS C A H0 H x y /\ atI [V.ref s0.p, V.ref t0.p] i = some (.ref x.p) /\ atI [V.ref s0.r, V.ref t0.r] i = some (.ref x.r) /\ atI [V.ref s0.kd, V.ref t0.kd] i = some (.ref x.kd) /\ x.as.length + y.as.length = s.as.length + t.as.length /\ (s.as ≠ [] -> t.as ≠ [] -> x.as ≠ [] /\ y.as ≠ []) /\ WO x y = WO s t /\
  ∀ x' H', SameA x x' -> LS C A H0 H' x' y -> ∃ s' t', SameA s0 s' /\ SameA t0 t' /\ LS C A H0 H' s' t' /\ s'.as.length + t'.as.length = x'.as.length + y.as.length /\ (x'.as ≠ [] -> y.as ≠ [] -> s'.as ≠ [] /\ t'.as ≠ []) /\ WO x' y = WO s' t' := by
 rcases hi with rfl | rfl
 ·exact ⟨s, t, L, by rw [es.1]; rfl, by rw [es.2.2.1]; rfl, by rw [es.2.2.2]; rfl, rfl, And.intro, rfl, fun x' H' e L' => ⟨x', t, es.trans e, et, L', rfl, And.intro, rfl⟩⟩
 ·exact ⟨t, s, L.swap, by rw [et.1]; rfl, by rw [et.2.2.1]; rfl, by rw [et.2.2.2]; rfl, Nat.add_comm _ _, fun a b => ⟨b, a⟩, si _ _, fun x' H' e L' => ⟨s, x', es, et.trans e, L'.swap, Nat.add_comm _ _, fun a b => ⟨b, a⟩, si _ _⟩⟩
theorem D8 {H : Hp} {n : Nat} {l : List Nat} : EqH K H n (L2.T l) (L2.T l) true := by
 have := EqH.flat (K := K) (H := H) (n := n) (x := L2.T l) (y := L2.T l) rfl rfl
 rwa [show eqV (L2.T l) (L2.T l) = true by simp [eqV]] at this
theorem Dm {W W' : Addr -> Prop} {p q : Addr} {xs ys : List V} {cs : List (List (List Nat))} (hp : H p = some (.lst xs)) (hq : H q = some (.lst ys)) (h : A2 (HdA H W) xs cs) (h' : A2 (HdA H W') ys cs) : EqR K H p q true := by
 have := EqR.lst (K := K) (e := fun _ => true) (SqL.of hp) (SqL.of hq) (h.len.trans h'.len.symm) fun j x y gx gy => by
  obtain ⟨e, g1, q1, rfl, e1, _⟩ := h.at_ gx
  obtain ⟨e', g2, q2, rfl, e2, _⟩ := h'.at_ gy
  rw [g1] at g2; cases g2
  by_cases hq : q1 = q2
  ·subst hq; exact .same
  ·have := EqH.lst (K := K) (H := H) (n := 49) (e := fun _ => true) hq (SqL.of e1) (SqL.of e2) rfl fun j x y gx gy => by
    rw [gx] at gy; cases gy
    rw [List.getElem?_map] at gx
    obtain ⟨l, _, rfl⟩ := Option.map_eq_some_iff.mp gx
    exact D8
   rwa [show (List.range (e.map L2.T).length).all (fun _ => true) = true by simp] at this
 rwa [show (List.range xs.length).all (fun _ => true) = true by simp] at this
end
section
variable {pS : Addr} {ns : List Int} {P : Program} {w : World} {K : W.Frag} {mg : Str -> Option Value} {base : Heap} {a : Adr}
def FX (fx : List (Addr × HO)) (G : Hp) (W : Addr -> Prop) : Prop := ∀ e ∈ fx, G e.1 = some e.2 /\ ¬ W e.1
theorem FX.stay {fx : List (Addr × HO)} {H H' : Hp} {W W' : Addr -> Prop} (x : FX fx H W) (y : Stay H W H' W') : FX fx H' W' := fun e he => y _ _ (x e he).1 (x e he).2
theorem FX.out {fx : List (Addr × HO)} {H H1 H' : Hp} {h2 : Addr} {s t s' t' : Sde} (x : FX fx H (WO s t)) (m : Same H H1) (f : H h2 = none) (y : Stay H1 (WW h2 s t) H' (WW h2 s' t')) : FX fx H' (WO s' t') := fun e he => by
 obtain ⟨e1, n1⟩ := x e he
 obtain ⟨e2, n2⟩ := y _ _ (m _ _ e1) fun z => by
  rcases z with z | z
  ·exact au e1 f z
  ·exact n1 z
 exact ⟨e2, fun z => n2 (.inr z)⟩
theorem HdA.out {vs : List V} {cs : List (List (List Nat))} {H H1 H' : Hp} {h2 : Addr} {s t s' t' : Sde} (x : A2 (HdA H (WO s t)) vs cs) (m : Same H H1) (f : H h2 = none) (y : Stay H1 (WW h2 s t) H' (WW h2 s' t')) : A2 (HdA H' (WO s' t')) vs cs := x.imp fun v ls _ _ h => by
 obtain ⟨q, e, e1, n1⟩ := h
 obtain ⟨e2, n2⟩ := y _ _ (m _ _ e1) fun z => by
  rcases z with z | z
  ·exact au e1 f z
  ·exact n1 z
 exact ⟨q, e, e2, fun z => n2 (.inr z)⟩
abbrev fix (pn pcn pc pr pk : Addr) (nl cl : List (List Nat)) (s0 t0 : Sde) : List (Addr × HO) := [(pn, .lst (nl.map L2.T)), (pcn, .lst (cl.map L2.T)), (pc, .lst [.ref s0.p, .ref t0.p]), (pr, .lst [.ref s0.r, .ref t0.r]), (pk, .lst [.ref s0.kd, .ref t0.kd])]
theorem A2.app {α β : Type} {R : α -> β -> Prop} {as as' : List α} {bs bs' : List β} (h : A2 R as bs) (g : A2 R as' bs') : A2 R (as ++ as') (bs ++ bs') := by
 induction h with
 | nil => exact g
 | cons r _ ih => exact .cons r ih
theorem A2.dropN {α β : Type} {R : α -> β -> Prop} {as : List α} {bs : List β} (h : A2 R as bs) : ∀ n, A2 R (as.drop n) (bs.drop n) := by
 induction h with
 | nil => intro n; rw [List.drop_nil, List.drop_nil]; exact .nil
 | cons r t ih => intro n; cases n with
  | zero => exact .cons r t
  | succ n => exact ih n
theorem CT (xs : List V) (n : Nat) : rz xs (some (n : Int)) none = xs.drop n := by
 unfold rz
 rw [HT.sIx_none, HT.sIx_nat]
 by_cases h : n <= xs.length
 ·rw [Nat.min_eq_left h, List.take_of_length_le (by rw [List.length_drop]; omega)]
 ·rw [Nat.min_eq_right (by omega), List.drop_eq_nil_of_le (Nat.le_refl _), List.drop_eq_nil_of_le (by omega), List.take_nil]
def CpA (H G : Hp) (v : V) (ls : List (List Nat)) : Prop := ∃ q, v = .ref q /\ H q = none /\ G q = some (.lst (ls.map L2.T))
theorem FY {ks : List Nat} {te : TE} {σ : St} {H1 : Hp} {Q : VK} (a : Addr) (xs : List V) (cs : List (List (List Nat))) (hN : NoT H1) (ha : H1 a = some (.lst xs)) (hx : A2 (fun v ls => ∃ q, v = .ref q /\ H1 q = some (.lst (List.map L2.T ls))) xs cs) (hz : xs.length < sizeLine)
 (he : ∀ q (ls : List (List Nat)) G (R : VK), G q = some (.lst (ls.map L2.T)) -> (∀ l, G l = none -> R (.ref l) (upd G l (.lst (ls.map L2.T)))) -> te ([some (.ref q)] ++ ks.map fun k => (σ[k]?).join) G R)
 (k : ∀ D ys G, H1 D = none -> Same H1 G -> NoT G -> G D = some (.lst ys) -> A2 (CpA H1 G) ys cs -> Q (.ref D) G) : CEl (Itl K a) 1 (jq 0) ks (fun _ H Q => Q true H) te σ H1 Q := by
 refine GA a xs (fun D i ys G => H1 D = none /\ Same H1 G /\ NoT G /\ G D = some (.lst ys) /\ ys.length <= i /\ A2 (fun v ls => CpA H1 G v ls /\ v ≠ .ref D) ys (cs.take i)) hz ?_ ?_ ?_ ?_
 ·exact fun D hD => ⟨hD, al _ hD, az hN rfl, ae, Nat.le_refl _, .nil⟩
 ·rintro D i ys G ⟨hD, sm, _, gd, ly, _⟩
  exact ⟨gd, SqL.of (sm _ _ ha), ly⟩
 ·rintro D i y ys G zs N1 N0 hy ⟨hD, sm, nG, gd, ly, A⟩ hzs n1 n0
  obtain ⟨ls, hb, q, rfl, hq⟩ := hx.at_ hy
  obtain ⟨z1, rfl⟩ := ex1 hzs
  refine ⟨⟨[_], rfl, rfl⟩, ?_⟩
  refine itp rfl (he q ls G _ (sm _ _ hq) fun l fl => ?_)
  have nl : l ≠ D := Ne.symm (au gd fl)
  have m2 := sm.trans (al (HO.lst (ls.map L2.T)) fl)
  refine n1 _ _ ((al _ fl) _ _ gd) ⟨hD, jK m2 hD, az (az nG rfl) rfl, ae, by rw [List.length_append, List.length_singleton]; omega, ?_⟩
  rw [List.take_succ, hb]
  refine (A.imp fun v ls' _ _ h => ?_).snoc ⟨⟨l, rfl, sm.free fl, (ar nl).trans ae⟩, fun z => nl (by cases z; rfl)⟩
  obtain ⟨⟨q', rfl, f', e'⟩, n'⟩ := h
  have nq : q' ≠ D := fun z => n' (by rw [z])
  exact ⟨⟨q', rfl, f', (ar nq).trans ((al _ fl) _ _ e')⟩, n'⟩
 ·rintro D ys G ⟨hD, sm, nG, gd, ly, A⟩
  rw [hx.len, List.take_length] at A
  exact k D ys G hD sm nG gd (A.imp fun _ _ _ _ h => h.1)
def Hr : Stmt -> List Stmt
 | .For _ _ b _ _ => b
 | _ => []
noncomputable abbrev Cd : List Stmt := Hr ((aC e9).getD 10 (.Pass ⟨0, 0, 0, 0⟩))
abbrev sig (pS pn pcn : Addr) (bas : Int) (pc pr pk : Addr) (x7 : Option V) (day : Int) (hd kp : Addr) (x11 x12 x13 x14 : Option V) : St := [some (.ref pS), some (.ref pn), some (.ref pcn), some (.int bas), some (.ref pc), some (.ref pr), some (.ref pk), x7, some (.int day), some (.ref hd), some (.ref kp), x11, x12, x13, x14]
structure LI (C A : Addr) (H0 G : Hp) (s0 t0 : Sde) (hd : Addr) (fx : List (Addr × HO)) (m : Nat) (hs : List V) (cts : List (List (List Nat))) (kp : Addr) (ks : List V) (ck : List (List (List Nat))) (s t : Sde) : Prop where
 es : SameA s0 s
 et : SameA t0 t
 ls : LS C A H0 G s t
 ln : s.as.length + t.as.length <= m
 nz : s.as ≠ [] /\ t.as ≠ []
 hl : G hd = some (.lst hs)
 hw : ¬ WO s t hd
 fx : FX fx G (WW hd s t)
 hA : A2 (HdA G (WW hd s t)) hs cts
 kl : G kp = some (.lst ks)
 kw : ¬ WW hd s t kp
 kA : A2 (HdA G (WW hd s t)) ks ck
theorem LI.same {C A : Addr} {H0 G G' : Hp} {s0 t0 : Sde} {hd : Addr} {fx : List (Addr × HO)} {m : Nat} {hs : List V} {cts ck : List (List (List Nat))} {kp : Addr} {ks : List V} {s t : Sde} (I : LI C A H0 G s0 t0 hd fx m hs cts kp ks ck s t) (x : Same G G') (n : NoT G') : LI C A H0 G' s0 t0 hd fx m hs cts kp ks ck s t :=
 ⟨I.es, I.et, I.ls.same x n, I.ln, I.nz, x _ _ I.hl, I.hw, I.fx.stay (Stay.same x), HdA.stay I.hA (Stay.same x), x _ _ I.kl, I.kw, HdA.stay I.kA (Stay.same x)⟩
theorem LI.side {C A : Addr} {H0 G : Hp} {s0 t0 : Sde} {hd : Addr} {fx : List (Addr × HO)} {m : Nat} {hs : List V} {cts ck : List (List (List Nat))} {kp : Addr} {ks : List V} {s t : Sde} {i : Int} (I : LI C A H0 G s0 t0 hd fx m hs cts kp ks ck s t) (hi : i = 0 \/ i = 1) (h0 : H0 hd = none) :
 ∃ x : Sde, atI [V.ref s0.p, V.ref t0.p] i = some (.ref x.p) /\ atI [V.ref s0.r, V.ref t0.r] i = some (.ref x.r) /\ atI [V.ref s0.kd, V.ref t0.kd] i = some (.ref x.kd) /\ x.as.length <= m /\ x.as ≠ [] /\ Sd C A G x.p x.d x.r x.kd x.ra x.as /\ Ap hd x.d x.r x.kd x.ra x.as /\
  ∀ n H' ra' as' es, Wn C A n G H' hd x.p x.d x.r x.kd x.ra x.as ra' as' hs es -> ∃ cts' s' t', LI C A H0 H' s0 t0 hd fx (m + n) (hs ++ es) (cts ++ cts') kp ks ck s' t' := by
 obtain ⟨x, y, L, eP, eR, eK, lxy, nz, wo, back⟩ := zB hi I.es I.et I.ls
 have nz := nz I.nz.1 I.nz.2
 have hw : ¬ WO x y hd := by rw [wo]; exact I.hw
 have ww : WW hd x y = WW hd s t := by unfold WW; rw [wo]
 refine ⟨x, eP, eR, eK, by have := I.ln; omega, nz.1, L.s0, L.a0 hd fun z => hw (.inl z), fun n H' ra' as' es W => ?_⟩
 obtain ⟨L2', w2, st, ne⟩ := L.step I.hl hw h0 W
 obtain ⟨s', t', e1, e2, L3, ln3, nz3, wo3⟩ := back { x with ra := ra', as := as' } H' ⟨rfl, rfl, rfl, rfl⟩ L2'
 have nz3 := nz3 (fun z => nz.1 (List.eq_nil_of_length_eq_zero (by have := W.lo; have e : as' = [] := z; rw [e, List.length_nil] at this; omega))) nz.2
 have ww3 : WW hd { x with ra := ra', as := as' } y = WW hd s' t' := by unfold WW; rw [wo3]
 rw [ww, ww3] at st
 rw [ww3] at ne
 rw [wo3] at w2
 have la := W.ln
 have le : s'.as.length + t'.as.length <= m + n := by
  have e : ({ x with ra := ra', as := as' } : Sde).as.length = as'.length := rfl
  have := I.ln
  rw [e] at ln3; omega
 obtain ⟨cts', hc⟩ : ∃ cts', A2 (HdA H' (WW hd s' t')) es cts' := by
  clear W la L2' ln3
  induction es with
  | nil => exact ⟨[], .nil⟩
  | cons e r ih =>
   obtain ⟨ls, h1⟩ := ne e (.head _)
   obtain ⟨c, h2⟩ := ih fun e he => ne e (.tail _ he)
   exact ⟨ls :: c, .cons h1 h2⟩
 exact ⟨cts', s', t', e1, e2, L3, le, nz3, W.hl, w2, I.fx.stay st, A2.app (HdA.stay I.hA st) hc, (st _ _ I.kl I.kw).1, (st _ _ I.kl I.kw).2, HdA.stay I.kA st⟩
theorem AK {ta : TA} {g : TG} {tb : TS} {D : kh} {σ : St} {H : Hp} (h : ta σ H fun vs H1 => ∃ i j c : Int, vs = [.int i, .int j, .int c] /\ (0 <= i /\ i < 1000000 /\ -1000000 <= j /\ j < 1000000 /\ 1 <= c /\ c < 1000000) /\ FE (yQ i c (rsz i j c)) g tb D σ H1) : BD (Bw ta) g tb D σ H := h
theorem x_ {xs : List V} {H H1 : Hp} {Q : VK} {i : Int} {l : List Nat} (h : atI xs i = some (L2.T l)) (q : Q (L2.T l) H) : j_ xs H H1 Q (.int i) := by
 unfold j_; simp only [h]; exact q
def sp_law (K : W.Frag) : Sp := sp1 fun x H Q _ => asR x fun p => NoT H /\ ∃ ns : List Int, SqL K H p (ns.map V.int) /\ ns.length <= 63 /\ Q (.bl true) H
set_option maxHeartbeats 4000000 in
theorem FM (T : Txt K mg a) : bQ P w K mg base (XE P w) 11 a.oQ a.Cy ["_law_script"] (sp_law K) := by
 refine T.G5.okG Bv (fun vs H Q E h => sp1.len h) (fun cdv A outer s H vs Q E hr h => ?_)
 obtain ⟨x0, rfl, h⟩ := sp1.inv h
 try dsimp only [sp_law, sp1] at h
 have ND := Bv.nd
 have HU := bx hr
 obtain ⟨pS, rfl, hN, ns, hS, hl, k⟩ := asR.inv h
 have G__law_end_good := @pZ P w K mg base a T
 have b__law_end_good := qI T.gh
 have G__law_again_good := @m8 P w K mg base a T
 have b__law_again_good := nQ T.e_
 have G__law_listed := @k_ P w K mg base a T
 have b__law_listed := lS T.d9
 have G__law_went_good := @ix P w K mg base a T
 have b__law_went_good := iq T.cV
 have G__law_deed := @vE P w K mg base a T
 have b__law_deed := vP T.lN
 have G__law_done := @pJ P w K mg base a T
 have b__law_done := pO T.fM
 have G_Chart_add_top := @i4 P w K mg base a T
 have b_Chart_add_top := iR T.gf
 have G_Chart___init__ := @n_ P w K mg base a T
 have b_Chart___init__ := on T.jB
 have G__law_cell_at := @rL P w K mg base a T
 have b__law_cell_at := rp T.dN
 have G__law_currency_by := @mI P w K mg base a T
 have b__law_currency_by := mt T.eV
 have G__law_name_by := @rY P w K mg base a T
 have b__law_name_by := rJ T.ic
 have sz := szl
 have c11 : ∃ u, PSs (fz (XE P w) P w K mg base ["_law_script", "_law_names", "_law_coins", "_law_base", "_law_charts", "_law_rows", "_law_kinds", "_law_side", "_law_day", "_law_held", "_law_kept", "_law_k", "_law_deed_here", "_law_turn", "_law_which"] "law" (ai e9) a.oQ cdv A outer s H (gcE H E)) (List.drop 11 (aC e9)) u /\ ∀ (nl cl : List (List Nat)) (s0 t0 s t : Sde) (pn pcn pc pr pk hd kp : Addr) (hs ks : List V) cts (bas day : Int) H1 x7 x11 x12 x13 x14,
  nl.length = 5 -> (∀ n ∈ nl, nm n = true) -> SameA s0 s -> SameA t0 t -> LS a.aH a.ay H H1 s t -> s.as.length + t.as.length <= 30 -> FX ((hd, .lst hs) :: (kp, .lst ks) :: fix pn pcn pc pr pk nl cl s0 t0) H1 (WO s t) -> A2 (HdA H1 (WO s t)) hs cts -> A2 (HdA H1 (WO s t)) ks cts ->
  u { nx := fun _ H' => ∃ G, Gc H G H' /\ Q .non G, rt := fun v H' => ∃ G, Gc H G H' /\ Q v G } [some (.ref pS), some (.ref pn), some (.ref pcn), some (.int bas), some (.ref pc), some (.ref pr), some (.ref pk), x7, some (.int day), some (.ref hd), some (.ref kp), x11, x12, x13, x14] H1 := by
  refine ⟨_, (af (kL (by passes_own) rfl (dA rfl T.eG (FA.pa (aa ag ad))) (bv (i := 7) ND rfl (Or.inl rfl)) (af (aS (cc (b_ (aN G__law_again_good (hr.mono (by decide)) rfl T.nU T.e_.kp b__law_again_good .nil bb (FA.pa (aa (aK (aq K) (fv 4) (fv 7) (fun _ _ => rfl)) (aa (aK (aq K) (fv 5) (fv 7) (fun _ _ => rfl)) (aa (aK (aq K) (fv 6) (fv 7) (fun _ _ => rfl)) (aa (fv 1) (aa (fv 3) (aa (bU (FA.pa ad)) ad)))))))))) (aj (aA eh)) aD)
   (aj (aS (cc (b_ (aN G__law_end_good (hr.mono (by decide)) rfl T.rC T.gh.kp b__law_end_good .nil bb (FA.pa (aa (aK (aq K) (fv 4) (fv 7) (fun _ _ => rfl)) (aa (aK (aq K) (fv 5) (fv 7) (fun _ _ => rfl)) (aa (aK (aq K) (fv 6) (fv 7) (fun _ _ => rfl)) (aa (fv 1) (aa (fv 8) ad))))))))) (aj (aA eh)) aD))))
   (aj (aA (cz (bo K HU) (fv 9) (fv 10) (aO _))))), fun nl cl s0 t0 s t pn pcn pc pr pk hd kp hs ks cts bas day H1 x7 x11 x12 x13 x14 ln nmn es et L le fx hA kA => ?_⟩
  walk_at "rd"
  refine oN ?_
  walk_at "rd"
  refine l_ (lo := 0) (n := 2) (fun i σ' G => ∃ s t x7, SameA s0 s /\ SameA t0 t /\ LS a.aH a.ay H G s t /\ s.as.length + t.as.length <= 30 + 6 * i /\ FX ((hd, .lst hs) :: (kp, .lst ks) :: fix pn pcn pc pr pk nl cl s0 t0) G (WO s t) /\ A2 (HdA G (WO s t)) hs cts /\ A2 (HdA G (WO s t)) ks cts /\ σ' = [some (.ref pS), some (.ref pn), some (.ref pcn), some (.int bas), some (.ref pc), some (.ref pr), some (.ref pk), x7, some (.int day), some (.ref hd), some (.ref kp), x11, x12, x13, x14]) ⟨s, t, x7, es, et, L, le, fx, hA, kA, rfl⟩ ?_ ?_
  ·clear L es et le fx hA kA
   rintro i σ' G hi ⟨s, t, x7, es, et, L0, le, fx0, hA0, kA0, rfl⟩
   obtain ⟨x, y, L, eP, eR, eK, lxy, _, wo, back⟩ := zB (i := 0 + (i : Int)) (by omega) es et L0
   rw [<- wo] at fx0 hA0 kA0
   have fc := (fx0 _ (.tail _ (.tail _ (.tail _ (.tail _ (.head _)))))).1
   have fr := (fx0 _ (.tail _ (.tail _ (.tail _ (.tail _ (.tail _ (.head _))))))).1
   have fk := (fx0 _ (.tail _ (.tail _ (.tail _ (.tail _ (.tail _ (.tail _ (.head _)))))))).1
   have fn_ := (fx0 _ (.tail _ (.tail _ (.head _)))).1
   walk_at "rd"
   refine ⟨_, _, .inl (SqL.of fc), eP, _, _, .inl (SqL.of fr), eR, _, _, .inl (SqL.of fk), eK, ?_⟩
   walk_at "rd"
   refine ⟨Nat.zero_le _, fun h2 f2 => ?_⟩
   obtain ⟨G1, ee, m1, g1, N1⟩ := cM (o := HO.lst []) f2 L.nT rfl
   rw [ee]
   have L1 := L.same m1 N1
   have w2 : ¬ WO x y h2 := fun z => by
    rcases z with z | z
    ·exact L.s0.is z f2
    ·exact L.s1.is z f2
   refine ⟨N1, x.d, x.ra, x.as, [], nl, L1.s0, L1.a0 h2 (fun z => w2 (.inl z)), by omega, g1, Nat.zero_le _, m1 _ _ fn_, ln, nmn, fun H' ra' as' es' W => ?_⟩
   obtain ⟨L2', _, st, _⟩ := L1.step g1 w2 (L.sm.free f2) W
   have fx2 := fx0.out m1 f2 st
   have hA2 := HdA.out hA0 m1 f2 st
   have kA2 := HdA.out kA0 m1 f2 st
   have la := W.ln
   obtain ⟨s', t', e1, e2, L3, ln3, _, wo3⟩ := back { x with ra := ra', as := as' } H' ⟨rfl, rfl, rfl, rfl⟩ L2'
   have ap2 := W.ap
   have sd2 := W.sd
   rw [wo3] at fx2 hA2 kA2
   have fc2 := (fx2 _ (.tail _ (.tail _ (.tail _ (.tail _ (.head _)))))).1
   have fr2 := (fx2 _ (.tail _ (.tail _ (.tail _ (.tail _ (.tail _ (.head _))))))).1
   have fk2 := (fx2 _ (.tail _ (.tail _ (.tail _ (.tail _ (.tail _ (.tail _ (.head _)))))))).1
   have fn2 := (fx2 _ (.tail _ (.tail _ (.head _)))).1
   refine ⟨_, _, .inl (SqL.of fc2), eP, _, _, .inl (SqL.of fr2), eR, _, _, .inl (SqL.of fk2), eK, L3.nT, ?_⟩
   walk_at "rd"
   refine ⟨x.d, ra', as', nl, sd2, ap2.dr, Ne.symm ap2.rk, fn2, ln, nmn, ?_⟩
   have la2 : s'.as.length + t'.as.length <= 30 + 6 * (i + 1) := by
    have e : ({ x with ra := ra', as := as' } : Sde).as.length = as'.length := rfl
    rw [e] at ln3
    omega
   exact ⟨s', t', _, e1, e2, L3, la2, fx2, hA2, kA2, rfl⟩
  ·clear L es et le fx hA kA
   rintro σ' G ⟨s, t, x7, es, et, L, le, fx, hA, kA, rfl⟩
   walk_at "rd"
   exact ⟨_, Dm (fx _ (.head _)).1 (fx _ (.tail _ (.head _))).1 hA kA, H, Gc.none L.sm, k⟩
 obtain ⟨u11, hu11, c11⟩ := c11
 have b6 : ∃ u, PSs (fz (XE P w) P w K mg base ["_law_script", "_law_names", "_law_coins", "_law_base", "_law_charts", "_law_rows", "_law_kinds", "_law_side", "_law_day", "_law_held", "_law_kept", "_law_k", "_law_deed_here", "_law_turn", "_law_which"] "law" (ai e9) a.oQ cdv A outer s H (gcE H E)) (List.drop 6 Cd) u /\ ∀ (D : kh) (nl cl : List (List Nat)) (s0 t0 s t : Sde) (pn pcn pc pr pk hd kp : Addr) (hs ks : List V) cts ck cn (bas day : Int) G x7 x11 x12 x13 x14 m, LI a.aH a.ay H G s0 t0 hd (fix pn pcn pc pr pk nl cl s0 t0) m hs cts kp ks ck s t -> cts = ck ++ cn -> hs.length <= 500 ->
  (∀ kp' ks' G', LI a.aH a.ay H G' s0 t0 hd (fix pn pcn pc pr pk nl cl s0 t0) m hs cts kp' ks' cts s t -> D.nx (sig pS pn pcn bas pc pr pk x7 day hd kp' x11 x12 x13 x14) G') ->
  u D (sig pS pn pcn bas pc pr pk x7 day hd kp x11 x12 x13 x14) G := by
  refine ⟨_, (aj (aT (i := 10) ND rfl (Or.inl rfl) (aB zo (fv 10) (dt rfl (cl := _) (x := "_law_told_here") (xs := ["_law_told_here"]) (fr := []) (ks := []) (by exact ⟨rfl, by decide +kernel, rfl, by decide +kernel, rfl, cI rfl, rfl, aW rfl, aW (k := fun y => List.lookup y _) rfl, cJ rfl⟩) rfl (lg K (sD (sM K) (fv 9) (vS (aG (dm K) rfl T.g_ eO (FA.pa (aa (fv 10) ad)))) vQ)) (fun _ _ _ _ _ => (bv (i := 0) (fQ (l := ["_law_told_here"]) (by decide)) rfl (Or.inl rfl))) (fun _ _ _ _ _ => fI) (fun _ _ _ _ _ => (gS (D5 K) rfl T.yx vk (FA.pa (aa (fv 0) ad)))))))), fun D nl cl s0 t0 s t pn pcn pc pr pk hd kp hs ks cts ck cn bas day G x7 x11 x12 x13 x14 m I ec lh k => ?_⟩
  walk_at "rd"
  refine Hj ?_
  walk_at "rd"
  refine ⟨_, .inl (SqL.of I.kl), hd, hs, rfl, SqL.of I.hl, fun p1 f1 => ⟨p1, rfl, ⟨_, SqL.of ae⟩, ?_⟩⟩
  rw [CT]
  obtain ⟨G1, ee, m1, g1, N1⟩ := cM (o := HO.lst (hs.drop ks.length)) f1 I.ls.nT rfl
  rw [ee]
  have lk := I.kA.len
  have lhc := I.hA.len
  have ed : cts.drop ks.length = cn := by rw [ec, lk, List.drop_left]
  have hx := A2.dropN I.hA ks.length
  rw [ed] at hx
  refine FY p1 _ cn N1 g1 (hx.imp fun v ls _ _ h => ?_) (by rw [List.length_drop]; omega) (fun q ls G' R e r => ?_) (fun D' ys G2 fD m2 N2 gD cA => ?_)
  ·obtain ⟨q, e, e1, _⟩ := h
   exact ⟨q, e, m1 _ _ e1⟩
  ·walk_at "rd"
   exact ⟨_, .inl (SqL.of e), r⟩
  ·have ly := cA.len
   walk_at "rd"
   refine ⟨ks, ys, m2 _ _ (m1 _ _ I.kl), gD, ?_, fun kp' f' => ?_⟩
   ·have : cts.length = ck.length + cn.length := by rw [ec, List.length_append]
    omega
   ·obtain ⟨G3, ee, m3, g3, N3⟩ := cM (o := HO.lst (ks ++ ys)) f' N2 rfl
    rw [ee]
    have I2 := I.same (m1.trans m2) N2
    have nw : ∀ q, G1 q = none -> ¬ WW hd s t q := fun q e z => by
     have I1 := I.same m1 N1
     rcases z with z | z | z
     ·rw [z, I1.hl] at e; cases e
     ·exact I1.ls.s0.is z e
     ·exact I1.ls.s1.is z e
    have I3 := I2.same m3 N3
    refine k kp' _ G3 ⟨I3.es, I3.et, I3.ls, I3.ln, I3.nz, I3.hl, I3.hw, I3.fx, I3.hA, g3, nw _ (m2.free f'), ?_⟩
    rw [ec]
    refine A2.app I3.kA (cA.imp fun v ls _ _ h => ?_)
    obtain ⟨q, e, f, e1⟩ := h
    exact ⟨q, e, m3 _ _ e1, nw q f⟩
 obtain ⟨u6, hu6, b6⟩ := b6
 have b5 : ∃ u, PSs (fz (XE P w) P w K mg base ["_law_script", "_law_names", "_law_coins", "_law_base", "_law_charts", "_law_rows", "_law_kinds", "_law_side", "_law_day", "_law_held", "_law_kept", "_law_k", "_law_deed_here", "_law_turn", "_law_which"] "law" (ai e9) a.oQ cdv A outer s H (gcE H E)) (List.drop 5 Cd) u /\ ∀ (D : kh) (nl cl : List (List Nat)) (s0 t0 s t : Sde) (pn pcn pc pr pk hd kp : Addr) (hs ks : List V) cts ck cn (bas day turn : Int) G x7 x11 x12 x14 m, H hd = none -> LI a.aH a.ay H G s0 t0 hd (fix pn pcn pc pr pk nl cl s0 t0) m hs cts kp ks ck s t -> cts = ck ++ cn -> hs.length <= 400 ->
  (∀ kp' hs' ks' cts' s' t' x14' G', hs'.length <= hs.length + 2 -> LI a.aH a.ay H G' s0 t0 hd (fix pn pcn pc pr pk nl cl s0 t0) m hs' cts' kp' ks' cts' s' t' -> D.nx (sig pS pn pcn bas pc pr pk x7 day hd kp' x11 x12 (some (.int turn)) x14') G') ->
  u D (sig pS pn pcn bas pc pr pk x7 day hd kp x11 x12 (some (.int turn)) x14) G := by
  refine ⟨_, (af (kL (by passes_own) rfl (dA rfl T.eG (FA.pa (aa ag ad))) (bv (i := 14) ND rfl (Or.inl rfl)) (aj (aS (L2.PW.pt (wd (aY uB (aB bt (fv 13) ag) ag (aO _)) (rZ (cc (b_ (aN G__law_listed (hr.mono (by decide)) rfl T.mS T.d9.kp b__law_listed .nil bb (FA.pa (aa (aK (aq K) (fv 4) (fv 14) (fun _ _ => rfl)) (aa (aK (aq K) (fv 5) (fv 14) (fun _ _ => rfl)) (aa (fv 9) ad)))))))))) (aj (aA eh)) aD)))
   hu6), fun D nl cl s0 t0 s t pn pcn pc pr pk hd kp hs ks cts ck cn bas day turn G x7 x11 x12 x14 m h0 I ec lh k => ?_⟩
  walk_at "rd"
  refine oN ?_
  walk_at "rd"
  refine l_ (lo := 0) (n := 2) (fun i σ' G' => ∃ hs' cts' cn' s' t' x14', hs'.length <= hs.length + i /\ cts' = ck ++ cn' /\ LI a.aH a.ay H G' s0 t0 hd (fix pn pcn pc pr pk nl cl s0 t0) m hs' cts' kp ks ck s' t' /\ σ' = sig pS pn pcn bas pc pr pk x7 day hd kp x11 x12 (some (.int turn)) x14') ⟨hs, cts, cn, s, t, x14, Nat.le_refl _, ec, I, rfl⟩ ?_ ?_
  ·clear I ec
   rintro i σ' G' hi ⟨hs', cts', cn', s', t', x14', lh', ec, I, rfl⟩
   obtain ⟨x, eP, eR, eK, lx, _, S, ap, step⟩ := I.side (i := 0 + (i : Int)) (by omega) h0
   have fc := (I.fx _ (.tail _ (.tail _ (.head _)))).1
   have fr := (I.fx _ (.tail _ (.tail _ (.tail _ (.head _))))).1
   walk_at "rd"
   by_cases ht : 0 < turn % 3
   ·refine itp ht ⟨_, _, .inl (SqL.of fc), eP, _, _, .inl (SqL.of fr), eR, I.ls.nT, ?_⟩
    walk_at "rd"
    refine ⟨x.d, x.kd, x.ra, x.as, hs', S, I.hl, by omega, fun H' es n le => ?_⟩
    have W2 := (St1.refl S ap (Same.refl _) I.ls.nT).held I.hl (S.off ap I.hl) n
    obtain ⟨c2, s2, t2, I2⟩ := step 0 H' _ _ es ⟨W2.sd, W2.ap, W2.hl, W2.ne, W2.kp, W2.gr, W2.nT, Nat.le_refl _, W2.lo, W2.mo⟩
    exact ⟨hs' ++ es, cts' ++ c2, cn' ++ c2, s2, t2, _, by rw [List.length_append]; omega, by rw [ec, List.append_assoc], I2, rfl⟩
   ·exact itn ht ⟨hs', cts', cn', s', t', _, by omega, ec, I, rfl⟩
  ·rintro σ' G' ⟨hs', cts', cn', s', t', x14', lh', ec', I', rfl⟩
   exact b6 D nl cl s0 t0 s' t' pn pcn pc pr pk hd kp hs' ks cts' ck cn' bas day G' x7 x11 x12 _ x14' m I' ec' (by omega) fun kp' ks' G'' I'' => k kp' hs' ks' cts' s' t' x14' G'' lh' I''
 obtain ⟨u5, hu5, b5⟩ := b5
 have b0 : ∃ u, PSs (fz (XE P w) P w K mg base ["_law_script", "_law_names", "_law_coins", "_law_base", "_law_charts", "_law_rows", "_law_kinds", "_law_side", "_law_day", "_law_held", "_law_kept", "_law_k", "_law_deed_here", "_law_turn", "_law_which"] "law" (ai e9) a.oQ cdv A outer s H (gcE H E)) Cd u /\ ∀ (D : kh) (nl cl : List (List Nat)) (s0 t0 s t : Sde) (pn pcn pc pr pk hd kp : Addr) (hs ks : List V) cts (bas day kx : Int) G x7 x12 x13 x14 m, nl.length = 5 -> (∀ n ∈ nl, nm n = true) -> cl.length = 3 -> (∀ n ∈ cl, cur n = true) -> H hd = none -> LI a.aH a.ay H G s0 t0 hd (fix pn pcn pc pr pk nl cl s0 t0) m hs cts kp ks cts s t -> m <= 50 -> hs.length <= 300 -> 0 <= kx -> kx + 2 < ns.length ->
  (∀ kp' hs' ks' cts' s' t' x7' day' x12' x13' x14' G', hs'.length <= hs.length + 8 -> LI a.aH a.ay H G' s0 t0 hd (fix pn pcn pc pr pk nl cl s0 t0) (m + 1) hs' cts' kp' ks' cts' s' t' -> D.nx (sig pS pn pcn bas pc pr pk x7' day' hd kp' (some (.int kx)) x12' x13' x14') G') ->
  u D (sig pS pn pcn bas pc pr pk x7 day hd kp (some (.int kx)) x12 x13 x14) G := by
  refine ⟨_, (af (aT (i := 7) ND rfl (Or.inl rfl) (aB bt (aK (aq K) (fv 0) (fv 11) (fun _ _ => rfl)) ag))
   (af (aT (i := 12) ND rfl (Or.inl rfl) (aN G__law_deed (hr.mono (by decide)) rfl T.xH T.lN.kp b__law_deed .nil bb (FA.pa (aa (aK (aq K) (fv 5) (fv 7) (fun _ _ => rfl)) (aa (fv 1) (aa (fv 2) (aa (aB bt (aB dD (aK (aq K) (fv 0) (fv 11) (fun _ _ => rfl)) ag) ag) (aa (aK (aq K) (fv 0) (aB bf (fv 11) ag) (fun _ _ => rfl)) (aa (aK (aq K) (fv 0) (aB bf (fv 11) ag) (fun _ _ => rfl)) (aa (fv 3) ad))))))))))
   (af (aT (i := 8) ND rfl (Or.inl rfl) (aG (zi rfl) rfl T.Cz yL (FA.pa (aa ag (aa (aB bf (fv 3) (aB bt (aB dD (aK (aq K) (fv 0) (aB bf (fv 11) ag) (fun _ _ => rfl)) ag) ag)) ad)))))
   (af (aT (i := 13) ND rfl (Or.inl rfl) (aB bf (aB dD (aK (aq K) (fv 0) (aB bf (fv 11) ag) (fun _ _ => rfl)) ag) (aK (aq K) (fv 0) (aB bf (fv 11) ag) (fun _ _ => rfl))))
   (af (aS (cc (b_ (aN G__law_went_good (hr.mono (by decide)) rfl T.jn T.cV.kp b__law_went_good .nil bb (FA.pa (aa (aK (aq K) (fv 4) (fv 7) (fun _ _ => rfl)) (aa (aK (aq K) (fv 5) (fv 7) (fun _ _ => rfl)) (aa (aK (aq K) (fv 6) (fv 7) (fun _ _ => rfl)) (aa (fv 12) (aa (fv 8) (aa (fv 9) (aa (fv 13) ad))))))))))) (aj (aA eh)) aD)
   hu5))))), fun D nl cl s0 t0 s t pn pcn pc pr pk hd kp hs ks cts bas day kx G x7 x12 x13 x14 m ln nmn lc cun h0 I lm lh k0 k2 k => ?_⟩
  have hS1 := hS.same I.ls.sm
  have gv : ∀ j : Int, 0 <= j -> j < ns.length -> ∃ v : Int, atI (ns.map V.int) j = some (.int v) := fun j j0 j1 => by
   obtain ⟨j, rfl⟩ : ∃ n : Nat, j = n := ⟨j.toNat, by omega⟩
   have hj : j < ns.length := by omega
   exact ⟨ns[j], aE (by rw [List.getElem?_map, List.getElem?_eq_getElem hj]; rfl)⟩
  obtain ⟨v0, e0⟩ := gv kx (by omega) (by omega)
  obtain ⟨v1, e1⟩ := gv (kx + 1) (by omega) (by omega)
  obtain ⟨v2, e2⟩ := gv (kx + 2) (by omega) (by omega)
  obtain ⟨x, eP, eR, eK, lx, nz, S, ap, step⟩ := I.side (i := v0 % 2) (by omega) h0
  have f := I.fx
  have fn_ := (f _ (.head _)).1
  have fm := (f _ (.tail _ (.head _))).1
  have fr := (f _ (.tail _ (.tail _ (.tail _ (.head _))))).1
  walk_at "rd"
  refine ⟨_, _, .inl hS1, e0, ?_⟩
  walk_at "rd"
  refine ⟨_, _, .inl (SqL.of fr), eR, _, _, .inl hS1, e0, ?_⟩
  walk_at "rd"
  refine ⟨_, _, .inl hS1, e1, _, _, .inl hS1, e2, I.ls.nT, ?_⟩
  walk_at "rd"
  refine ⟨x.ra, x.as, nl, cl, S.rw, nz, S.ln, S.tr.pn, fn_, ln, nmn, fm, lc, cun, fun dq dd G1 m1 N1 hq ok => ?_⟩
  have I1 := I.same m1 N1
  have hS2 := hS.same I1.ls.sm
  have fc1 := (I1.fx _ (.tail _ (.tail _ (.head _)))).1
  have fr1 := (I1.fx _ (.tail _ (.tail _ (.tail _ (.head _))))).1
  have fk1 := (I1.fx _ (.tail _ (.tail _ (.tail _ (.tail _ (.head _)))))).1
  obtain ⟨x, eP, eR, eK, lx, _, S, ap, step⟩ := I1.side (i := v0 % 2) (by omega) h0
  refine ⟨_, _, .inl hS2, e2, ?_⟩
  walk_at "rd"
  generalize (if bas + v2 / 7 % 26 < 146096 then bas + v2 / 7 % 26 else 146096) = day'
  refine ⟨_, _, .inl hS2, e1, ?_⟩
  walk_at "rd"
  refine ⟨_, _, .inl hS2, e2, ?_⟩
  walk_at "rd"
  refine ⟨_, _, .inl (SqL.of fc1), eP, _, _, .inl (SqL.of fr1), eR, _, _, .inl (SqL.of fk1), eK, N1, ?_⟩
  walk_at "rd"
  refine ⟨x.d, x.ra, x.as, dd, hs, S, ap, by omega, hq, ok, I1.hl, by omega, fun H' ra' as' es W le => ?_⟩
  obtain ⟨c2, s2, t2, I2⟩ := step 1 H' _ _ es W
  exact b5 D nl cl s0 t0 s2 t2 pn pcn pc pr pk hd kp (hs ++ es) ks (cts ++ c2) cts c2 bas day' _ H' _ _ _ _ (m + 1) h0 I2 rfl (by rw [List.length_append]; omega) fun kp' hs' ks' cts' s' t' x14' G' lh' I' => k kp' hs' ks' cts' s' t' _ _ _ _ _ G' (by rw [List.length_append] at lh'; omega) I'
 obtain ⟨ub, hub, b0⟩ := b0
 have c10 : ∃ u, PSs (fz (XE P w) P w K mg base ["_law_script", "_law_names", "_law_coins", "_law_base", "_law_charts", "_law_rows", "_law_kinds", "_law_side", "_law_day", "_law_held", "_law_kept", "_law_k", "_law_deed_here", "_law_turn", "_law_which"] "law" (ai e9) a.oQ cdv A outer s H (gcE H E)) (List.drop 10 (aC e9)) u /\ ∀ (nl cl : List (List Nat)) (s0 t0 s1 t1 : Sde) (pn pcn pc pr pk hd kp : Addr) (bas day : Int) G x7, nl.length = 5 -> (∀ n ∈ nl, nm n = true) -> cl.length = 3 -> (∀ n ∈ cl, cur n = true) -> H hd = none -> LI a.aH a.ay H G s0 t0 hd (fix pn pcn pc pr pk nl cl s0 t0) 2 [] [] kp [] [] s1 t1 ->
  u { nx := fun _ H' => ∃ G, Gc H G H' /\ Q .non G, rt := fun v H' => ∃ G, Gc H G H' /\ Q v G } (sig pS pn pcn bas pc pr pk x7 day hd kp none none none none) G := by
  refine ⟨_, (af (kL (by passes_own) rfl (yG rfl T.eG (FA.pa (aa ag (aa (aB Dg (aG (dm K) rfl T.g_ eO (FA.pa (aa (fv 0) ad))) ag) (aa ag ad))))) (bv (i := 11) ND rfl (Or.inl rfl)) hub)
   hu11), fun nl cl s0 t0 s1 t1 pn pcn pc pr pk hd kp bas day G x7 ln nmn lc cun h0 I => ?_⟩
  walk_at "rd"
  refine AK ?_
  walk_at "rd"
  refine ⟨_, .inl (hS.same I.ls.sm), ?_⟩
  rw [List.length_map]
  generalize hj : (ns.length : Int) - 2 = j
  refine ⟨2, j, 3, ⟨rfl, rfl, rfl⟩, ⟨by decide, by decide, by omega, by omega, by decide, by decide⟩, ?_⟩
  have hr : rsz 2 j 3 <= 20 /\ ∀ i : Nat, i < rsz 2 j 3 -> 2 + (i : Int) * 3 + 2 < ns.length := by
   unfold rsz
   split
   ·refine ⟨by omega, fun i hi => by omega⟩
   ·exact ⟨by omega, fun i hi => by omega⟩
  generalize rsz 2 j 3 = n at hr ⊢
  refine yI (lo := 2) (c := 3) (n := n) (fun i σ' G' => ∃ s t hs ks cts kp x7 day x11 x12 x13 x14, LI a.aH a.ay H G' s0 t0 hd (fix pn pcn pc pr pk nl cl s0 t0) (2 + i) hs cts kp ks cts s t /\ hs.length <= 8 * i /\ σ' = sig pS pn pcn bas pc pr pk x7 day hd kp x11 x12 x13 x14) ⟨s1, t1, [], [], [], kp, _, _, _, _, _, _, I, Nat.zero_le _, rfl⟩ ?_ ?_
  ·clear I
   rintro i σ' G' hi ⟨s, t, hs, ks, cts, kp, x7, day, x11, x12, x13, x14, I, lh, rfl⟩
   have := hr.2 i hi
   exact b0 _ nl cl s0 t0 s t pn pcn pc pr pk hd kp hs ks cts bas day (2 + (i : Int) * 3) G' x7 x12 x13 x14 (2 + i) ln nmn lc cun h0 I (by omega) (by omega) (by omega) (by omega) fun kp' hs' ks' cts' s' t' x7' day' x12' x13' x14' G' lh' I' => ⟨s', t', hs', ks', cts', kp', _, _, _, _, _, _, I', by omega, rfl⟩
  ·clear I
   rintro σ' G' ⟨s, t, hs, ks, cts, kp, x7, day, x11, x12, x13, x14, I, lh, rfl⟩
   have wo : ∀ {q}, ¬ WW hd s t q -> ¬ WO s t q := fun h z => h (.inr z)
   refine c11 nl cl s0 t0 s t pn pcn pc pr pk hd kp hs ks cts bas day G' x7 x11 x12 x13 x14 ln nmn I.es I.et I.ls (by have := I.ln; omega) (fun e he => ?_) (I.hA.imp fun v ls _ _ h => ?_) (I.kA.imp fun v ls _ _ h => ?_)
   ·rcases List.mem_cons.mp he with rfl | he
    ·exact ⟨I.hl, I.hw⟩
    ·rcases List.mem_cons.mp he with rfl | he
     ·exact ⟨I.kl, wo I.kw⟩
     ·exact ⟨(I.fx e he).1, wo (I.fx e he).2⟩
   ·obtain ⟨q, e, e1, n⟩ := h
    exact ⟨q, e, e1, wo n⟩
   ·obtain ⟨q, e, e1, n⟩ := h
    exact ⟨q, e, e1, wo n⟩
 obtain ⟨u10, hu10, c10⟩ := c10
 have c6 : ∃ u, PSs (fz (XE P w) P w K mg base ["_law_script", "_law_names", "_law_coins", "_law_base", "_law_charts", "_law_rows", "_law_kinds", "_law_side", "_law_day", "_law_held", "_law_kept", "_law_k", "_law_deed_here", "_law_turn", "_law_which"] "law" (ai e9) a.oQ cdv A outer s H (gcE H E)) (List.drop 6 (aC e9)) u /\ ∀ (nl cl : List (List Nat)) (s0 t0 : Sde) (pn pcn pc pr pk : Addr) (bas : Int) G, nl.length = 5 -> (∀ n ∈ nl, nm n = true) -> cl.length = 3 -> (∀ n ∈ cl, cur n = true) -> H pn = none -> LS a.aH a.ay H G s0 t0 -> s0.as = [] -> t0.as = [] -> FX (fix pn pcn pc pr pk nl cl s0 t0) G (WO s0 t0) ->
  u { nx := fun _ H' => ∃ G, Gc H G H' /\ Q .non G, rt := fun v H' => ∃ G, Gc H G H' /\ Q v G } [some (.ref pS), some (.ref pn), some (.ref pcn), some (.int bas), some (.ref pc), some (.ref pr), some (.ref pk), none, none, none, none, none, none, none, none] G := by
  refine ⟨_, (af (kL (by passes_own) rfl (dA rfl T.eG (FA.pa (aa ag ad))) (bv (i := 7) ND rfl (Or.inl rfl)) (af (cZ (bi (aK (aq K) (fv 4) (fv 7) (fun _ _ => rfl)) T.aR T.jA G_Chart_add_top (hr.mono (by decide)) b_Chart_add_top .nil bb (FA.pa (aa (aK (aq K) (fv 1) (fv 7) (fun _ _ => rfl)) (aa (dw (FA.pa (aa (ak [103, 97, 105, 110]) (aa (ak [111, 119, 110]) ad))) (fv 7) (fun _ _ => rfl)) ad)))))
   (aj (cZ (aN G__law_done (hr.mono (by decide)) rfl T.qL T.fM.kp b__law_done .nil bb (FA.pa (aa (aK (aq K) (fv 5) (fv 7) (fun _ _ => rfl)) (aa (aK (aq K) (fv 6) (fv 7) (fun _ _ => rfl)) (aa (cR (FA.pa (aa (ak [116, 111, 112]) (aa (aK (aq K) (fv 1) (fv 7) (fun _ _ => rfl)) (aa (dw (FA.pa (aa (ak [103, 97, 105, 110]) (aa (ak [111, 119, 110]) ad))) (fv 7) (fun _ _ => rfl)) ad))))) ad)))))))))
   (af (aT (i := 8) ND rfl (Or.inl rfl) (fv 3))
   (af (aT (i := 9) ND rfl (Or.inl rfl) (bU (FA.pa ad)))
   (af (aT (i := 10) ND rfl (Or.inl rfl) (bU (FA.pa ad)))
   hu10)))), fun nl cl s0 t0 pn pcn pc pr pk bas G ln nmn lc cun hpn L s00 t00 fx => ?_⟩
  walk_at "rd"
  refine oN ?_
  walk_at "rd"
  refine l_ (lo := 0) (n := 2) (fun i σ' G' => ∃ s t x7, SameA s0 s /\ SameA t0 t /\ LS a.aH a.ay H G' s t /\ s.as.length = min i 1 /\ t.as.length = i - 1 /\ FX (fix pn pcn pc pr pk nl cl s0 t0) G' (WO s t) /\ σ' = [some (.ref pS), some (.ref pn), some (.ref pcn), some (.int bas), some (.ref pc), some (.ref pr), some (.ref pk), x7, none, none, none, none, none, none, none]) ⟨s0, t0, none, SameA.refl _, SameA.refl _, L, by rw [s00]; rfl, by rw [t00]; rfl, fx, rfl⟩ ?_ ?_
  ·clear L fx
   rintro i σ' G hi ⟨s, t, x7, es, et, L0, l0, l1, fx0, rfl⟩
   obtain ⟨x, y, L, eP, eR, eK, x0, wo, back⟩ : ∃ x y, LS a.aH a.ay H G x y /\ atI [V.ref s0.p, V.ref t0.p] (0 + (i : Int)) = some (.ref x.p) /\ atI [V.ref s0.r, V.ref t0.r] (0 + (i : Int)) = some (.ref x.r) /\ atI [V.ref s0.kd, V.ref t0.kd] (0 + (i : Int)) = some (.ref x.kd) /\ x.as = [] /\ WO s t = WO x y /\ ∀ x' G', SameA x x' -> x'.as.length = 1 -> LS a.aH a.ay H G' x' y -> FX (fix pn pcn pc pr pk nl cl s0 t0) G' (WO x' y) -> ∃ s t, SameA s0 s /\ SameA t0 t /\ LS a.aH a.ay H G' s t /\ s.as.length = min (i + 1) 1 /\ t.as.length = i + 1 - 1 /\ FX (fix pn pcn pc pr pk nl cl s0 t0) G' (WO s t) := by
    rcases (by omega : i = 0 \/ i = 1) with rfl | rfl
    ·exact ⟨s, t, L0, by rw [es.1]; rfl, by rw [es.2.2.1]; rfl, by rw [es.2.2.2]; rfl, List.eq_nil_of_length_eq_zero l0, rfl, fun x' G' e l L' f => ⟨x', t, es.trans e, et, L', l, l1, f⟩⟩
    ·exact ⟨t, s, L0.swap, by rw [et.1]; rfl, by rw [et.2.2.1]; rfl, by rw [et.2.2.2]; rfl, List.eq_nil_of_length_eq_zero l1, si _ _, fun x' G' e l L' f => ⟨s, x', es, et.trans e, L'.swap, l0, l, by rw [si]; exact f⟩⟩
   rw [wo] at fx0
   clear L0 l0 l1 es et wo
   obtain ⟨xp, xd, xr, xk, xra, xas⟩ := x
   have x0 : xas = [] := x0
   subst x0
   have fc := (fx0 _ (.tail _ (.tail _ (.head _)))).1
   have fr := (fx0 _ (.tail _ (.tail _ (.tail _ (.head _))))).1
   have fk := (fx0 _ (.tail _ (.tail _ (.tail _ (.tail _ (.head _)))))).1
   have fn_ := (fx0 _ (.head _)).1
   have fw := (fx0 _ (.head _)).2
   obtain ⟨n1, hn1⟩ : ∃ n1, nl[i]? = some n1 := ⟨nl[i], List.getElem?_eq_getElem (by omega)⟩
   have an : atI (nl.map L2.T) (0 + (i : Int)) = some (L2.T n1) := by rw [Int.zero_add]; exact aE (by rw [List.getElem?_map, hn1]; rfl)
   have nmm := nmn n1 (List.mem_of_getElem? hn1)
   have okm := okn nmm
   obtain ⟨dx, hp⟩ := L.s0.ch.ob
   have i2 : (0 : Int) <= 0 + (i : Int) /\ 0 + (i : Int) < 2 := by omega
   generalize 0 + (i : Int) = ii at eP eR eK an i2
   walk_at "rd"
   refine ⟨_, _, .inl (SqL.of fc), eP, ?_⟩
   walk_at "rd"
   refine ⟨_, _, hp, Cc _, _, _, .inl (SqL.of fn_), an, L.nT, by walk_at "om", fun p1 f1 => ?_⟩
   obtain ⟨kt, ekt, hin⟩ : ∃ kt, atI [L2.T [103, 97, 105, 110], L2.T [111, 119, 110]] ii = some (L2.T kt) /\ inV (L2.T kt) (KDS.map L2.T) = true := by
    rcases (by omega : ii = 0 \/ ii = 1) with rfl | rfl
    ·exact ⟨_, rfl, by decide⟩
    ·exact ⟨_, rfl, by decide⟩
   refine x_ ekt ?_
   walk_at "rd"
   refine ⟨L.nT, fun l e => (by cases e; exact ⟨okm.1, by omega⟩), .inl rfl, xd, [], L.s0.ch, by decide, itp nmm (itp hin (itn (by intro z; cases z) fun c G1 ec ek ecu ef eu eb fo fb J1 K1 N1 => ?_))⟩
   have S := L.s0
   have wn : ∀ {q}, ¬ WO ⟨xp, xd, xr, xk, xra, []⟩ y q -> q ∉ K7.own xd xr xk xra [] := fun h z => h (.inl z)
   have ap := L.a0 pn (wn fw)
   have K1' : Keep (xd :: ([] : List Acc).map (·.bl)) G G1 := K1
   have kf : ∀ e ∈ fix pn pcn pc pr pk nl cl s0 t0, G1 e.1 = some e.2 := fun e he => K1 _ _ (fx0 e he).1 fun m => wn (fx0 e he).2 (bw.mpr (.inl (List.mem_singleton.mp m)))
   have fr1 := kf _ (.tail _ (.tail _ (.tail _ (.head _))))
   have fk1 := kf _ (.tail _ (.tail _ (.tail _ (.tail _ (.head _)))))
   have fn1 := kf _ (.head _)
   refine ⟨_, _, .inl (SqL.of fr1), eR, _, _, .inl (SqL.of fk1), eK, _, _, .inl (SqL.of fn1), an, N1, by walk_at "om", fun p2 f2 => x_ ekt ⟨by walk_at "om", fun dq fdq => ?_⟩⟩
   obtain ⟨G2, ee, m2, g2, N2⟩ := cM (o := HO.tup [L2.T [116, 111, 112], L2.T n1, L2.T kt]) fdq N1 rfl
   rw [ee]
   have K2 : Keep (xd :: ([] : List Acc).map (·.bl)) G G2 := K1'.trans (Keep.same m2)
   obtain ⟨R2, k2⟩ := S.rows ap K2
   walk_at "rd"
   have ec : n1 = c.pa := by cases ec; rfl
   subst ec
   refine ⟨N2, xra, [], kds [], .top (L2.T c.pa) (L2.T kt), R2, fun _ m => (nomatch m), ap.rk, k2, by decide, by decide, g2, ?_⟩
   dsimp only [DnK]
   refine wJ rfl ⟨rfl, c, rfl, ecu, ef, eu, fun b G3 hb R3 k3 K3 N3 => ?_⟩
   have X := St1.more S ap (as0 := []) (c := c) fn_ rfl rfl fo fb (J1.same m2) K2 hb R3 K3 (by rw [k3, sI, if_neg (zO nmm), o_ _ rfl, ek]) N3 (Tree.nil.top rfl nmm eb (by rw [ek]; exact ⟨_, rfl⟩) (by rw [ecu]; rfl)) (show (0 : Nat) < 63 by decide)
   have W := X.held fn_ (wn fw) (New.refl N3 (X.kp _ _ fn_ (wn fw)))
   obtain ⟨L3, _, _, _⟩ := L.step fn_ fw hpn W
   obtain ⟨s', t', e1, e2, L4, l4, l5, fx4⟩ := back ⟨xp, xd, xr, xk, pt xra c.pa b, [c]⟩ G3 ⟨rfl, rfl, rfl, rfl⟩ rfl L3 fun e he => by
    obtain ⟨e1, n1⟩ := fx0 e he
    refine ⟨X.kp _ _ e1 (wn n1), fun z => ?_⟩
    rcases z with z | z
    ·rcases X.gr _ z with z | z
     ·exact n1 (.inl z)
     ·rw [e1] at z; cases z
    ·exact n1 (.inr z)
   exact ⟨s', t', _, e1, e2, L4, l4, l5, fx4, rfl⟩
  ·rintro σ' G' ⟨s, t, x7, es, et, L, l0, l1, fx, rfl⟩
   walk_at "rd"
   refine ⟨Nat.zero_le _, fun hd f1 => ?_⟩
   obtain ⟨G1, ee, m1, g1, N1⟩ := cM (o := HO.lst []) f1 L.nT rfl
   rw [ee]
   refine ⟨Nat.zero_le _, fun kp f2 => ?_⟩
   obtain ⟨G2, ee, m2, g2, N2⟩ := cM (o := HO.lst []) f2 N1 rfl
   rw [ee]
   have nw : ∀ q, G' q = none -> ¬ WO s t q := fun q e z => by
    rcases z with z | z
    ·exact L.s0.is z e
    ·exact L.s1.is z e
   have m12 := m1.trans m2
   refine c10 nl cl s0 t0 s t pn pcn pc pr pk hd kp bas bas G2 x7 ln nmn lc cun (L.sm.free f1) ⟨es, et, L.same m12 N2, by omega, ⟨fun z => (by rw [z] at l0; cases l0), fun z => (by rw [z] at l1; cases l1)⟩, m2 _ _ g1, nw _ f1, fun e he => ⟨m12 _ _ (fx e he).1, fun z => ?_⟩, .nil, g2, fun z => ?_, .nil⟩
   ·rcases z with z | z
    ·exact au (fx e he).1 f1 z
    ·exact (fx e he).2 z
   ·rcases z with z | z
    ·exact au g1 f2 z.symm
    ·exact nw _ (m1.free f2) z
 obtain ⟨u6, hu6, c6⟩ := c6
 refine ⟨hN, _, (af (lY (i0 := 1) ND rfl (Or.inl rfl) rfl (cl := _) (x := "_law_k") (xs := ["_law_k"]) (fr := ["_law_script"]) (ks := [0]) (by exact ⟨rfl, by decide +kernel, rfl, by decide +kernel, rfl, cI rfl, rfl, aW rfl, aW (k := fun y => List.lookup y _) rfl, cJ rfl⟩) rfl (dA rfl T.eG (FA.pa (aa ag ad))) (fun _ _ _ _ _ => (bv (i := 0) (fQ (l := ["_law_k", "_law_script"]) (by decide)) rfl (Or.inl rfl))) (fun _ _ _ _ _ => fI) (fun _ _ _ _ _ => (aN G__law_name_by (hr.mono (by decide)) rfl T.sT T.ic.kp b__law_name_by .nil mQ (FA.pa (aa (aN G__law_cell_at (hr.mono (by decide)) rfl T.hU T.dN.kp b__law_cell_at .nil mQ (FA.pa (aa (fv 1) (aa ag ad)))) (aa (fv 0) ad))))))
  (af (lY (i0 := 2) ND rfl (Or.inl rfl) rfl (cl := _) (x := "_law_k") (xs := ["_law_k"]) (fr := ["_law_script"]) (ks := [0]) (by exact ⟨rfl, by decide +kernel, rfl, by decide +kernel, rfl, cI rfl, rfl, aW rfl, aW (k := fun y => List.lookup y _) rfl, cJ rfl⟩) rfl (dA rfl T.eG (FA.pa (aa ag ad))) (fun _ _ _ _ _ => (bv (i := 0) (fQ (l := ["_law_k", "_law_script"]) (by decide)) rfl (Or.inl rfl))) (fun _ _ _ _ _ => fI) (fun _ _ _ _ _ => (aN G__law_currency_by (hr.mono (by decide)) rfl T.m7 T.eV.kp b__law_currency_by .nil mQ (FA.pa (aa (aN G__law_cell_at (hr.mono (by decide)) rfl T.hU T.dN.kp b__law_cell_at .nil mQ (FA.pa (aa (fv 1) (aa ag ad)))) (aa (fv 0) ad))))))
  (af (aT (i := 3) ND rfl (Or.inl rfl) (aB bt (aN G__law_cell_at (hr.mono (by decide)) rfl T.hU T.dN.kp b__law_cell_at .nil bb (FA.pa (aa (fv 0) (aa ag ad)))) ag))
  (af (aT (i := 4) ND rfl (Or.inl rfl) (bU (FA.pa (aa (uK T.xI G_Chart___init__ (hr.mono (by decide)) rfl T.Av b_Chart___init__ .nil bb) (aa (uK T.xI G_Chart___init__ (hr.mono (by decide)) rfl T.Av b_Chart___init__ .nil bb) ad)))))
  (af (aT (i := 5) ND rfl (Or.inl rfl) (bU (FA.pa (aa oj (aa oj ad)))))
  (af (aT (i := 6) ND rfl (Or.inl rfl) (bU (FA.pa (aa oj (aa oj ad)))))
  hu6)))))), ?_⟩
 walk_at "rd"
 generalize hce : ns.getD (Int.toNat 0) 0 = ce
 refine cmR (fun H' => NoT H' /\ Same H H') (fun D ys hD => ⟨az hN rfl, al _ hD⟩) 5 (fun _ => true) (fun j : Nat => L2.T (NB ce j)) (fun R r => ?_) (by omega) (fun j hj H' R c r => r) (fun j hj _ H' R c r => ?_) (fun pn fpn => ?_)
 ·walk_at "rd"
  exact r
 ·walk_at "rd"
  exact ⟨ns, hS.same c.2, c.1, by omega, by rw [hce]; exact r⟩
 obtain ⟨H1, ee, m1, g1, N1⟩ := cM (o := HO.lst (List.map (fun j : Nat => L2.T (NB ce j)) (List.filter (fun _ => true) (List.range 5)))) fpn hN rfl
 rw [ee]
 refine cmR (fun H' => NoT H' /\ Same H1 H') (fun D ys hD => ⟨az N1 rfl, al _ hD⟩) 3 (fun _ => true) (fun j : Nat => L2.T (CB ce j)) (fun R r => ?_) (by omega) (fun j hj H' R c r => r) (fun j hj _ H' R c r => ?_) (fun pcn fpc => ?_)
 ·walk_at "rd"
  exact r
 ·walk_at "rd"
  exact ⟨ns, hS.same (m1.trans c.2), c.1, by rw [hce]; exact r⟩
 obtain ⟨H2, ee, m2, g2, N2⟩ := cM (o := HO.lst (List.map (fun j : Nat => L2.T (CB ce j)) (List.filter (fun _ => true) (List.range 3)))) fpc N1 rfl
 rw [ee]
 refine ⟨ns, hS.same (m1.trans m2), ?_⟩
 intro p0 dx0 hp0 hdx0 ne0
 refine ⟨az (az N2 rfl) rfl, _, ae, fun d0 G0 hd0 J0 K0 M0 => ?_⟩
 intro p1 dx1 hp1 hdx1 ne1
 refine ⟨az (az M0 rfl) rfl, _, ae, fun d1 G1 hd1 J1 K1 M1 => ⟨by walk_at "om", fun pc fpc => ?_⟩⟩
 have q0 : Same H2 G0 := fun c z e => mf hp0 hdx0 K0 c z e List.not_mem_nil
 have q1 : Same G0 G1 := fun c z e => mf hp1 hdx1 K1 c z e List.not_mem_nil
 have fd0 := gU hd0
 have fd1 := gU hd1
 obtain ⟨A1, ee, b1, c1, NA1⟩ := cM (o := HO.lst [V.ref p0, V.ref p1]) fpc M1 rfl
 rw [ee]
 intro r0 fr0
 obtain ⟨A2, ee, b2, c2, NA2⟩ := cM (o := HO.dK []) fr0 NA1 rfl
 rw [ee]
 intro r1 fr1
 obtain ⟨A3, ee, b3, c3, NA3⟩ := cM (o := HO.dK []) fr1 NA2 rfl
 rw [ee]
 refine ⟨by walk_at "om", fun pr fpr => ?_⟩
 obtain ⟨A4, ee, b4, c4, NA4⟩ := cM (o := HO.lst [V.ref r0, V.ref r1]) fpr NA3 rfl
 rw [ee]
 intro k0 fk0
 obtain ⟨A5, ee, b5, c5, NA5⟩ := cM (o := HO.dK []) fk0 NA4 rfl
 rw [ee]
 intro k1 fk1
 obtain ⟨A6, ee, b6, c6x, NA6⟩ := cM (o := HO.dK []) fk1 NA5 rfl
 rw [ee]
 refine ⟨by walk_at "om", fun pk fpk => ?_⟩
 obtain ⟨A7, ee, b7, c7, NA7⟩ := cM (o := HO.lst [V.ref k0, V.ref k1]) fpk NA6 rfl
 rw [ee]
 have n_d0d1 : d0 ≠ d1 := au (J0.dc) fd1
 have n_d0r0 : d0 ≠ r0 := au (b1 _ _ (q1 _ _ (J0.dc))) fr0
 have n_d0r1 : d0 ≠ r1 := au (b2 _ _ (b1 _ _ (q1 _ _ (J0.dc)))) fr1
 have n_d0k0 : d0 ≠ k0 := au (b4 _ _ (b3 _ _ (b2 _ _ (b1 _ _ (q1 _ _ (J0.dc)))))) fk0
 have n_d0k1 : d0 ≠ k1 := au (b5 _ _ (b4 _ _ (b3 _ _ (b2 _ _ (b1 _ _ (q1 _ _ (J0.dc))))))) fk1
 have n_d1r0 : d1 ≠ r0 := au (b1 _ _ (J1.dc)) fr0
 have n_d1r1 : d1 ≠ r1 := au (b2 _ _ (b1 _ _ (J1.dc))) fr1
 have n_d1k0 : d1 ≠ k0 := au (b4 _ _ (b3 _ _ (b2 _ _ (b1 _ _ (J1.dc))))) fk0
 have n_d1k1 : d1 ≠ k1 := au (b5 _ _ (b4 _ _ (b3 _ _ (b2 _ _ (b1 _ _ (J1.dc)))))) fk1
 have n_r0r1 : r0 ≠ r1 := au (c2) fr1
 have n_r0k0 : r0 ≠ k0 := au (b4 _ _ (b3 _ _ (c2))) fk0
 have n_r0k1 : r0 ≠ k1 := au (b5 _ _ (b4 _ _ (b3 _ _ (c2)))) fk1
 have n_r1k0 : r1 ≠ k0 := au (b4 _ _ (c3)) fk0
 have n_r1k1 : r1 ≠ k1 := au (b5 _ _ (b4 _ _ (c3))) fk1
 have n_k0k1 : k0 ≠ k1 := au (c5) fk1
 have tG := ((m1.trans m2).trans q0).trans q1
 have t7 := ((((((b1.trans b2).trans b3).trans b4).trans b5).trans b6).trans b7)
 have t27 := b3.trans (b4.trans (b5.trans (b6.trans b7)))
 have z_d0 : A7 d0 = some (.dK []) := b7 _ _ (b6 _ _ (b5 _ _ (b4 _ _ (b3 _ _ (b2 _ _ (b1 _ _ (q1 _ _ (J0.dc))))))))
 have z_d1 : A7 d1 = some (.dK []) := b7 _ _ (b6 _ _ (b5 _ _ (b4 _ _ (b3 _ _ (b2 _ _ (b1 _ _ (J1.dc)))))))
 have z_r0 : A7 r0 = some (.dK []) := b7 _ _ (b6 _ _ (b5 _ _ (b4 _ _ (b3 _ _ (c2)))))
 have z_r1 : A7 r1 = some (.dK []) := b7 _ _ (b6 _ _ (b5 _ _ (b4 _ _ (c3))))
 have z_k0 : A7 k0 = some (.dK []) := b7 _ _ (b6 _ _ (c5))
 have z_k1 : A7 k1 = some (.dK []) := b7 _ _ (c6x)
 have mem : ∀ {d r k x : Addr}, x ∈ K7.own d r k (fun _ => 0) [] -> x = d \/ x = r \/ x = k := fun h => by
  rcases bw.mp h with z | z | z | ⟨c, hc, _⟩
  ·exact .inl z
  ·exact .inr (.inl z)
  ·exact .inr (.inr z)
  ·cases hc
 have mkS : ∀ {p d r k : Addr}, CAt a.aH a.ay A7 p d [] -> A7 r = some (.dK []) -> A7 k = some (.dK []) -> Sd a.aH a.ay A7 p d r k (fun _ => 0) [] := fun j e1 e2 => ⟨j, ⟨e1, fun _ m => nomatch m⟩, e2, Tree.nil, by decide⟩
 have mkA : ∀ {d r k : Addr} (h : Addr), r ≠ k -> d ≠ r -> d ≠ k -> Ap h d r k (fun _ => 0) [] := fun h e1 e2 e3 => ⟨e1, e2, e3, (fun _ m => nomatch m), (fun _ m => nomatch m), fun _ m => nomatch m⟩
 refine c6 ((List.range 5).map fun j : Nat => NB ce j) ((List.range 3).map fun j : Nat => CB ce j) ⟨p0, d0, r0, k0, fun _ => 0, []⟩ ⟨p1, d1, r1, k1, fun _ => 0, []⟩ pn pcn pc pr pk _ A7 (by simp) (fun n hn => ?_) (by simp) (fun n hn => ?_) fpn ⟨tG.trans t7, NA7, mkS (J0.same (q1.trans t7)) z_r0 z_k0, fun h _ => mkA h n_r0k0 n_d0r0 n_d0k0, mkS (J1.same t7) z_r1 z_k1, fun h _ => mkA h n_r1k1 n_d1r1 n_d1k1, fun x hx hy => ?_, fun x hx => ?_⟩ rfl rfl fun e he => ?_
 ·obtain ⟨j, hj, rfl⟩ := List.mem_map.mp hn
  have := List.mem_range.mp hj
  exact Hc (by omega) (by omega)
 ·obtain ⟨j, hj, rfl⟩ := List.mem_map.mp hn
  exact Fk _ _
 ·rcases mem hx with rfl | rfl | rfl
  ·rcases mem hy with z | z | z
   ·exact n_d0d1 z
   ·exact n_d0r1 z
   ·exact n_d0k1 z
  ·rcases mem hy with z | z | z
   ·exact n_d1r0.symm z
   ·exact n_r0r1 z
   ·exact n_r0k1 z
  ·rcases mem hy with z | z | z
   ·exact n_d1k0.symm z
   ·exact n_r1k0.symm z
   ·exact n_k0k1 z
 ·rcases hx with h | h
  ·rcases mem h with rfl | rfl | rfl
   ·exact ((m1.trans m2)).free fd0
   ·exact (tG.trans b1).free fr0
   ·exact ((((tG.trans b1).trans b2).trans b3).trans b4).free fk0
  ·rcases mem h with rfl | rfl | rfl
   ·exact ((m1.trans m2).trans q0).free fd1
   ·exact ((tG.trans b1).trans b2).free fr1
   ·exact (((((tG.trans b1).trans b2).trans b3).trans b4).trans b5).free fk1
 ·have dk : ∀ x, WO ⟨p0, d0, r0, k0, fun _ => 0, []⟩ ⟨p1, d1, r1, k1, fun _ => 0, []⟩ x -> A7 x = some (.dK []) := fun x h => by
   rcases h with h | h
   ·rcases mem h with z | z | z
    ·rw [z]; exact z_d0
    ·rw [z]; exact z_r0
    ·rw [z]; exact z_k0
   ·rcases mem h with z | z | z
    ·rw [z]; exact z_d1
    ·rw [z]; exact z_r1
    ·rw [z]; exact z_k1
  have fin : ∀ {q : Addr} {l : List V}, A7 q = some (.lst l) -> A7 q = some (.lst l) /\ ¬ WO ⟨p0, d0, r0, k0, fun _ => 0, []⟩ ⟨p1, d1, r1, k1, fun _ => 0, []⟩ q := fun h => ⟨h, fun z => by rw [dk _ z] at h; cases h⟩
  have f1 : List.filter (fun _ : Nat => true) (List.range 5) = List.range 5 := by decide
  have f2 : List.filter (fun _ : Nat => true) (List.range 3) = List.range 3 := by decide
  simp only [List.mem_cons, List.not_mem_nil, or_false] at he
  rcases he with rfl | rfl | rfl | rfl | rfl
  ·refine fin ((((m2.trans q0).trans q1).trans t7) _ _ ?_)
   rw [g1, f1, List.map_map]; rfl
  ·refine fin (((q0.trans q1).trans t7) _ _ ?_)
   rw [g2, f2, List.map_map]; rfl
  ·exact fin (((b2.trans t27)) _ _ c1)
  ·exact fin ((b5.trans (b6.trans b7)) _ _ c4)
  ·exact fin c7
theorem law_starts {H : Hp} {p : Addr} (hO : Bf H) (hS : SqL K H p (ns.map V.int)) (hl : ns.length <= 63) : sp_law K [.ref p] H (fun v _ => v = .bl true) fun _ _ _ => False := ⟨Dh hO, ns, hS, hl, rfl⟩
end
noncomputable abbrev fnQ (x q : String) (s : Stmt) (kV dc pm : Value) (an : Option Addr) (cd ct : Value) : FuncData := PySem.W.fnOf x q (aL s) (aC s) (ai s) .none kV dc pm an cd ct
noncomputable def NFn (K : W.Frag) (x : Str) (st : Stmt) (f : Addr) : Prop := PySem.W.nsIn K mainGlobals x = some (some (.ref f)) /\ ∃ d, Fun K x x st f d
noncomputable def MFn (K : W.Frag) (C : Addr) (m q : Str) (st : Stmt) (f : Addr) : Prop := (PySem.W.findIn K (.ref C) m = some (some (.ref f)) /\ PySem.W.isFn K (.ref f) = true) /\ ∃ d, Fun K m q st f d
noncomputable abbrev G9 (x q : Str) (s : Stmt) (kV dc pm : Value) (an : Option Addr) (cd ct : Value) : FuncData := PySem.W.fnOf x q (aL s) (aC s) (ai s) .none kV dc pm an cd ct
theorem nf_mk {K : W.Frag} {qual : Str} {st : Stmt} {f : Addr} {oc : Value} {od an : Option Addr} {osl : Array (Option Value)} {kV doc pm cdv ct : Value} (a : PySem.W.nsIn K mainGlobals qual = some (some (.ref f))) (l : K.lookup f = some ⟨oc, od, .func (G9 qual qual st kV doc pm an cdv ct), osl⟩) (c : PySem.W.codeIn K cdv qual = true) (k : PySem.W.keepIn K (.ref f) = true) : NFn K qual st f := ⟨a, _, yC l c k⟩
theorem mf_mk {K : W.Frag} {x qual : Str} {st : Stmt} {f C : Addr} {oc : Value} {od an : Option Addr} {osl : Array (Option Value)} {kV doc pm cdv ct : Value} (a : PySem.W.findIn K (.ref C) x = some (some (.ref f))) (i : PySem.W.isFn K (.ref f) = true) (l : K.lookup f = some ⟨oc, od, .func (G9 x qual st kV doc pm an cdv ct), osl⟩) (c : PySem.W.codeIn K cdv qual = true) (k : PySem.W.keepIn K (.ref f) = true) : MFn K C x qual st f := ⟨⟨a, i⟩, _, yC l c k⟩
open PySem.W in
theorem all_mk {l : OpenLaw} {w : World} {K : Frag} {h : Heap} {mg : Str -> Option Value} {fa : Addr} (X : K.In h) (G : h.Ns mainGlobals mg) (hfa : mg "law" = some (.ref fa))
 {C0 C1 C2 C3 C4 C5 C6 C7 C8 C9 C10 C11 : Addr}
 {f0 f1 f2 f3 f4 f5 f6 f7 f8 f9 f10 f11 f12 f13 f14 f15 f16 f17 f18 f19 f20 f21 f22 f23 f24 f25 f26 f27 f28 f29 f30 f31 f32 f33 f34 f35 f36 f37 f38 f39 f40 f41 f42 f43 f44 f45 f46 f47 f48 : Addr} {od an : Option Addr} {sl : Array (Option Value)} {oc kV dc pm cd ct : Value}
 {cl0 : ClassData}
 {cl1 : ClassData}
 {cl2 : ClassData}
 {cl3 : ClassData}
 {cl4 : ClassData}
 {cl5 : ClassData}
 {cl6 : ClassData}
 {cl7 : ClassData}
 {cl8 : ClassData}
 {cl9 : ClassData}
 {D0 : Addr} {dd0 : Option Addr} {dsl0 : Array (Option Value)} {dn0 : Nat} {tk0 tk1 tk2 tk3 tk4 : Tok}
 (p0 : nsIn K mainGlobals "HouseError" = some (some (.ref C0)))
 (p1 : nsIn K mainGlobals "BadName" = some (some (.ref C1)))
 (p2 : nsIn K mainGlobals "BadDay" = some (some (.ref C2)))
 (p3 : nsIn K mainGlobals "BadCurrency" = some (some (.ref C3)))
 (p4 : nsIn K mainGlobals "BadPath" = some (some (.ref C4)))
 (p5 : nsIn K mainGlobals "BadKind" = some (some (.ref C5)))
 (p6 : nsIn K mainGlobals "NoAccount" = some (some (.ref C6)))
 (p7 : nsIn K mainGlobals "Twice" = some (some (.ref C7)))
 (p8 : nsIn K mainGlobals "NotOpen" = some (some (.ref C8)))
 (p9 : nsIn K mainGlobals "HasBelow" = some (some (.ref C9)))
 (p10 : nsIn K mainGlobals "Account" = some (some (.ref C10)))
 (p11 : nsIn K mainGlobals "Chart" = some (some (.ref C11)))
 (l0 : NFn K "is_whole" eJ f0)
 (l1 : NFn K "is_among" eX f1)
 (l2 : NFn K "signs_lie" dH f2)
 (l3 : NFn K "is_name" fH f3)
 (l4 : NFn K "is_day" h_ f4)
 (l5 : NFn K "is_currency" cQ f5)
 (l6 : NFn K "are_names" dF f6)
 (l7 : NFn K "is_path" fG f7)
 (l8 : NFn K "names_of" eL f8)
 (l9 : NFn K "above" jP f9)
 (l10 : NFn K "_law_cell_at" cD f10)
 (l11 : NFn K "_law_name_by" cB f11)
 (l12 : NFn K "_law_currency_by" bN f12)
 (l13 : NFn K "_law_read" dI f13)
 (l14 : NFn K "_law_word" cY f14)
 (l15 : NFn K "_law_is_day" cT f15)
 (l16 : NFn K "_law_top_due" cE f16)
 (l17 : NFn K "_law_is_currency" bP f17)
 (l18 : NFn K "_law_add_due" cC f18)
 (l19 : NFn K "_law_shut_due" cv f19)
 (l20 : NFn K "_law_due" eW f20)
 (l21 : NFn K "_law_done" dG f21)
 (l22 : NFn K "_law_told" dM f22)
 (l23 : NFn K "_law_odd" eT f23)
 (l24 : NFn K "_law_deed" cK f24)
 (l25 : NFn K "_law_way_good" bH f25)
 (l26 : NFn K "_law_one_good" cq f26)
 (l27 : NFn K "_law_asked" dg f27)
 (l28 : NFn K "_law_none_good" bC f28)
 (l29 : NFn K "_law_listed" cS f29)
 (l30 : NFn K "_law_went_good" bB f30)
 (l31 : NFn K "_law_again_good" bz f31)
 (l32 : NFn K "_law_end_good" bL f32)
 (a33 : nsIn K mainGlobals "law" = some (some (.ref f33))) (l33 : K.lookup f33 = some ⟨oc, od, .func (fnQ "law" "law" e9 kV dc pm an cd ct), sl⟩) (c33 : codeIn K cd "law" = true) (k33 : keepIn K (.ref f33) = true)
 (l34 : MFn K C10 "__init__" "Account.__init__" bO f34)
 (l35 : MFn K C10 "stands_on" "Account.stands_on" bE f35)
 (l36 : MFn K C10 "stands_later" "Account.stands_later" bq f36)
 (l37 : MFn K C11 "__init__" "Chart.__init__" bW f37)
 (l38 : MFn K C11 "add_top" "Chart.add_top" cw f38)
 (l39 : MFn K C11 "add" "Chart.add" cH f39)
 (l40 : MFn K C11 "shut" "Chart.shut" df f40)
 (l41 : MFn K C11 "has" "Chart.has" dL f41)
 (l42 : MFn K C11 "account" "Chart.account" cr f42)
 (l43 : MFn K C11 "kind_of" "Chart.kind_of" cp f43)
 (l44 : MFn K C11 "currency_of" "Chart.currency_of" bF f44)
 (l45 : MFn K C11 "span_of" "Chart.span_of" cg f45)
 (l46 : MFn K C11 "is_open" "Chart.is_open" cf f46)
 (l47 : MFn K C11 "beneath" "Chart.beneath" cj f47)
 (l48 : MFn K C11 "accounts" "Chart.accounts" bY f48)
 (pg10 : plainGet K C10 Str.empty = true) (hd10 : hasDictIn K C10 = true) (po10 : plainOver K C10 = true) (sa10 : findIn K (.ref C10) "__setattr__" = some (some (.builtin "object.__setattr__"))) (mk10 : makesIn K C10 = true) (kc10 : keepIn K (.ref C10) = true)
 (na10_0 : findIn K (.ref C10) "kind" = some none)
 (na10_1 : findIn K (.ref C10) "currency" = some none)
 (na10_2 : findIn K (.ref C10) "first" = some none)
 (na10_3 : findIn K (.ref C10) "until" = some none)
 (na10_4 : findIn K (.ref C10) "below" = some none)
 (pg11 : plainGet K C11 Str.empty = true) (hd11 : hasDictIn K C11 = true) (po11 : plainOver K C11 = true) (sa11 : findIn K (.ref C11) "__setattr__" = some (some (.builtin "object.__setattr__"))) (mk11 : makesIn K C11 = true) (kc11 : keepIn K (.ref C11) = true)
 (na11_0 : findIn K (.ref C11) "by_path" = some none)
 (o0 : clsIn K C0 = some cl0) (r0 : typeIn K (.ref C0) = some (.type "type")) (b0 : mroIn K C0 (.type "BaseException") = some true)
 (o1 : clsIn K C1 = some cl1) (r1 : typeIn K (.ref C1) = some (.type "type")) (b1 : mroIn K C1 (.type "BaseException") = some true)
 (o2 : clsIn K C2 = some cl2) (r2 : typeIn K (.ref C2) = some (.type "type")) (b2 : mroIn K C2 (.type "BaseException") = some true)
 (o3 : clsIn K C3 = some cl3) (r3 : typeIn K (.ref C3) = some (.type "type")) (b3 : mroIn K C3 (.type "BaseException") = some true)
 (o4 : clsIn K C4 = some cl4) (r4 : typeIn K (.ref C4) = some (.type "type")) (b4 : mroIn K C4 (.type "BaseException") = some true)
 (o5 : clsIn K C5 = some cl5) (r5 : typeIn K (.ref C5) = some (.type "type")) (b5 : mroIn K C5 (.type "BaseException") = some true)
 (o6 : clsIn K C6 = some cl6) (r6 : typeIn K (.ref C6) = some (.type "type")) (b6 : mroIn K C6 (.type "BaseException") = some true)
 (o7 : clsIn K C7 = some cl7) (r7 : typeIn K (.ref C7) = some (.type "type")) (b7 : mroIn K C7 (.type "BaseException") = some true)
 (o8 : clsIn K C8 = some cl8) (r8 : typeIn K (.ref C8) = some (.type "type")) (b8 : mroIn K C8 (.type "BaseException") = some true)
 (o9 : clsIn K C9 = some cl9) (r9 : typeIn K (.ref C9) = some (.type "type")) (b9 : mroIn K C9 (.type "BaseException") = some true)
 (g3 : mroIn K C3 (.type "object") = some true) (v3 : mroIn K C3 (.type "ValueError") = some true) (u3 : findIn K (.ref C3) "__getattribute__" = some (some (.builtin "BaseException.__getattribute__"))) (w3 : findIn K (.ref C3) "__getattr__" = some none) (y3 : findIn K (.ref C3) "__class__" = some (some (.builtin "object.__class__")))
 (s3_0 : mroIn K C3 (.ref C0) = some true)
 (s3_1 : mroIn K C3 (.ref C1) = some false)
 (s3_2 : mroIn K C3 (.ref C2) = some false)
 (s3_3 : mroIn K C3 (.ref C3) = some true)
 (s3_4 : mroIn K C3 (.ref C4) = some false)
 (s3_5 : mroIn K C3 (.ref C5) = some false)
 (s3_6 : mroIn K C3 (.ref C6) = some false)
 (s3_7 : mroIn K C3 (.ref C7) = some false)
 (s3_8 : mroIn K C3 (.ref C8) = some false)
 (s3_9 : mroIn K C3 (.ref C9) = some false)
 (g2 : mroIn K C2 (.type "object") = some true) (v2 : mroIn K C2 (.type "ValueError") = some true) (u2 : findIn K (.ref C2) "__getattribute__" = some (some (.builtin "BaseException.__getattribute__"))) (w2 : findIn K (.ref C2) "__getattr__" = some none) (y2 : findIn K (.ref C2) "__class__" = some (some (.builtin "object.__class__")))
 (s2_0 : mroIn K C2 (.ref C0) = some true)
 (s2_1 : mroIn K C2 (.ref C1) = some false)
 (s2_2 : mroIn K C2 (.ref C2) = some true)
 (s2_3 : mroIn K C2 (.ref C3) = some false)
 (s2_4 : mroIn K C2 (.ref C4) = some false)
 (s2_5 : mroIn K C2 (.ref C5) = some false)
 (s2_6 : mroIn K C2 (.ref C6) = some false)
 (s2_7 : mroIn K C2 (.ref C7) = some false)
 (s2_8 : mroIn K C2 (.ref C8) = some false)
 (s2_9 : mroIn K C2 (.ref C9) = some false)
 (g5 : mroIn K C5 (.type "object") = some true) (v5 : mroIn K C5 (.type "ValueError") = some true) (u5 : findIn K (.ref C5) "__getattribute__" = some (some (.builtin "BaseException.__getattribute__"))) (w5 : findIn K (.ref C5) "__getattr__" = some none) (y5 : findIn K (.ref C5) "__class__" = some (some (.builtin "object.__class__")))
 (s5_0 : mroIn K C5 (.ref C0) = some true)
 (s5_1 : mroIn K C5 (.ref C1) = some false)
 (s5_2 : mroIn K C5 (.ref C2) = some false)
 (s5_3 : mroIn K C5 (.ref C3) = some false)
 (s5_4 : mroIn K C5 (.ref C4) = some false)
 (s5_5 : mroIn K C5 (.ref C5) = some true)
 (s5_6 : mroIn K C5 (.ref C6) = some false)
 (s5_7 : mroIn K C5 (.ref C7) = some false)
 (s5_8 : mroIn K C5 (.ref C8) = some false)
 (s5_9 : mroIn K C5 (.ref C9) = some false)
 (g1 : mroIn K C1 (.type "object") = some true) (v1 : mroIn K C1 (.type "ValueError") = some true) (u1 : findIn K (.ref C1) "__getattribute__" = some (some (.builtin "BaseException.__getattribute__"))) (w1 : findIn K (.ref C1) "__getattr__" = some none) (y1 : findIn K (.ref C1) "__class__" = some (some (.builtin "object.__class__")))
 (s1_0 : mroIn K C1 (.ref C0) = some true)
 (s1_1 : mroIn K C1 (.ref C1) = some true)
 (s1_2 : mroIn K C1 (.ref C2) = some false)
 (s1_3 : mroIn K C1 (.ref C3) = some false)
 (s1_4 : mroIn K C1 (.ref C4) = some false)
 (s1_5 : mroIn K C1 (.ref C5) = some false)
 (s1_6 : mroIn K C1 (.ref C6) = some false)
 (s1_7 : mroIn K C1 (.ref C7) = some false)
 (s1_8 : mroIn K C1 (.ref C8) = some false)
 (s1_9 : mroIn K C1 (.ref C9) = some false)
 (g4 : mroIn K C4 (.type "object") = some true) (v4 : mroIn K C4 (.type "ValueError") = some true) (u4 : findIn K (.ref C4) "__getattribute__" = some (some (.builtin "BaseException.__getattribute__"))) (w4 : findIn K (.ref C4) "__getattr__" = some none) (y4 : findIn K (.ref C4) "__class__" = some (some (.builtin "object.__class__")))
 (s4_0 : mroIn K C4 (.ref C0) = some true)
 (s4_1 : mroIn K C4 (.ref C1) = some false)
 (s4_2 : mroIn K C4 (.ref C2) = some false)
 (s4_3 : mroIn K C4 (.ref C3) = some false)
 (s4_4 : mroIn K C4 (.ref C4) = some true)
 (s4_5 : mroIn K C4 (.ref C5) = some false)
 (s4_6 : mroIn K C4 (.ref C6) = some false)
 (s4_7 : mroIn K C4 (.ref C7) = some false)
 (s4_8 : mroIn K C4 (.ref C8) = some false)
 (s4_9 : mroIn K C4 (.ref C9) = some false)
 (g9 : mroIn K C9 (.type "object") = some true) (v9 : mroIn K C9 (.type "ValueError") = some true) (u9 : findIn K (.ref C9) "__getattribute__" = some (some (.builtin "BaseException.__getattribute__"))) (w9 : findIn K (.ref C9) "__getattr__" = some none) (y9 : findIn K (.ref C9) "__class__" = some (some (.builtin "object.__class__")))
 (s9_0 : mroIn K C9 (.ref C0) = some true)
 (s9_1 : mroIn K C9 (.ref C1) = some false)
 (s9_2 : mroIn K C9 (.ref C2) = some false)
 (s9_3 : mroIn K C9 (.ref C3) = some false)
 (s9_4 : mroIn K C9 (.ref C4) = some false)
 (s9_5 : mroIn K C9 (.ref C5) = some false)
 (s9_6 : mroIn K C9 (.ref C6) = some false)
 (s9_7 : mroIn K C9 (.ref C7) = some false)
 (s9_8 : mroIn K C9 (.ref C8) = some false)
 (s9_9 : mroIn K C9 (.ref C9) = some true)
 (g6 : mroIn K C6 (.type "object") = some true) (v6 : mroIn K C6 (.type "ValueError") = some true) (u6 : findIn K (.ref C6) "__getattribute__" = some (some (.builtin "BaseException.__getattribute__"))) (w6 : findIn K (.ref C6) "__getattr__" = some none) (y6 : findIn K (.ref C6) "__class__" = some (some (.builtin "object.__class__")))
 (s6_0 : mroIn K C6 (.ref C0) = some true)
 (s6_1 : mroIn K C6 (.ref C1) = some false)
 (s6_2 : mroIn K C6 (.ref C2) = some false)
 (s6_3 : mroIn K C6 (.ref C3) = some false)
 (s6_4 : mroIn K C6 (.ref C4) = some false)
 (s6_5 : mroIn K C6 (.ref C5) = some false)
 (s6_6 : mroIn K C6 (.ref C6) = some true)
 (s6_7 : mroIn K C6 (.ref C7) = some false)
 (s6_8 : mroIn K C6 (.ref C8) = some false)
 (s6_9 : mroIn K C6 (.ref C9) = some false)
 (g8 : mroIn K C8 (.type "object") = some true) (v8 : mroIn K C8 (.type "ValueError") = some true) (u8 : findIn K (.ref C8) "__getattribute__" = some (some (.builtin "BaseException.__getattribute__"))) (w8 : findIn K (.ref C8) "__getattr__" = some none) (y8 : findIn K (.ref C8) "__class__" = some (some (.builtin "object.__class__")))
 (s8_0 : mroIn K C8 (.ref C0) = some true)
 (s8_1 : mroIn K C8 (.ref C1) = some false)
 (s8_2 : mroIn K C8 (.ref C2) = some false)
 (s8_3 : mroIn K C8 (.ref C3) = some false)
 (s8_4 : mroIn K C8 (.ref C4) = some false)
 (s8_5 : mroIn K C8 (.ref C5) = some false)
 (s8_6 : mroIn K C8 (.ref C6) = some false)
 (s8_7 : mroIn K C8 (.ref C7) = some false)
 (s8_8 : mroIn K C8 (.ref C8) = some true)
 (s8_9 : mroIn K C8 (.ref C9) = some false)
 (g7 : mroIn K C7 (.type "object") = some true) (v7 : mroIn K C7 (.type "ValueError") = some true) (u7 : findIn K (.ref C7) "__getattribute__" = some (some (.builtin "BaseException.__getattribute__"))) (w7 : findIn K (.ref C7) "__getattr__" = some none) (y7 : findIn K (.ref C7) "__class__" = some (some (.builtin "object.__class__")))
 (s7_0 : mroIn K C7 (.ref C0) = some true)
 (s7_1 : mroIn K C7 (.ref C1) = some false)
 (s7_2 : mroIn K C7 (.ref C2) = some false)
 (s7_3 : mroIn K C7 (.ref C3) = some false)
 (s7_4 : mroIn K C7 (.ref C4) = some false)
 (s7_5 : mroIn K C7 (.ref C5) = some false)
 (s7_6 : mroIn K C7 (.ref C6) = some false)
 (s7_7 : mroIn K C7 (.ref C7) = some true)
 (s7_8 : mroIn K C7 (.ref C8) = some false)
 (s7_9 : mroIn K C7 (.ref C9) = some false)
 (d0 : nsIn K mainGlobals "KINDS" = some (some (.ref D0))) (e0 : K.lookup D0 = some ⟨.type "tuple", dd0, .seq #[.str ⟨#[104, 97, 118, 101]⟩ tk0, .str ⟨#[111, 119, 101]⟩ tk1, .str ⟨#[111, 119, 110]⟩ tk2, .str ⟨#[103, 97, 105, 110]⟩ tk3, .str ⟨#[99, 111, 115, 116]⟩ tk4] dn0, dsl0⟩)
 (z0 : nsIn K mainGlobals "ValueError" = some none)
 (z1 : nsIn K mainGlobals "abs" = some none)
 (z2 : nsIn K mainGlobals "all" = some none)
 (z3 : nsIn K mainGlobals "any" = some none)
 (z4 : nsIn K mainGlobals "bool" = some none)
 (z5 : nsIn K mainGlobals "enumerate" = some none)
 (z6 : nsIn K mainGlobals "int" = some none)
 (z7 : nsIn K mainGlobals "isinstance" = some none)
 (z8 : nsIn K mainGlobals "len" = some none)
 (z9 : nsIn K mainGlobals "list" = some none)
 (z10 : nsIn K mainGlobals "min" = some none)
 (z11 : nsIn K mainGlobals "range" = some none)
 (z12 : nsIn K mainGlobals "sorted" = some none)
 (z13 : nsIn K mainGlobals "str" = some none)
 (z14 : nsIn K mainGlobals "tuple" = some none)
 (q3 : excIn K C3 [.type "ValueError", .type "Exception", .type "BaseException", .type "object"] "ValueError.__new__" = true)
 (q2 : excIn K C2 [.type "ValueError", .type "Exception", .type "BaseException", .type "object"] "ValueError.__new__" = true)
 (q5 : excIn K C5 [.type "ValueError", .type "Exception", .type "BaseException", .type "object"] "ValueError.__new__" = true)
 (q1 : excIn K C1 [.type "ValueError", .type "Exception", .type "BaseException", .type "object"] "ValueError.__new__" = true)
 (q4 : excIn K C4 [.type "ValueError", .type "Exception", .type "BaseException", .type "object"] "ValueError.__new__" = true)
 (q9 : excIn K C9 [.type "ValueError", .type "Exception", .type "BaseException", .type "object"] "ValueError.__new__" = true)
 (q6 : excIn K C6 [.type "ValueError", .type "Exception", .type "BaseException", .type "object"] "ValueError.__new__" = true)
 (q8 : excIn K C8 [.type "ValueError", .type "Exception", .type "BaseException", .type "object"] "ValueError.__new__" = true)
 (q7 : excIn K C7 [.type "ValueError", .type "Exception", .type "BaseException", .type "object"] "ValueError.__new__" = true)
 : ∃ fd : FuncData, (∀ (s : Shared) (v : Value), BindsTo s fd ⟨[v], []⟩ [("_law_script", v)]) /\ ∀ base : Heap, K.In base -> base.Ns mainGlobals mg -> bQ l.prog w K mg base (XE l.prog w) 11 fa fd ["_law_script"] (sp_law K) := by
  have e := hfa.symm.trans (mg_of X G a33)
  cases e
  have T : Txt K mg ⟨f0, l0.2.choose, f1, l1.2.choose, f2, l2.2.choose, f3, l3.2.choose, f4, l4.2.choose, f5, l5.2.choose, f6, l6.2.choose, f7, l7.2.choose, f8, l8.2.choose, f9, l9.2.choose, f10, l10.2.choose, f11, l11.2.choose, f12, l12.2.choose, f13, l13.2.choose, f14, l14.2.choose, f15, l15.2.choose, f16, l16.2.choose, f17, l17.2.choose, f18, l18.2.choose, f19, l19.2.choose, f20, l20.2.choose, f21, l21.2.choose, f22, l22.2.choose, f23, l23.2.choose, f24, l24.2.choose, f25, l25.2.choose, f26, l26.2.choose, f27, l27.2.choose, f28, l28.2.choose, f29, l29.2.choose, f30, l30.2.choose, f31, l31.2.choose, f32, l32.2.choose, fa, fnQ "law" "law" e9 kV dc pm an cd ct, f34, l34.2.choose, f35, l35.2.choose, f36, l36.2.choose, f37, l37.2.choose, f38, l38.2.choose, f39, l39.2.choose, f40, l40.2.choose, f41, l41.2.choose, f42, l42.2.choose, f43, l43.2.choose, f44, l44.2.choose, f45, l45.2.choose, f46, l46.2.choose, f47, l47.2.choose, f48, l48.2.choose, C0, C1, C2, C3, C4, C5, C6, C7, C8, C9, C10, C11, D0⟩ := ⟨l0.2.choose_spec, mg_of X G l0.1, l1.2.choose_spec, mg_of X G l1.1, l2.2.choose_spec, mg_of X G l2.1, l3.2.choose_spec, mg_of X G l3.1, l4.2.choose_spec, mg_of X G l4.1, l5.2.choose_spec, mg_of X G l5.1, l6.2.choose_spec, mg_of X G l6.1, l7.2.choose_spec, mg_of X G l7.1, l8.2.choose_spec, mg_of X G l8.1, l9.2.choose_spec, mg_of X G l9.1, l10.2.choose_spec, mg_of X G l10.1, l11.2.choose_spec, mg_of X G l11.1, l12.2.choose_spec, mg_of X G l12.1, l13.2.choose_spec, mg_of X G l13.1, l14.2.choose_spec, mg_of X G l14.1, l15.2.choose_spec, mg_of X G l15.1, l16.2.choose_spec, mg_of X G l16.1, l17.2.choose_spec, mg_of X G l17.1, l18.2.choose_spec, mg_of X G l18.1, l19.2.choose_spec, mg_of X G l19.1, l20.2.choose_spec, mg_of X G l20.1, l21.2.choose_spec, mg_of X G l21.1, l22.2.choose_spec, mg_of X G l22.1, l23.2.choose_spec, mg_of X G l23.1, l24.2.choose_spec, mg_of X G l24.1, l25.2.choose_spec, mg_of X G l25.1, l26.2.choose_spec, mg_of X G l26.1, l27.2.choose_spec, mg_of X G l27.1, l28.2.choose_spec, mg_of X G l28.1, l29.2.choose_spec, mg_of X G l29.1, l30.2.choose_spec, mg_of X G l30.1, l31.2.choose_spec, mg_of X G l31.1, l32.2.choose_spec, mg_of X G l32.1, yC (st := e9) l33 c33 k33, mg_of X G a33, l34.2.choose_spec, ⟨l34.1.1, l34.1.2, l34.2.choose_spec.kp⟩, l35.2.choose_spec, ⟨l35.1.1, l35.1.2, l35.2.choose_spec.kp⟩, l36.2.choose_spec, ⟨l36.1.1, l36.1.2, l36.2.choose_spec.kp⟩, l37.2.choose_spec, ⟨l37.1.1, l37.1.2, l37.2.choose_spec.kp⟩, l38.2.choose_spec, ⟨l38.1.1, l38.1.2, l38.2.choose_spec.kp⟩, l39.2.choose_spec, ⟨l39.1.1, l39.1.2, l39.2.choose_spec.kp⟩, l40.2.choose_spec, ⟨l40.1.1, l40.1.2, l40.2.choose_spec.kp⟩, l41.2.choose_spec, ⟨l41.1.1, l41.1.2, l41.2.choose_spec.kp⟩, l42.2.choose_spec, ⟨l42.1.1, l42.1.2, l42.2.choose_spec.kp⟩, l43.2.choose_spec, ⟨l43.1.1, l43.1.2, l43.2.choose_spec.kp⟩, l44.2.choose_spec, ⟨l44.1.1, l44.1.2, l44.2.choose_spec.kp⟩, l45.2.choose_spec, ⟨l45.1.1, l45.1.2, l45.2.choose_spec.kp⟩, l46.2.choose_spec, ⟨l46.1.1, l46.1.2, l46.2.choose_spec.kp⟩, l47.2.choose_spec, ⟨l47.1.1, l47.1.2, l47.2.choose_spec.kp⟩, l48.2.choose_spec, ⟨l48.1.1, l48.1.2, l48.2.choose_spec.kp⟩, mg_of X G p0, mg_of X G p1, mg_of X G p2, mg_of X G p3, mg_of X G p4, mg_of X G p5, mg_of X G p6, mg_of X G p7, mg_of X G p8, mg_of X G p9, mg_of X G p10, mg_of X G p11, ⟨pg10, hd10, po10, sa10⟩, na10_0, na10_1, na10_2, na10_3, na10_4, ⟨mk10, l34.1.1, l34.1.2, kc10⟩, ⟨pg11, hd11, po11, sa11⟩, na11_0, ⟨mk11, l37.1.1, l37.1.2, kc11⟩, q3, ⟨u3, w3, y3, (by rw [o3]; rfl), g3, b3⟩, dU o0 r0 b0 s3_0, ao o3 r3 s3_3 s3_3, ao o2 r2 s3_3 s3_2, ao o5 r5 s3_3 s3_5, ao o1 r1 s3_3 s3_1, ao o4 r4 s3_3 s3_4, ao o9 r9 s3_3 s3_9, ao o6 r6 s3_3 s3_6, ao o8 r8 s3_3 s3_8, ao o7 r7 s3_3 s3_7, dP v3, q2, ⟨u2, w2, y2, (by rw [o2]; rfl), g2, b2⟩, dU o0 r0 b0 s2_0, ao o3 r3 s2_2 s2_3, ao o2 r2 s2_2 s2_2, ao o5 r5 s2_2 s2_5, ao o1 r1 s2_2 s2_1, ao o4 r4 s2_2 s2_4, ao o9 r9 s2_2 s2_9, ao o6 r6 s2_2 s2_6, ao o8 r8 s2_2 s2_8, ao o7 r7 s2_2 s2_7, dP v2, q5, ⟨u5, w5, y5, (by rw [o5]; rfl), g5, b5⟩, dU o0 r0 b0 s5_0, ao o3 r3 s5_5 s5_3, ao o2 r2 s5_5 s5_2, ao o5 r5 s5_5 s5_5, ao o1 r1 s5_5 s5_1, ao o4 r4 s5_5 s5_4, ao o9 r9 s5_5 s5_9, ao o6 r6 s5_5 s5_6, ao o8 r8 s5_5 s5_8, ao o7 r7 s5_5 s5_7, dP v5, q1, ⟨u1, w1, y1, (by rw [o1]; rfl), g1, b1⟩, dU o0 r0 b0 s1_0, ao o3 r3 s1_1 s1_3, ao o2 r2 s1_1 s1_2, ao o5 r5 s1_1 s1_5, ao o1 r1 s1_1 s1_1, ao o4 r4 s1_1 s1_4, ao o9 r9 s1_1 s1_9, ao o6 r6 s1_1 s1_6, ao o8 r8 s1_1 s1_8, ao o7 r7 s1_1 s1_7, dP v1, q4, ⟨u4, w4, y4, (by rw [o4]; rfl), g4, b4⟩, dU o0 r0 b0 s4_0, ao o3 r3 s4_4 s4_3, ao o2 r2 s4_4 s4_2, ao o5 r5 s4_4 s4_5, ao o1 r1 s4_4 s4_1, ao o4 r4 s4_4 s4_4, ao o9 r9 s4_4 s4_9, ao o6 r6 s4_4 s4_6, ao o8 r8 s4_4 s4_8, ao o7 r7 s4_4 s4_7, dP v4, q9, ⟨u9, w9, y9, (by rw [o9]; rfl), g9, b9⟩, dU o0 r0 b0 s9_0, ao o3 r3 s9_9 s9_3, ao o2 r2 s9_9 s9_2, ao o5 r5 s9_9 s9_5, ao o1 r1 s9_9 s9_1, ao o4 r4 s9_9 s9_4, ao o9 r9 s9_9 s9_9, ao o6 r6 s9_9 s9_6, ao o8 r8 s9_9 s9_8, ao o7 r7 s9_9 s9_7, dP v9, q6, ⟨u6, w6, y6, (by rw [o6]; rfl), g6, b6⟩, dU o0 r0 b0 s6_0, ao o3 r3 s6_6 s6_3, ao o2 r2 s6_6 s6_2, ao o5 r5 s6_6 s6_5, ao o1 r1 s6_6 s6_1, ao o4 r4 s6_6 s6_4, ao o9 r9 s6_6 s6_9, ao o6 r6 s6_6 s6_6, ao o8 r8 s6_6 s6_8, ao o7 r7 s6_6 s6_7, dP v6, q8, ⟨u8, w8, y8, (by rw [o8]; rfl), g8, b8⟩, dU o0 r0 b0 s8_0, ao o3 r3 s8_8 s8_3, ao o2 r2 s8_8 s8_2, ao o5 r5 s8_8 s8_5, ao o1 r1 s8_8 s8_1, ao o4 r4 s8_8 s8_4, ao o9 r9 s8_8 s8_9, ao o6 r6 s8_8 s8_6, ao o8 r8 s8_8 s8_8, ao o7 r7 s8_8 s8_7, dP v8, q7, ⟨u7, w7, y7, (by rw [o7]; rfl), g7, b7⟩, dU o0 r0 b0 s7_0, ao o3 r3 s7_7 s7_3, ao o2 r2 s7_7 s7_2, ao o5 r5 s7_7 s7_5, ao o1 r1 s7_7 s7_1, ao o4 r4 s7_7 s7_4, ao o9 r9 s7_7 s7_9, ao o6 r6 s7_7 s7_6, ao o8 r8 s7_7 s7_8, ao o7 r7 s7_7 s7_7, dP v7, mg_of X G d0, ⟨_, _, _, e0, rfl, rfl, (by show 5 <= sizeLine; decide), (.cons ⟨_, rfl⟩ (.cons ⟨_, rfl⟩ (.cons ⟨_, rfl⟩ (.cons ⟨_, rfl⟩ (.cons ⟨_, rfl⟩ .nil)))))⟩, mg_none_of X G z0, mg_none_of X G z1, mg_none_of X G z2, mg_none_of X G z3, mg_none_of X G z4, mg_none_of X G z5, mg_none_of X G z6, mg_none_of X G z7, mg_none_of X G z8, mg_none_of X G z9, mg_none_of X G z10, mg_none_of X G z11, mg_none_of X G z12, mg_none_of X G z13, mg_none_of X G z14⟩
  exact ⟨fnQ "law" "law" e9 kV dc pm an cd ct, fun s v => .of_eq rfl, fun base _ _ => FM T⟩
end K7
open PySem PySem.W PyProof.Rows
set_option maxRecDepth 100000 in
set_option maxHeartbeats 0 in
theorem PySem.Challenge.cw_evenhall_k07_a_chart_by_plain_rows_holds : PySem.Challenge.rw_evenhall_k07_a_chart_by_plain_rows.Holds := by
 w_on
 refine PySem.W.holds_law K7.ws fun said => ?_
 refine PySem.W.holds_open (q := K7.vw) (loose := []) (Xt := fun s => PySem.W.xlAt K7.vw [] s && PySem.W.recOk (PySem.W.RowW.records (PySem.W.OpenRow.toRowW (PySem.W.OpenLaw.row PySem.Challenge.rw_evenhall_k07_a_chart_by_plain_rows))) s) (XP := PySem.W.XL K7.vw []) (Yf := PySem.W.Hook.obs (PySem.W.kHook K7.frag K7.adrs K7.adrs_eq)) (Ya := PySem.W.Hook.val (PySem.W.kHook K7.frag K7.adrs K7.adrs_eq)) (YP := PySem.W.Hook.says (PySem.W.kHook K7.frag K7.adrs K7.adrs_eq)) (N := 8852) K7.left (PySem.W.Hook.of (PySem.W.kHook K7.frag K7.adrs K7.adrs_eq)) (PySem.W.Hook.keeps (PySem.W.kHook K7.frag K7.adrs K7.adrs_eq))
  (fun s e => PySem.W.xl_of s (Bool.and_eq_true_iff.mp e).1) PySem.W.XL.keeps (by rfl) (by rfl) (by rfl) (fun s e => PySem.W.recFacts_of (Bool.and_eq_true_iff.mp e).2) (by rfl) (by assumption) (by decide +kernel) ⟨rfl, rfl, rfl, rfl, rfl, by decide +kernel⟩ ?hw ?hc
 (case hw => w_witness2)
 k_fill
 refine L2.BL (l := PySem.Challenge.rw_evenhall_k07_a_chart_by_plain_rows) (n := 63) (k := 11) (x := "_law_script") (sp := K7.sp_law) rfl (by decide) rfl ⟨rfl, by decide, by decide⟩ (fun w h Y => PySem.W.kIn_of Y) ?F ?S
 case F =>
  intro w mg fa h KX G hmg
  refine' K7.all_mk KX G hmg ?_ ?_ ?_ ?_ ?_ ?_ ?_ ?_ ?_ ?_ ?_ ?_ ?_ ?_ ?_ ?_ ?_ ?_ ?_ ?_ ?_ ?_ ?_ ?_ ?_ ?_ ?_ ?_ ?_ ?_ ?_ ?_ ?_ ?_ ?_ ?_ ?_ ?_ ?_ ?_ ?_ ?_ ?_ ?_ ?_ ?_ ?_ ?_ ?_ ?_ ?_ ?_ ?_ ?_ ?_ ?_ ?_ ?_ ?_ ?_ ?_ ?_ ?_ ?_ ?_ ?_ ?_ ?_ ?_ ?_ ?_ ?_ ?_ ?_ ?_ ?_ ?_ ?_ ?_ ?_ ?_ ?_ ?_ ?_ ?_ ?_ ?_ ?_ ?_ ?_ ?_ ?_ ?_ ?_ ?_ ?_ ?_ ?_ ?_ ?_ ?_ ?_ ?_ ?_ ?_ ?_ ?_ ?_ ?_ ?_ ?_ ?_ ?_ ?_ ?_ ?_ ?_ ?_ ?_ ?_ ?_ ?_ ?_ ?_ ?_ ?_ ?_ ?_ ?_ ?_ ?_ ?_ ?_ ?_ ?_ ?_ ?_ ?_ ?_ ?_ ?_ ?_ ?_ ?_ ?_ ?_ ?_ ?_ ?_ ?_ ?_ ?_ ?_ ?_ ?_ ?_ ?_ ?_ ?_ ?_ ?_ ?_ ?_ ?_ ?_ ?_ ?_ ?_ ?_ ?_ ?_ ?_ ?_ ?_ ?_ ?_ ?_ ?_ ?_ ?_ ?_ ?_ ?_ ?_ ?_ ?_ ?_ ?_ ?_ ?_ ?_ ?_ ?_ ?_ ?_ ?_ ?_ ?_ ?_ ?_ ?_ ?_ ?_ ?_ ?_ ?_ ?_ ?_ ?_ ?_ ?_ ?_ ?_ ?_ ?_ ?_ ?_ ?_ ?_ ?_ ?_ ?_ ?_ ?_ ?_ ?_ ?_ ?_ ?_ ?_ ?_ ?_ ?_ ?_ ?_ ?_ ?_ ?_ ?_ ?_ ?_ ?_ ?_ ?_ ?_ ?_ ?_ ?_ ?_ ?_ ?_ ?_ ?_ ?_ ?_ ?_ ?_ ?_ ?_ ?_ ?_ ?_ ?_ ?_ ?_ ?_ ?_ ?_ ?_ ?_ ?_ ?_ ?_
  all_goals try first | k_is | k_exc | refine' K7.nf_mk ?_ ?_ ?_ ?_ | refine' K7.mf_mk ?_ ?_ ?_ ?_ ?_
  all_goals try first | k_is | k_exc
  all_goals try first | k_is | k_exc
 case S => exact fun K H a ns hl hO hS => K7.law_starts hO hS hl
