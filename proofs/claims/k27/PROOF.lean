import PyProof.Rows.All
import KE.KUnpack
import PyProof.DictTruth
import PyProof.DictWalks
import PyProof.Rows.SortKeyStr
import KE.KItem
import KE.KTupSum
import KE.KEqDict
import KE.KFromBytes
import KE.KIntText
import KE.KRevIter
import KE.KDictOf
import KE.LcSums
import KE.KDictSum
import KE.KTryMore
import OpenK.KLine
import OpenK.KOwn
import Wide.Line
import Wide.FinOn
import PyProof.MaxThree
import Lean
import PySem.Challenge.RW_evenhall_k27_days_of_standing_orders
set_option Elab.async false
set_option linter.all false
set_option maxRecDepth 100000
namespace L2
open PySem
noncomputable def e9 (s : Stmt) (j : Nat) : Stmt := match s with
 | .ClassDef _ _ _ body _ _ _ _ _ _ _ => body.getD j (.Pass ⟨0, 0, 0, 0⟩)
 | _ => .Pass ⟨0, 0, 0, 0⟩
noncomputable def aF (s : Stmt) : Arguments := match s with
 | .FunctionDef _ a _ _ _ _ _ _ _ _ => a
 | _ => { posonlyargs := [], args := [], vararg := none, kwonlyargs := [], kw_defaults := [], kwarg := none, defaults := [] }
noncomputable def av (s : Stmt) : List Stmt := match s with
 | .FunctionDef _ _ b _ _ _ _ _ _ _ => b
 | _ => []
noncomputable def af (s : Stmt) : Scope := match s with
 | .FunctionDef _ _ _ _ _ _ sc _ _ _ => sc
 | _ => { kind := .function, names := [], isGenerator := false, isCoroutine := false }
end L2
namespace K27
open PySem L2
noncomputable def top (i : Nat) : Stmt := PySem.Challenge.pw_evenhall_k27_days_of_standing_orders.main.body.getD i (.Pass ⟨0, 0, 0, 0⟩)
noncomputable abbrev dN : Stmt := top 11
noncomputable abbrev dS : Stmt := top 12
noncomputable abbrev cY : Stmt := top 13
noncomputable abbrev eO : Stmt := top 14
noncomputable abbrev eB : Stmt := top 15
noncomputable abbrev dq : Stmt := top 17
noncomputable abbrev cJ : Stmt := top 18
noncomputable abbrev f_ : Stmt := top 20
noncomputable abbrev di : Stmt := top 21
noncomputable abbrev gF : Stmt := top 24
noncomputable abbrev dO : Stmt := top 25
noncomputable abbrev dk : Stmt := top 26
noncomputable abbrev df : Stmt := top 27
noncomputable abbrev dP : Stmt := top 28
noncomputable abbrev dR : Stmt := top 29
noncomputable abbrev eu : Stmt := top 30
noncomputable abbrev de : Stmt := top 32
noncomputable abbrev cg : Stmt := top 36
noncomputable abbrev cc : Stmt := top 37
noncomputable abbrev cX : Stmt := top 38
noncomputable abbrev dQ : Stmt := top 39
noncomputable abbrev cz : Stmt := top 40
noncomputable abbrev cP : Stmt := top 41
noncomputable abbrev dg : Stmt := top 42
noncomputable abbrev da : Stmt := top 43
noncomputable abbrev aM : Stmt := top 44
noncomputable abbrev db : Stmt := top 45
noncomputable abbrev bG : Stmt := top 46
noncomputable abbrev bX : Stmt := top 47
noncomputable abbrev bW : Stmt := top 48
noncomputable abbrev cf : Stmt := top 49
noncomputable abbrev bw : Stmt := top 50
noncomputable abbrev aV : Stmt := top 51
noncomputable abbrev cZ : Stmt := top 52
noncomputable abbrev bT : Stmt := top 53
noncomputable abbrev bE : Stmt := top 54
noncomputable abbrev bj : Stmt := top 55
noncomputable abbrev bu : Stmt := top 56
noncomputable abbrev bo : Stmt := top 57
noncomputable abbrev dU : Stmt := top 58
noncomputable abbrev aX : Stmt := e9 (top 33) 0
noncomputable abbrev bq : Stmt := e9 (top 34) 0
noncomputable abbrev cr : Stmt := e9 (top 34) 1
noncomputable abbrev bL : Stmt := e9 (top 34) 2
noncomputable abbrev bY : Stmt := e9 (top 34) 3
noncomputable abbrev bM : Stmt := e9 (top 34) 4
noncomputable abbrev bK : Stmt := e9 (top 34) 5
noncomputable abbrev bV : Stmt := e9 (top 34) 6
noncomputable abbrev bU : Stmt := e9 (top 34) 7
noncomputable abbrev bZ : Stmt := e9 (top 34) 8
end K27
namespace TR
open PySem PySem.W
def go (p : Program) (w : World) (lo : Nat) (an : Option Value) : Nat -> SharedT -> Thread -> Option SharedT
 | 0, _, _ => none
 | k + 1, x, th => match through th with
  | true => some x
  | false => match stepOk lo an th with
   | false => none
   | true => match stepT (denote treeTable) p w x th with
    | none => none
    | some y => go p w lo an k y.1 y.2
theorem pG {p : Program} {w : World} {lo : Nat} {an : Option Value} (k : Nat) : ∀ {x y : SharedT} {th : Thread}, go p w lo an k x th = some y -> topRun treeTable p w lo an k x.abs th = some y.abs := by
 induction k with
 | zero => intro x y th e; cases e
 | succ k ih =>
  intro x y th e
  unfold go at e
  unfold topRun
  revert e
  cases through th with
  | true => intro e; cases e; rfl
  | false =>
   cases stepOk lo an th with
   | false => intro e; cases e
   | true =>
    dsimp only
    cases z : stepT (denote treeTable) p w x th with
    | none => intro e; cases e
    | some v =>
     intro e
     obtain ⟨v1, v2⟩ := v
     rw [stepT_spec z]
     exact ih e
noncomputable def lookB (p : Program) (b : Heap) (s : Shared) : Bool := staticsOk (importedModules p.main.body) b s.heap && namesBound p s.heap && gensDone s && laidKept b s.heap
noncomputable def look (p : Program) (P : Params) (s : Shared) : Bool := lookB p (boot_heap P) s
theorem left {p q : Program} {ls : List Str} {Xt : Shared -> Bool} {β : Type} {Yf : Shared -> β} {Ya : World -> β} {N lo : Nat} {an : Option Value} {tr : Params -> BT}
 (ho : ∀ w : World, (fencedOpening treeTable p w N).map (fun s => (s.heap, s.gens, s.drawn, s.toks)) = some (boot_heap w.params, Array.mk [], boot_drawn, boot_toks))
 (hz : ∀ P : Params, ((boot_heap P).isNs mainGlobals, (boot_heap P).objs.size, (boot_heap P).nsMap mainGlobals "__annotations__") = (true, lo, an))
 (ht : ∀ P : Params, absHeap (tr P) lo (boot_heap P).life = boot_heap P)
 (hr : ∀ w : World, (fun os => (go p w lo an N ⟨tr w.params, lo, (boot_heap w.params).life, Array.mk [], boot_drawn, boot_toks, os⟩ (topStub p)).map fun x => (look p w.params x.abs, openSeen q ls (importedModules p.main.body) Xt true x.abs, Yf x.abs)) = fun _ => some (true, openGood q ls, Ya w)) :
 LeftO p q ls Xt Yf Ya N := by
 intro w
 obtain ⟨⟨h, g, d, k, os⟩, e1, e2⟩ := Option.map_eq_some_iff.mp (ho w)
 simp only [Prod.mk.injEq] at e2
 obtain ⟨rfl, rfl, rfl, rfl⟩ := e2
 have z := hz w.params
 simp only [Prod.mk.injEq] at z
 obtain ⟨z1, z2, z3⟩ := z
 obtain ⟨x, r1, r2⟩ := Option.map_eq_some_iff.mp (congrFun (hr w) os)
 simp only [Prod.mk.injEq] at r2
 obtain ⟨l1, l2, l3⟩ := r2
 have t := pG _ r1
 have ab : SharedT.abs ⟨tr w.params, lo, (boot_heap w.params).life, Array.mk [], boot_drawn, boot_toks, os⟩ = ⟨boot_heap w.params, Array.mk [], boot_drawn, boot_toks, os⟩ := by
  show Shared.mk (absHeap (tr w.params) lo (boot_heap w.params).life) _ _ _ _ = _
  rw [ht]
 rw [ab] at t
 have f : topFrom treeTable p w N ⟨boot_heap w.params, Array.mk [], boot_drawn, boot_toks, os⟩ = some x.abs := by
  unfold topFrom
  dsimp only
  rw [z1, z2, z3, t]
  show (match look p w.params x.abs with | true => some x.abs | false => none) = _
  rw [l1]
 unfold openEnds
 rw [e1]
 show (topFrom treeTable p w N _).map _ = _
 rw [f]
 show some (_, _) = _
 rw [l2, l3]
theorem three {α β γ δ : Type} {o : Option α} {f : α -> β} {g : α -> γ} {h : α -> δ} {a : β} {b : γ} {c : δ} (e1 : o.map f = some a) (e2 : o.map g = some b) (e3 : o.map h = some c) : o.map (fun x => (f x, g x, h x)) = some (a, b, c) := by
 cases o with
 | none => cases e1
 | some x => cases e1; cases e2; cases e3; rfl
end TR
namespace K27
open PySem L2
abbrev kS (s : String) : Str := Str.ofString s
abbrev kR (a : Addr) : Value := .ref a
abbrev kY (s : String) : Value := .type s
abbrev kB (s : String) : Value := .builtin s
abbrev kZ (s : Str) (t : Tok) : Value := .str s t
abbrev kN : Value := .none
abbrev kD (h : Int) (k v : Value) : DictEntry := ⟨h, k, v⟩
abbrev kO (c : Value) (d : Option Addr) (t : Data) (s : Array (Option Value)) : Obj := ⟨c, d, t, s⟩
abbrev keyHash := PyData.keyHash
abbrev kE (P : Params) (s : String) (t : Tok) (v : Value) : DictEntry := ⟨keyHash P (kS s), kZ (kS s) t, v⟩
abbrev kI (i : Int) (t : Tok) : Value := .int i t
abbrev kz (s : String) (t : Tok) : Value := kZ (kS s) t
abbrev kC (t : Tok) : Value := kz "/claim/cut.py" t
abbrev kT (x : Array Value) : Obj := kO (kY "tuple") none (.seq x 0) #[]
abbrev kU : Value := .bool true
noncomputable abbrev q0 (a : String) (b : Nat) (c : String) (d : Nat) (e : Nat) (f : Int) (g : Int) (h : Nat) (i : Nat) (j : Nat) (k : Nat) (l : Nat) (m : Int) (n : Nat) : Obj := (kO (kY "code") none (Data.fields #[(kz a b), (kz c d), (kC e), (kI f 0), (kI g 0), (kI 0 0), (kI 0 0), (kI 3 0), (kR h), kU, (kI 181 0), (kR i), kN, (kR j), (kR k), (kR l), (kI m 0), (kI f 0), (kC n)]) #[])
noncomputable abbrev q1 (a : String) (b : Nat) (c : Nat) (d : Int) (e : Nat) : Obj := (kO (kY "function") none (Data.func (FuncData.mk (kS "small_words") (kS a) (Arguments.mk [] [(Arg.mk (kS "self") none (Pos.mk b 20 b 24))] none [] [] none []) (FuncBody.stmts [(Stmt.Expr (Expr.Call (Expr.Name (kS "_wall") (Pos.mk c 8 c 13)) [(Expr.Constant (Const.int d) 0 (Pos.mk c 14 c 15))] [] (Pos.mk c 8 c 16)) (Pos.mk c 8 c 16))]) (Scope.mk ScopeKind.function [((kS "self"), NameKind.local), ((kS "_wall"), NameKind.globalImplicit)] false false []) 3 [] kN kN kN (kz "evenhall.errors" 194) none (kR e) kN 0)) #[])
noncomputable abbrev q2 (a : String) (b : Nat) (c : String) (d : Nat) (e : Nat) (f : Int) (g : Int) (h : Nat) (i : Nat) (j : Nat) (k : Int) (l : Nat) : Obj := (kO (kY "code") none (Data.fields #[(kz a b), (kz c d), (kC e), (kI f 0), (kI g 0), (kI 0 0), (kI 0 0), (kI 3 0), (kR h), kU, (kI 181 0), (kR i), kN, kN, kN, (kR j), (kI k 0), (kI f 0), (kC l)]) #[])
noncomputable abbrev q3 (a : String) (b : Nat) (c : Nat) (d : Nat) (e : Nat) (f : Nat) : Obj := (kO (kY "type") none (Data.cls (ClassData.mk (kS a) [(kR 31)] [(kR b), (kR 31), (kY "ValueError"), (kY "Exception"), (kY "BaseException"), (kY "object")] c (kS a) true [] [] false none false)) #[(some (kR d)), none, (some (kz a e)), (some (kz a f)), (some (kB "ValueError.__new__")), (some kU)])
noncomputable abbrev q4 (P : Params) (a : Nat) (b : Nat) (c : Int) (d : Nat) (e : String) (f : Nat) (g : Nat) (h : String) (i : Nat) (j : Nat) (k : Nat) (l : Nat) : Obj := (kO (kY "dict") none (Data.dict #[(kE P "__module__" a (kz "evenhall.errors" 194)), (kE P "__firstlineno__" b (kI c d)), (kE P e f (kR g)), (kE P h i (kR j)), (kE P "__doc__" k kN)] l) #[])
noncomputable abbrev q5 (a : String) (b : Nat) (c : Nat) (d : Nat) (e : Nat) : Obj := (kO (kY "type") none (Data.cls (ClassData.mk (kS a) [(kY "object")] [(kR b), (kY "object")] c (kS a) true [] [] false none false)) #[none, none, (some (kz a d)), (some (kz a e)), (some (kB "object.__new__")), (some kU)])
noncomputable abbrev q6 (a : Nat) (b : Nat) : Obj := (kO (kY "getset_descriptor") none (Data.fields #[(kz "__weakref__" a), (kR b), (kB "ExceptionGroup.__weakref__"), kN]) #[])
noncomputable abbrev q7 (a : Nat) (b : Nat) : Obj := (kO (kY "getset_descriptor") none (Data.fields #[(kz "__dict__" a), (kR b), (kB "function.__dict__"), (kB "function.__dict__#set")]) #[])
set_option maxRecDepth 100000 in
noncomputable def frag (P : Params) : W.Frag :=
(nat_lit 2, (kO kN none (Data.dict #[] 0) #[]))::
(nat_lit 3, (kO (kY "dict") none (Data.dict #[(kE P "__name__" 165 (kz "law_evenhall_k27_days_of_standing_orders" 656)), (kE P "__doc__" 166 kN), (kE P "__package__" 167 kN), (kE P "__loader__" 168 (kB "__main__.__loader__#opaque")), (kE P "__spec__" 169 kN), (kE P "__annotations__" 170 (kR 6)), (kE P "__builtins__" 171 (kR 4)), (kE P "__file__" 173 (kC 172)), (kE P "__cached__" 174 kN), (kE P "_wall" 193 (kR 21)), (kE P "HouseError" 213 (kR 31)), (kE P "BadName" 236 (kR 51)), (kE P "BadNote" 259 (kR 70)), (kE P "BadDay" 282 (kR 89)), (kE P "BadCount" 305 (kR 108)), (kE P "Twice" 328 (kR 127)), (kE P "BadRow" 351 (kR 146)), (kE P "NoOrder" 374 (kR 165)), (kE P "is_whole" 383 (kR 174)), (kE P "is_among" 392 (kR 181)), (kE P "signs_lie" 398 (kR 186)), (kE P "is_name" 405 (kR 193)), (kE P "is_note" 412 (kR 200)), (kE P "is_amount" 421 (kR 207)), (kE P "is_currency" 428 (kR 214)), (kE P "is_row" 437 (kR 221)), (kE P "need_form" 445 (kR 228)), (kE P "LENGTHS" 460 (kR 229)), (kE P "is_day" 467 (kR 236)), (kE P "is_month" 474 (kR 243)), (kE P "leap_days" 481 (kR 250)), (kE P "first_day" 491 (kR 257)), (kE P "last_day" 498 (kR 264)), (kE P "month_of" 506 (kR 271)), (kE P "stepped" 517 (kR 278)), (kE P "days_from" 525 (kR 283)), (kE P "StandingOrder" 560 (kR 300)), (kE P "Standing" 655 (kR 375)), (kE P "_law_cell_at" 665 (kR 386)), (kE P "_law_name_by" 671 (kR 391)), (kE P "_law_long" 679 (kR 398)), (kE P "_law_day" 690 (kR 405)), (kE P "_law_left" 706 (kR 412)), (kE P "_law_word" 714 (kR 419)), (kE P "_law_note" 720 (kR 424)), (kE P "_law_rows" 731 (kR 431)), (kE P "_law_spoilt" 751 (kR 438)), (kE P "_law_told" 762 (kR 445)), (kE P "_law_names_good" 772 (kR 452)), (kE P "_law_way_good" 778 (kR 457)), (kE P "_law_one_good" 791 (kR 464)), (kE P "_law_put" 804 (kR 471)), (kE P "_law_odd_good" 816 (kR 478)), (kE P "_law_other_good" 822 (kR 483)), (kE P "_law_made" 837 (kR 490)), (kE P "_law_met_good" 848 (kR 497)), (kE P "_law_again_good" 860 (kR 504)), (kE P "_law_none_good" 866 (kR 509)), (kE P "_law_end_good" 872 (kR 514)), (kE P "_law_deed_good" 887 (kR 521)), (kE P "law" 893 (kR 526))] 61) #[]))::
(nat_lit 15, (kT #[]))::
(nat_lit 17, (kT #[(kz "k" 190)]))::
(nat_lit 18, (kT #[]))::
(nat_lit 20, (q0 "_wall" 187 "_wall" 188 189 1 1 15 16 17 18 19 191 192))::
(nat_lit 21, (kO (kY "function") none (Data.func (FuncData.mk (kS "_wall") (kS "_wall") (Arguments.mk [] [(Arg.mk (kS "k") none (Pos.mk 1 10 1 11))] none [] [] none []) (FuncBody.stmts [(Stmt.While (Expr.Constant (Const.bool true) 0 (Pos.mk 2 10 2 14)) [(Stmt.Pass (Pos.mk 3 8 3 12))] [] (Pos.mk 2 4 3 12))]) (Scope.mk ScopeKind.function [((kS "k"), NameKind.local)] false false []) 3 [] kN kN kN (kz "__main__" 164) none (kR 20) kN 0)) #[]))::
(nat_lit 22, (kT #[(kY "ValueError")]))::
(nat_lit 29, (kT #[]))::
(nat_lit 30, (q4 P 203 207 5 206 "__static_attributes__" 208 29 "__weakref__" 210 32 211 3))::
(nat_lit 31, (kO (kY "type") none (Data.cls (ClassData.mk (kS "HouseError") [(kY "ValueError")] [(kR 31), (kY "ValueError"), (kY "Exception"), (kY "BaseException"), (kY "object")] 30 (kS "HouseError") true [] [(kR 51), (kR 70), (kR 89), (kR 108), (kR 127), (kR 146), (kR 165)] false none false)) #[(some (kR 22)), none, (some (kz "HouseError" 196)), (some (kz "HouseError" 204)), (some (kB "ValueError.__new__")), (some kU)]))::
(nat_lit 32, (q6 209 31))::
(nat_lit 35, (kT #[(kR 31)]))::
(nat_lit 42, (kT #[]))::
(nat_lit 44, (kT #[(kz "self" 229)]))::
(nat_lit 45, (kT #[]))::
(nat_lit 47, (q0 "small_words" 226 "BadName.small_words" 227 228 9 1 42 43 44 45 46 230 231))::
(nat_lit 48, (q1 "BadName.small_words" 9 10 0 47))::
(nat_lit 49, (kT #[]))::
(nat_lit 50, (q4 P 221 225 7 224 "small_words" 232 48 "__static_attributes__" 233 49 234 2))::
(nat_lit 51, (q3 "BadName" 51 50 35 214 222))::
(nat_lit 54, (kT #[(kR 31)]))::
(nat_lit 61, (kT #[]))::
(nat_lit 63, (kT #[(kz "self" 252)]))::
(nat_lit 64, (kT #[]))::
(nat_lit 66, (q0 "small_words" 249 "BadNote.small_words" 250 251 13 1 61 62 63 64 65 253 254))::
(nat_lit 67, (q1 "BadNote.small_words" 13 14 1 66))::
(nat_lit 68, (kT #[]))::
(nat_lit 69, (q4 P 244 248 11 247 "small_words" 255 67 "__static_attributes__" 256 68 257 2))::
(nat_lit 70, (q3 "BadNote" 70 69 54 237 245))::
(nat_lit 73, (kT #[(kR 31)]))::
(nat_lit 80, (kT #[]))::
(nat_lit 82, (kT #[(kz "self" 275)]))::
(nat_lit 83, (kT #[]))::
(nat_lit 85, (q0 "small_words" 272 "BadDay.small_words" 273 274 17 1 80 81 82 83 84 276 277))::
(nat_lit 86, (q1 "BadDay.small_words" 17 18 2 85))::
(nat_lit 87, (kT #[]))::
(nat_lit 88, (q4 P 267 271 15 270 "small_words" 278 86 "__static_attributes__" 279 87 280 2))::
(nat_lit 89, (q3 "BadDay" 89 88 73 260 268))::
(nat_lit 92, (kT #[(kR 31)]))::
(nat_lit 99, (kT #[]))::
(nat_lit 101, (kT #[(kz "self" 298)]))::
(nat_lit 102, (kT #[]))::
(nat_lit 104, (q0 "small_words" 295 "BadCount.small_words" 296 297 21 1 99 100 101 102 103 299 300))::
(nat_lit 105, (q1 "BadCount.small_words" 21 22 3 104))::
(nat_lit 106, (kT #[]))::
(nat_lit 107, (q4 P 290 294 19 293 "small_words" 301 105 "__static_attributes__" 302 106 303 2))::
(nat_lit 108, (q3 "BadCount" 108 107 92 283 291))::
(nat_lit 111, (kT #[(kR 31)]))::
(nat_lit 118, (kT #[]))::
(nat_lit 120, (kT #[(kz "self" 321)]))::
(nat_lit 121, (kT #[]))::
(nat_lit 123, (q0 "small_words" 318 "Twice.small_words" 319 320 25 1 118 119 120 121 122 322 323))::
(nat_lit 124, (q1 "Twice.small_words" 25 26 4 123))::
(nat_lit 125, (kT #[]))::
(nat_lit 126, (q4 P 313 317 23 316 "small_words" 324 124 "__static_attributes__" 325 125 326 2))::
(nat_lit 127, (q3 "Twice" 127 126 111 306 314))::
(nat_lit 130, (kT #[(kR 31)]))::
(nat_lit 137, (kT #[]))::
(nat_lit 139, (kT #[(kz "self" 344)]))::
(nat_lit 140, (kT #[]))::
(nat_lit 142, (q0 "small_words" 341 "BadRow.small_words" 342 343 29 1 137 138 139 140 141 345 346))::
(nat_lit 143, (q1 "BadRow.small_words" 29 30 5 142))::
(nat_lit 144, (kT #[]))::
(nat_lit 145, (q4 P 336 340 27 339 "small_words" 347 143 "__static_attributes__" 348 144 349 2))::
(nat_lit 146, (q3 "BadRow" 146 145 130 329 337))::
(nat_lit 149, (kT #[(kR 31)]))::
(nat_lit 156, (kT #[]))::
(nat_lit 158, (kT #[(kz "self" 367)]))::
(nat_lit 159, (kT #[]))::
(nat_lit 161, (q0 "small_words" 364 "NoOrder.small_words" 365 366 33 1 156 157 158 159 160 368 369))::
(nat_lit 162, (q1 "NoOrder.small_words" 33 34 6 161))::
(nat_lit 163, (kT #[]))::
(nat_lit 164, (q4 P 359 363 31 362 "small_words" 370 162 "__static_attributes__" 371 163 372 2))::
(nat_lit 165, (q3 "NoOrder" 165 164 149 352 360))::
(nat_lit 168, (kT #[]))::
(nat_lit 170, (kT #[(kz "thing" 380)]))::
(nat_lit 171, (kT #[]))::
(nat_lit 173, (q0 "is_whole" 377 "is_whole" 378 379 36 1 168 169 170 171 172 381 382))::
(nat_lit 174, (kO (kY "function") none (Data.func (PySem.W.fnOf (kS "is_whole") (kS "is_whole") (aF dN) (av dN) (af dN) kN kN kN (kz "evenhall.words" 375) none (kR 173) kN)) #[]))::
(nat_lit 175, (kT #[]))::
(nat_lit 177, (kT #[(kz "thing" 387), (kz "least" 388), (kz "most" 389)]))::
(nat_lit 178, (kT #[]))::
(nat_lit 180, (q0 "is_among" 384 "is_among" 385 386 38 3 175 176 177 178 179 390 391))::
(nat_lit 181, (kO (kY "function") none (Data.func (PySem.W.fnOf (kS "is_among") (kS "is_among") (aF dS) (av dS) (af dS) kN kN kN (kz "evenhall.words" 375) none (kR 180) kN)) #[]))::
(nat_lit 182, (kT #[]))::
(nat_lit 185, (q2 "signs_lie" 393 "signs_lie" 394 395 40 3 182 183 184 396 397))::
(nat_lit 186, (kO (kY "function") none (Data.func (PySem.W.fnOf (kS "signs_lie") (kS "signs_lie") (aF cY) (av cY) (af cY) kN kN kN (kz "evenhall.words" 375) none (kR 185) kN)) #[]))::
(nat_lit 187, (kT #[]))::
(nat_lit 189, (kT #[(kz "thing" 402)]))::
(nat_lit 190, (kT #[]))::
(nat_lit 192, (q0 "is_name" 399 "is_name" 400 401 42 1 187 188 189 190 191 403 404))::
(nat_lit 193, (kO (kY "function") none (Data.func (PySem.W.fnOf (kS "is_name") (kS "is_name") (aF eO) (av eO) (af eO) kN kN kN (kz "evenhall.words" 375) none (kR 192) kN)) #[]))::
(nat_lit 194, (kT #[]))::
(nat_lit 196, (kT #[(kz "thing" 409)]))::
(nat_lit 197, (kT #[]))::
(nat_lit 199, (q0 "is_note" 406 "is_note" 407 408 44 1 194 195 196 197 198 410 411))::
(nat_lit 200, (kO (kY "function") none (Data.func (PySem.W.fnOf (kS "is_note") (kS "is_note") (aF eB) (av eB) (af eB) kN kN kN (kz "evenhall.words" 375) none (kR 199) kN)) #[]))::
(nat_lit 201, (kT #[]))::
(nat_lit 203, (kT #[(kz "thing" 418)]))::
(nat_lit 204, (kT #[]))::
(nat_lit 206, (q0 "is_amount" 415 "is_amount" 416 417 51 1 201 202 203 204 205 419 420))::
(nat_lit 207, (kO (kY "function") none (Data.func (PySem.W.fnOf (kS "is_amount") (kS "is_amount") (aF dq) (av dq) (af dq) kN kN kN (kz "evenhall.money" 413) none (kR 206) kN)) #[]))::
(nat_lit 208, (kT #[]))::
(nat_lit 210, (kT #[(kz "thing" 425)]))::
(nat_lit 211, (kT #[]))::
(nat_lit 213, (q0 "is_currency" 422 "is_currency" 423 424 53 1 208 209 210 211 212 426 427))::
(nat_lit 214, (kO (kY "function") none (Data.func (PySem.W.fnOf (kS "is_currency") (kS "is_currency") (aF cJ) (av cJ) (af cJ) kN kN kN (kz "evenhall.money" 413) none (kR 213) kN)) #[]))::
(nat_lit 215, (kT #[]))::
(nat_lit 217, (kT #[(kz "thing" 434)]))::
(nat_lit 218, (kT #[]))::
(nat_lit 220, (q0 "is_row" 431 "is_row" 432 433 56 1 215 216 217 218 219 435 436))::
(nat_lit 221, (kO (kY "function") none (Data.func (PySem.W.fnOf (kS "is_row") (kS "is_row") (aF f_) (av f_) (af f_) kN kN kN (kz "evenhall.bookings" 429) none (kR 220) kN)) #[]))::
(nat_lit 222, (kT #[]))::
(nat_lit 224, (kT #[(kz "rows" 441), (kz "row" 442)]))::
(nat_lit 225, (kT #[]))::
(nat_lit 227, (q0 "need_form" 438 "need_form" 439 440 60 1 222 223 224 225 226 443 444))::
(nat_lit 228, (kO (kY "function") none (Data.func (PySem.W.fnOf (kS "need_form") (kS "need_form") (aF di) (av di) (af di) kN kN kN (kz "evenhall.bookings" 429) none (kR 227) kN)) #[]))::
(nat_lit 229, (kT #[(kI 31 448), (kI 28 449), (kI 31 450), (kI 30 451), (kI 31 452), (kI 30 453), (kI 31 454), (kI 31 455), (kI 30 456), (kI 31 457), (kI 30 458), (kI 31 459)]))::
(nat_lit 230, (kT #[]))::
(nat_lit 232, (kT #[(kz "thing" 464)]))::
(nat_lit 233, (kT #[]))::
(nat_lit 235, (q0 "is_day" 461 "is_day" 462 463 68 1 230 231 232 233 234 465 466))::
(nat_lit 236, (kO (kY "function") none (Data.func (PySem.W.fnOf (kS "is_day") (kS "is_day") (aF gF) (av gF) (af gF) kN kN kN (kz "evenhall.days" 446) none (kR 235) kN)) #[]))::
(nat_lit 237, (kT #[]))::
(nat_lit 239, (kT #[(kz "thing" 471)]))::
(nat_lit 240, (kT #[]))::
(nat_lit 242, (q0 "is_month" 468 "is_month" 469 470 70 1 237 238 239 240 241 472 473))::
(nat_lit 243, (kO (kY "function") none (Data.func (PySem.W.fnOf (kS "is_month") (kS "is_month") (aF dO) (av dO) (af dO) kN kN kN (kz "evenhall.days" 446) none (kR 242) kN)) #[]))::
(nat_lit 244, (kT #[]))::
(nat_lit 246, (kT #[(kz "years" 478)]))::
(nat_lit 247, (kT #[]))::
(nat_lit 249, (q0 "leap_days" 475 "leap_days" 476 477 72 1 244 245 246 247 248 479 480))::
(nat_lit 250, (kO (kY "function") none (Data.func (PySem.W.fnOf (kS "leap_days") (kS "leap_days") (aF dk) (av dk) (af dk) kN kN kN (kz "evenhall.days" 446) none (kR 249) kN)) #[]))::
(nat_lit 251, (kT #[]))::
(nat_lit 253, (kT #[(kz "month" 485), (kz "years" 486), (kz "ahead" 487), (kz "leaps" 488)]))::
(nat_lit 254, (kT #[]))::
(nat_lit 256, (q0 "first_day" 482 "first_day" 483 484 74 1 251 252 253 254 255 489 490))::
(nat_lit 257, (kO (kY "function") none (Data.func (PySem.W.fnOf (kS "first_day") (kS "first_day") (aF df) (av df) (af df) kN kN kN (kz "evenhall.days" 446) none (kR 256) kN)) #[]))::
(nat_lit 258, (kT #[]))::
(nat_lit 260, (kT #[(kz "month" 495)]))::
(nat_lit 261, (kT #[]))::
(nat_lit 263, (q0 "last_day" 492 "last_day" 493 494 79 1 258 259 260 261 262 496 497))::
(nat_lit 264, (kO (kY "function") none (Data.func (PySem.W.fnOf (kS "last_day") (kS "last_day") (aF dP) (av dP) (af dP) kN kN kN (kz "evenhall.days" 446) none (kR 263) kN)) #[]))::
(nat_lit 265, (kT #[]))::
(nat_lit 267, (kT #[(kz "day" 502), (kz "month" 503)]))::
(nat_lit 268, (kT #[]))::
(nat_lit 270, (q0 "month_of" 499 "month_of" 500 501 81 1 265 266 267 268 269 504 505))::
(nat_lit 271, (kO (kY "function") none (Data.func (PySem.W.fnOf (kS "month_of") (kS "month_of") (aF dR) (av dR) (af dR) kN kN kN (kz "evenhall.days" 446) none (kR 270) kN)) #[]))::
(nat_lit 272, (kT #[]))::
(nat_lit 274, (kT #[(kz "day" 510), (kz "months" 511), (kz "month" 512), (kz "place" 513), (kz "other" 514)]))::
(nat_lit 275, (kT #[]))::
(nat_lit 277, (q0 "stepped" 507 "stepped" 508 509 88 2 272 273 274 275 276 515 516))::
(nat_lit 278, (kO (kY "function") none (Data.func (PySem.W.fnOf (kS "stepped") (kS "stepped") (aF eu) (av eu) (af eu) kN kN kN (kz "evenhall.days" 446) none (kR 277) kN)) #[]))::
(nat_lit 279, (kT #[]))::
(nat_lit 282, (q2 "days_from" 520 "days_from" 521 522 96 3 279 280 281 523 524))::
(nat_lit 283, (kO (kY "function") none (Data.func (PySem.W.fnOf (kS "days_from") (kS "days_from") (aF de) (av de) (af de) kN kN kN (kz "evenhall.standing" 518) none (kR 282) kN)) #[]))::
(nat_lit 291, (kT #[]))::
(nat_lit 293, (kT #[(kz "self" 541), (kz "first" 542), (kz "every" 543), (kz "times" 544), (kz "note" 545), (kz "rows" 546)]))::
(nat_lit 294, (kT #[]))::
(nat_lit 296, (q0 "__init__" 538 "StandingOrder.__init__" 539 540 101 6 291 292 293 294 295 547 548))::
(nat_lit 297, (kO (kY "function") none (Data.func (PySem.W.fnOf (kS "__init__") (kS "StandingOrder.__init__") (aF aX) (av aX) (af aX) kN kN kN (kz "evenhall.standing" 518) none (kR 296) kN)) #[]))::
(nat_lit 298, (kT #[(kz "agreed" 550), (kz "all_days" 551), (kz "gone" 552)]))::
(nat_lit 299, (kO (kY "dict") none (Data.dict #[(kE P "__module__" 533 (kz "evenhall.standing" 518)), (kE P "__firstlineno__" 537 (kI 99 536)), (kE P "__init__" 549 (kR 297)), (kE P "__static_attributes__" 553 (kR 298)), (kE P "__dict__" 555 (kR 301)), (kE P "__weakref__" 557 (kR 302)), (kE P "__doc__" 558 kN)] 4) #[]))::
(nat_lit 300, (q5 "StandingOrder" 300 299 526 534))::
(nat_lit 301, (q7 554 300))::
(nat_lit 302, (q6 556 300))::
(nat_lit 312, (kT #[]))::
(nat_lit 314, (kT #[(kz "self" 576)]))::
(nat_lit 315, (kT #[]))::
(nat_lit 317, (q0 "__init__" 573 "Standing.__init__" 574 575 107 1 312 313 314 315 316 577 578))::
(nat_lit 318, (kO (kY "function") none (Data.func (PySem.W.fnOf (kS "__init__") (kS "Standing.__init__") (aF bq) (av bq) (af bq) kN kN kN (kz "evenhall.standing" 518) none (kR 317) kN)) #[]))::
(nat_lit 319, (kT #[]))::
(nat_lit 321, (kT #[(kz "self" 583), (kz "name" 584), (kz "first" 585), (kz "every" 586), (kz "times" 587), (kz "note" 588), (kz "rows" 589)]))::
(nat_lit 322, (kT #[]))::
(nat_lit 324, (q0 "put" 580 "Standing.put" 581 582 110 7 319 320 321 322 323 590 591))::
(nat_lit 325, (kO (kY "function") none (Data.func (PySem.W.fnOf (kS "put") (kS "Standing.put") (aF cr) (av cr) (af cr) kN kN kN (kz "evenhall.standing" 518) none (kR 324) kN)) #[]))::
(nat_lit 326, (kT #[]))::
(nat_lit 328, (kT #[(kz "self" 596), (kz "name" 597)]))::
(nat_lit 329, (kT #[]))::
(nat_lit 331, (q0 "order" 593 "Standing.order" 594 595 124 2 326 327 328 329 330 598 599))::
(nat_lit 332, (kO (kY "function") none (Data.func (PySem.W.fnOf (kS "order") (kS "Standing.order") (aF bL) (av bL) (af bL) kN kN kN (kz "evenhall.standing" 518) none (kR 331) kN)) #[]))::
(nat_lit 333, (kT #[]))::
(nat_lit 335, (kT #[(kz "self" 604), (kz "name" 605)]))::
(nat_lit 336, (kT #[]))::
(nat_lit 338, (q0 "drop" 601 "Standing.drop" 602 603 129 2 333 334 335 336 337 606 607))::
(nat_lit 339, (kO (kY "function") none (Data.func (PySem.W.fnOf (kS "drop") (kS "Standing.drop") (aF bY) (av bY) (af bY) kN kN kN (kz "evenhall.standing" 518) none (kR 338) kN)) #[]))::
(nat_lit 340, (kT #[]))::
(nat_lit 342, (kT #[(kz "self" 612)]))::
(nat_lit 343, (kT #[]))::
(nat_lit 345, (q0 "names" 609 "Standing.names" 610 611 133 1 340 341 342 343 344 613 614))::
(nat_lit 346, (kO (kY "function") none (Data.func (PySem.W.fnOf (kS "names") (kS "Standing.names") (aF bM) (av bM) (af bM) kN kN kN (kz "evenhall.standing" 518) none (kR 345) kN)) #[]))::
(nat_lit 347, (kT #[]))::
(nat_lit 349, (kT #[(kz "self" 619), (kz "name" 620)]))::
(nat_lit 350, (kT #[]))::
(nat_lit 352, (q0 "terms" 616 "Standing.terms" 617 618 136 2 347 348 349 350 351 621 622))::
(nat_lit 353, (kO (kY "function") none (Data.func (PySem.W.fnOf (kS "terms") (kS "Standing.terms") (aF bK) (av bK) (af bK) kN kN kN (kz "evenhall.standing" 518) none (kR 352) kN)) #[]))::
(nat_lit 354, (kT #[]))::
(nat_lit 356, (kT #[(kz "self" 627), (kz "name" 628)]))::
(nat_lit 357, (kT #[]))::
(nat_lit 359, (q0 "done" 624 "Standing.done" 625 626 139 2 354 355 356 357 358 629 630))::
(nat_lit 360, (kO (kY "function") none (Data.func (PySem.W.fnOf (kS "done") (kS "Standing.done") (aF bV) (av bV) (af bV) kN kN kN (kz "evenhall.standing" 518) none (kR 359) kN)) #[]))::
(nat_lit 361, (kT #[]))::
(nat_lit 363, (kT #[(kz "self" 635), (kz "name" 636), (kz "order" 637)]))::
(nat_lit 364, (kT #[]))::
(nat_lit 366, (q0 "step" 632 "Standing.step" 633 634 142 2 361 362 363 364 365 638 639))::
(nat_lit 367, (kO (kY "function") none (Data.func (PySem.W.fnOf (kS "step") (kS "Standing.step") (aF bU) (av bU) (af bU) kN kN kN (kz "evenhall.standing" 518) none (kR 366) kN)) #[]))::
(nat_lit 368, (kT #[]))::
(nat_lit 371, (q2 "days" 641 "Standing.days" 642 643 146 3 368 369 370 644 645))::
(nat_lit 372, (kO (kY "function") none (Data.func (PySem.W.fnOf (kS "days") (kS "Standing.days") (aF bZ) (av bZ) (af bZ) kN kN kN (kz "evenhall.standing" 518) none (kR 371) kN)) #[]))::
(nat_lit 373, (kT #[(kz "by_name" 647)]))::
(nat_lit 374, (kO (kY "dict") none (Data.dict #[(kE P "__module__" 568 (kz "evenhall.standing" 518)), (kE P "__firstlineno__" 572 (kI 105 571)), (kE P "__init__" 579 (kR 318)), (kE P "put" 592 (kR 325)), (kE P "order" 600 (kR 332)), (kE P "drop" 608 (kR 339)), (kE P "names" 615 (kR 346)), (kE P "terms" 623 (kR 353)), (kE P "done" 631 (kR 360)), (kE P "step" 640 (kR 367)), (kE P "days" 646 (kR 372)), (kE P "__static_attributes__" 648 (kR 373)), (kE P "__dict__" 650 (kR 376)), (kE P "__weakref__" 652 (kR 377)), (kE P "__doc__" 653 kN)] 4) #[]))::
(nat_lit 375, (q5 "Standing" 375 374 561 569))::
(nat_lit 376, (q7 649 375))::
(nat_lit 377, (q6 651 375))::
(nat_lit 380, (kT #[]))::
(nat_lit 382, (kT #[(kz "_law_script" 661), (kz "_law_k" 662)]))::
(nat_lit 383, (kT #[]))::
(nat_lit 385, (q0 "_law_cell_at" 658 "_law_cell_at" 659 660 150 2 380 381 382 383 384 663 664))::
(nat_lit 386, (kO (kY "function") none (Data.func (PySem.W.fnOf (kS "_law_cell_at") (kS "_law_cell_at") (aF cg) (av cg) (af cg) kN kN kN (kz "law_evenhall_k27_days_of_standing_orders" 656) none (kR 385) kN)) #[]))::
(nat_lit 387, (kT #[]))::
(nat_lit 390, (q2 "_law_name_by" 666 "_law_name_by" 667 668 154 2 387 388 389 669 670))::
(nat_lit 391, (kO (kY "function") none (Data.func (PySem.W.fnOf (kS "_law_name_by") (kS "_law_name_by") (aF cc) (av cc) (af cc) kN kN kN (kz "law_evenhall_k27_days_of_standing_orders" 656) none (kR 390) kN)) #[]))::
(nat_lit 392, (kT #[]))::
(nat_lit 394, (kT #[(kz "_law_month" 675), (kz "_law_year" 676)]))::
(nat_lit 395, (kT #[]))::
(nat_lit 397, (q0 "_law_long" 672 "_law_long" 673 674 164 1 392 393 394 395 396 677 678))::
(nat_lit 398, (kO (kY "function") none (Data.func (PySem.W.fnOf (kS "_law_long") (kS "_law_long") (aF cX) (av cX) (af cX) kN kN kN (kz "law_evenhall_k27_days_of_standing_orders" 656) none (kR 397) kN)) #[]))::
(nat_lit 399, (kT #[]))::
(nat_lit 401, (kT #[(kz "_law_month" 683), (kz "_law_place" 684), (kz "_law_years" 685), (kz "_law_day_here" 686), (kz "_law_other" 687)]))::
(nat_lit 402, (kT #[]))::
(nat_lit 404, (q0 "_law_day" 680 "_law_day" 681 682 169 2 399 400 401 402 403 688 689))::
(nat_lit 405, (kO (kY "function") none (Data.func (PySem.W.fnOf (kS "_law_day") (kS "_law_day") (aF dQ) (av dQ) (af dQ) kN kN kN (kz "law_evenhall_k27_days_of_standing_orders" 656) none (kR 404) kN)) #[]))::
(nat_lit 406, (kT #[]))::
(nat_lit 408, (kT #[(kz "_law_order" 694), (kz "_law_until" 695), (kz "_law_month" 696), (kz "_law_place" 697), (kz "_law_every" 698), (kz "_law_times" 699), (kz "_law_gone" 700), (kz "_law_found" 701), (kz "_law_k" 702), (kz "_law_day_here" 703)]))::
(nat_lit 409, (kT #[]))::
(nat_lit 411, (q0 "_law_left" 691 "_law_left" 692 693 175 2 406 407 408 409 410 704 705))::
(nat_lit 412, (kO (kY "function") none (Data.func (PySem.W.fnOf (kS "_law_left") (kS "_law_left") (aF cz) (av cz) (af cz) kN kN kN (kz "law_evenhall_k27_days_of_standing_orders" 656) none (kR 411) kN)) #[]))::
(nat_lit 413, (kT #[]))::
(nat_lit 415, (kT #[(kz "_law_e" 710), (kz "_law_found" 711)]))::
(nat_lit 416, (kT #[]))::
(nat_lit 418, (q0 "_law_word" 707 "_law_word" 708 709 184 1 413 414 415 416 417 712 713))::
(nat_lit 419, (kO (kY "function") none (Data.func (PySem.W.fnOf (kS "_law_word") (kS "_law_word") (aF cP) (av cP) (af cP) kN kN kN (kz "law_evenhall_k27_days_of_standing_orders" 656) none (kR 418) kN)) #[]))::
(nat_lit 420, (kT #[]))::
(nat_lit 423, (q2 "_law_note" 715 "_law_note" 716 717 190 1 420 421 422 718 719))::
(nat_lit 424, (kO (kY "function") none (Data.func (PySem.W.fnOf (kS "_law_note") (kS "_law_note") (aF dg) (av dg) (af dg) kN kN kN (kz "law_evenhall_k27_days_of_standing_orders" 656) none (kR 423) kN)) #[]))::
(nat_lit 425, (kT #[]))::
(nat_lit 427, (kT #[(kz "_law_cell" 724), (kz "_law_rows_here" 725), (kz "_law_k" 726), (kz "_law_amount" 727), (kz "_law_path" 728)]))::
(nat_lit 428, (kT #[]))::
(nat_lit 430, (q0 "_law_rows" 721 "_law_rows" 722 723 193 1 425 426 427 428 429 729 730))::
(nat_lit 431, (kO (kY "function") none (Data.func (PySem.W.fnOf (kS "_law_rows") (kS "_law_rows") (aF da) (av da) (af da) kN kN kN (kz "law_evenhall_k27_days_of_standing_orders" 656) none (kR 430) kN)) #[]))::
(nat_lit 432, (kT #[]))::
(nat_lit 434, (kT #[(kz "_law_put_here" 735), (kz "_law_at" 736), (kz "_law_more" 737), (kz "_law_name" 738), (kz "_law_first" 739), (kz "_law_every" 740), (kz "_law_times" 741), (kz "_law_note_here" 742), (kz "_law_rows_here" 743), (kz "_law_pick" 744), (kz "_law_far" 745), (kz "_law_row" 746), (kz "_law_odd" 747), (kz "_law_one" 748)]))::
(nat_lit 435, (kT #[]))::
(nat_lit 437, (q0 "_law_spoilt" 732 "_law_spoilt" 733 734 200 3 432 433 434 435 436 749 750))::
(nat_lit 438, (kO (kY "function") none (Data.func (PySem.W.fnOf (kS "_law_spoilt") (kS "_law_spoilt") (aF aM) (av aM) (af aM) kN kN kN (kz "law_evenhall_k27_days_of_standing_orders" 656) none (kR 437) kN)) #[]))::
(nat_lit 439, (kT #[]))::
(nat_lit 441, (kT #[(kz "_law_standing" 755), (kz "_law_kind" 756), (kz "_law_thing" 757), (kz "_law_found" 758), (kz "_law_e" 759)]))::
(nat_lit 442, (kT #[]))::
(nat_lit 444, (q0 "_law_told" 752 "_law_told" 753 754 220 3 439 440 441 442 443 760 761))::
(nat_lit 445, (kO (kY "function") none (Data.func (PySem.W.fnOf (kS "_law_told") (kS "_law_told") (aF db) (av db) (af db) kN kN kN (kz "law_evenhall_k27_days_of_standing_orders" 656) none (kR 444) kN)) #[]))::
(nat_lit 446, (kT #[]))::
(nat_lit 448, (kT #[(kz "_law_standing" 766), (kz "_law_orders" 767), (kz "_law_held" 768), (kz "_law_found" 769)]))::
(nat_lit 449, (kT #[]))::
(nat_lit 451, (q0 "_law_names_good" 763 "_law_names_good" 764 765 238 3 446 447 448 449 450 770 771))::
(nat_lit 452, (kO (kY "function") none (Data.func (PySem.W.fnOf (kS "_law_names_good") (kS "_law_names_good") (aF bG) (av bG) (af bG) kN kN kN (kz "law_evenhall_k27_days_of_standing_orders" 656) none (kR 451) kN)) #[]))::
(nat_lit 453, (kT #[]))::
(nat_lit 456, (q2 "_law_way_good" 773 "_law_way_good" 774 775 245 6 453 454 455 776 777))::
(nat_lit 457, (kO (kY "function") none (Data.func (PySem.W.fnOf (kS "_law_way_good") (kS "_law_way_good") (aF bX) (av bX) (af bX) kN kN kN (kz "law_evenhall_k27_days_of_standing_orders" 656) none (kR 456) kN)) #[]))::
(nat_lit 458, (kT #[]))::
(nat_lit 460, (kT #[(kz "_law_standing" 782), (kz "_law_orders" 783), (kz "_law_name" 784), (kz "_law_until" 785), (kz "_law_held" 786), (kz "_law_turn" 787), (kz "_law_k" 788)]))::
(nat_lit 461, (kT #[]))::
(nat_lit 463, (q0 "_law_one_good" 779 "_law_one_good" 780 781 260 5 458 459 460 461 462 789 790))::
(nat_lit 464, (kO (kY "function") none (Data.func (PySem.W.fnOf (kS "_law_one_good") (kS "_law_one_good") (aF bW) (av bW) (af bW) kN kN kN (kz "law_evenhall_k27_days_of_standing_orders" 656) none (kR 463) kN)) #[]))::
(nat_lit 465, (kT #[]))::
(nat_lit 467, (kT #[(kz "_law_standing" 795), (kz "_law_orders" 796), (kz "_law_put_here" 797), (kz "_law_month" 798), (kz "_law_place" 799), (kz "_law_handed" 800), (kz "_law_due" 801)]))::
(nat_lit 468, (kT #[]))::
(nat_lit 470, (q0 "_law_put" 792 "_law_put" 793 794 266 5 465 466 467 468 469 802 803))::
(nat_lit 471, (kO (kY "function") none (Data.func (PySem.W.fnOf (kS "_law_put") (kS "_law_put") (aF cf) (av cf) (af cf) kN kN kN (kz "law_evenhall_k27_days_of_standing_orders" 656) none (kR 470) kN)) #[]))::
(nat_lit 472, (kT #[]))::
(nat_lit 474, (kT #[(kz "_law_standing" 808), (kz "_law_put_here" 809), (kz "_law_cell" 810), (kz "_law_more" 811), (kz "_law_at" 812), (kz "_law_odd" 813)]))::
(nat_lit 475, (kT #[]))::
(nat_lit 477, (q0 "_law_odd_good" 805 "_law_odd_good" 806 807 275 4 472 473 474 475 476 814 815))::
(nat_lit 478, (kO (kY "function") none (Data.func (PySem.W.fnOf (kS "_law_odd_good") (kS "_law_odd_good") (aF bw) (av bw) (af bw) kN kN kN (kz "law_evenhall_k27_days_of_standing_orders" 656) none (kR 477) kN)) #[]))::
(nat_lit 479, (kT #[]))::
(nat_lit 482, (q2 "_law_other_good" 817 "_law_other_good" 818 819 281 5 479 480 481 820 821))::
(nat_lit 483, (kO (kY "function") none (Data.func (PySem.W.fnOf (kS "_law_other_good") (kS "_law_other_good") (aF aV) (av aV) (af aV) kN kN kN (kz "law_evenhall_k27_days_of_standing_orders" 656) none (kR 482) kN)) #[]))::
(nat_lit 484, (kT #[]))::
(nat_lit 486, (kT #[(kz "_law_names" 826), (kz "_law_month" 827), (kz "_law_kind" 828), (kz "_law_cell" 829), (kz "_law_more" 830), (kz "_law_place" 831), (kz "_law_every" 832), (kz "_law_times" 833), (kz "_law_put_here" 834)]))::
(nat_lit 487, (kT #[]))::
(nat_lit 489, (q0 "_law_made" 823 "_law_made" 824 825 293 5 484 485 486 487 488 835 836))::
(nat_lit 490, (kO (kY "function") none (Data.func (PySem.W.fnOf (kS "_law_made") (kS "_law_made") (aF cZ) (av cZ) (af cZ) kN kN kN (kz "law_evenhall_k27_days_of_standing_orders" 656) none (kR 489) kN)) #[]))::
(nat_lit 491, (kT #[]))::
(nat_lit 493, (kT #[(kz "_law_standing" 841), (kz "_law_orders" 842), (kz "_law_name" 843), (kz "_law_until" 844), (kz "_law_held" 845)]))::
(nat_lit 494, (kT #[]))::
(nat_lit 496, (q0 "_law_met_good" 838 "_law_met_good" 839 840 299 5 491 492 493 494 495 846 847))::
(nat_lit 497, (kO (kY "function") none (Data.func (PySem.W.fnOf (kS "_law_met_good") (kS "_law_met_good") (aF bT) (av bT) (af bT) kN kN kN (kz "law_evenhall_k27_days_of_standing_orders" 656) none (kR 496) kN)) #[]))::
(nat_lit 498, (kT #[]))::
(nat_lit 500, (kT #[(kz "_law_standing" 852), (kz "_law_orders" 853), (kz "_law_put_here" 854), (kz "_law_month" 855), (kz "_law_place" 856), (kz "_law_turn" 857)]))::
(nat_lit 501, (kT #[]))::
(nat_lit 503, (q0 "_law_again_good" 849 "_law_again_good" 850 851 301 5 498 499 500 501 502 858 859))::
(nat_lit 504, (kO (kY "function") none (Data.func (PySem.W.fnOf (kS "_law_again_good") (kS "_law_again_good") (aF bE) (av bE) (af bE) kN kN kN (kz "law_evenhall_k27_days_of_standing_orders" 656) none (kR 503) kN)) #[]))::
(nat_lit 505, (kT #[]))::
(nat_lit 508, (q2 "_law_none_good" 861 "_law_none_good" 862 863 308 3 505 506 507 864 865))::
(nat_lit 509, (kO (kY "function") none (Data.func (PySem.W.fnOf (kS "_law_none_good") (kS "_law_none_good") (aF bj) (av bj) (af bj) kN kN kN (kz "law_evenhall_k27_days_of_standing_orders" 656) none (kR 508) kN)) #[]))::
(nat_lit 510, (kT #[]))::
(nat_lit 513, (q2 "_law_end_good" 867 "_law_end_good" 868 869 312 4 510 511 512 870 871))::
(nat_lit 514, (kO (kY "function") none (Data.func (PySem.W.fnOf (kS "_law_end_good") (kS "_law_end_good") (aF bu) (av bu) (af bu) kN kN kN (kz "law_evenhall_k27_days_of_standing_orders" 656) none (kR 513) kN)) #[]))::
(nat_lit 515, (kT #[]))::
(nat_lit 517, (kT #[(kz "_law_standing" 876), (kz "_law_orders" 877), (kz "_law_names" 878), (kz "_law_cells" 879), (kz "_law_base" 880), (kz "_law_kind" 881), (kz "_law_month" 882), (kz "_law_put_here" 883), (kz "_law_place" 884)]))::
(nat_lit 518, (kT #[]))::
(nat_lit 520, (q0 "_law_deed_good" 873 "_law_deed_good" 874 875 320 5 515 516 517 518 519 885 886))::
(nat_lit 521, (kO (kY "function") none (Data.func (PySem.W.fnOf (kS "_law_deed_good") (kS "_law_deed_good") (aF bo) (av bo) (af bo) kN kN kN (kz "law_evenhall_k27_days_of_standing_orders" 656) none (kR 520) kN)) #[]))::
(nat_lit 522, (kT #[]))::
(nat_lit 525, (q2 "law" 888 "law" 889 890 329 1 522 523 524 891 892))::
(nat_lit 526, (kO (kY "function") none (Data.func (PySem.W.fnOf (kS "law") (kS "law") (aF dU) (av dU) (af dU) kN kN kN (kz "law_evenhall_k27_days_of_standing_orders" 656) none (kR 525) kN)) #[]))
 :: []
noncomputable def adrs : List Addr := [nat_lit 2, nat_lit 3, nat_lit 15, nat_lit 17, nat_lit 18, nat_lit 20, nat_lit 21, nat_lit 22, nat_lit 29, nat_lit 30, nat_lit 31, nat_lit 32, nat_lit 35, nat_lit 42, nat_lit 44, nat_lit 45, nat_lit 47, nat_lit 48, nat_lit 49, nat_lit 50, nat_lit 51, nat_lit 54, nat_lit 61, nat_lit 63, nat_lit 64, nat_lit 66, nat_lit 67, nat_lit 68, nat_lit 69, nat_lit 70, nat_lit 73, nat_lit 80, nat_lit 82, nat_lit 83, nat_lit 85, nat_lit 86, nat_lit 87, nat_lit 88, nat_lit 89, nat_lit 92, nat_lit 99, nat_lit 101, nat_lit 102, nat_lit 104, nat_lit 105, nat_lit 106, nat_lit 107, nat_lit 108, nat_lit 111, nat_lit 118, nat_lit 120, nat_lit 121, nat_lit 123, nat_lit 124, nat_lit 125, nat_lit 126, nat_lit 127, nat_lit 130, nat_lit 137, nat_lit 139, nat_lit 140, nat_lit 142, nat_lit 143, nat_lit 144, nat_lit 145, nat_lit 146, nat_lit 149, nat_lit 156, nat_lit 158, nat_lit 159, nat_lit 161, nat_lit 162, nat_lit 163, nat_lit 164, nat_lit 165, nat_lit 168, nat_lit 170, nat_lit 171, nat_lit 173, nat_lit 174, nat_lit 175, nat_lit 177, nat_lit 178, nat_lit 180, nat_lit 181, nat_lit 182, nat_lit 185, nat_lit 186, nat_lit 187, nat_lit 189, nat_lit 190, nat_lit 192, nat_lit 193, nat_lit 194, nat_lit 196, nat_lit 197, nat_lit 199, nat_lit 200, nat_lit 201, nat_lit 203, nat_lit 204, nat_lit 206, nat_lit 207, nat_lit 208, nat_lit 210, nat_lit 211, nat_lit 213, nat_lit 214, nat_lit 215, nat_lit 217, nat_lit 218, nat_lit 220, nat_lit 221, nat_lit 222, nat_lit 224, nat_lit 225, nat_lit 227, nat_lit 228, nat_lit 229, nat_lit 230, nat_lit 232, nat_lit 233, nat_lit 235, nat_lit 236, nat_lit 237, nat_lit 239, nat_lit 240, nat_lit 242, nat_lit 243, nat_lit 244, nat_lit 246, nat_lit 247, nat_lit 249, nat_lit 250, nat_lit 251, nat_lit 253, nat_lit 254, nat_lit 256, nat_lit 257, nat_lit 258, nat_lit 260, nat_lit 261, nat_lit 263, nat_lit 264, nat_lit 265, nat_lit 267, nat_lit 268, nat_lit 270, nat_lit 271, nat_lit 272, nat_lit 274, nat_lit 275, nat_lit 277, nat_lit 278, nat_lit 279, nat_lit 282, nat_lit 283, nat_lit 291, nat_lit 293, nat_lit 294, nat_lit 296, nat_lit 297, nat_lit 298, nat_lit 299, nat_lit 300, nat_lit 301, nat_lit 302, nat_lit 312, nat_lit 314, nat_lit 315, nat_lit 317, nat_lit 318, nat_lit 319, nat_lit 321, nat_lit 322, nat_lit 324, nat_lit 325, nat_lit 326, nat_lit 328, nat_lit 329, nat_lit 331, nat_lit 332, nat_lit 333, nat_lit 335, nat_lit 336, nat_lit 338, nat_lit 339, nat_lit 340, nat_lit 342, nat_lit 343, nat_lit 345, nat_lit 346, nat_lit 347, nat_lit 349, nat_lit 350, nat_lit 352, nat_lit 353, nat_lit 354, nat_lit 356, nat_lit 357, nat_lit 359, nat_lit 360, nat_lit 361, nat_lit 363, nat_lit 364, nat_lit 366, nat_lit 367, nat_lit 368, nat_lit 371, nat_lit 372, nat_lit 373, nat_lit 374, nat_lit 375, nat_lit 376, nat_lit 377, nat_lit 380, nat_lit 382, nat_lit 383, nat_lit 385, nat_lit 386, nat_lit 387, nat_lit 390, nat_lit 391, nat_lit 392, nat_lit 394, nat_lit 395, nat_lit 397, nat_lit 398, nat_lit 399, nat_lit 401, nat_lit 402, nat_lit 404, nat_lit 405, nat_lit 406, nat_lit 408, nat_lit 409, nat_lit 411, nat_lit 412, nat_lit 413, nat_lit 415, nat_lit 416, nat_lit 418, nat_lit 419, nat_lit 420, nat_lit 423, nat_lit 424, nat_lit 425, nat_lit 427, nat_lit 428, nat_lit 430, nat_lit 431, nat_lit 432, nat_lit 434, nat_lit 435, nat_lit 437, nat_lit 438, nat_lit 439, nat_lit 441, nat_lit 442, nat_lit 444, nat_lit 445, nat_lit 446, nat_lit 448, nat_lit 449, nat_lit 451, nat_lit 452, nat_lit 453, nat_lit 456, nat_lit 457, nat_lit 458, nat_lit 460, nat_lit 461, nat_lit 463, nat_lit 464, nat_lit 465, nat_lit 467, nat_lit 468, nat_lit 470, nat_lit 471, nat_lit 472, nat_lit 474, nat_lit 475, nat_lit 477, nat_lit 478, nat_lit 479, nat_lit 482, nat_lit 483, nat_lit 484, nat_lit 486, nat_lit 487, nat_lit 489, nat_lit 490, nat_lit 491, nat_lit 493, nat_lit 494, nat_lit 496, nat_lit 497, nat_lit 498, nat_lit 500, nat_lit 501, nat_lit 503, nat_lit 504, nat_lit 505, nat_lit 508, nat_lit 509, nat_lit 510, nat_lit 513, nat_lit 514, nat_lit 515, nat_lit 517, nat_lit 518, nat_lit 520, nat_lit 521, nat_lit 522, nat_lit 525, nat_lit 526]
theorem adrs_eq (P : Params) : adrs = (frag P).map (·.1) := by kernel_rfl
noncomputable def vw : Program := PySem.W.view PySem.Challenge.pw_evenhall_k27_days_of_standing_orders [0, 2, 3, 4, 5, 6, 7, 8, 9, 11, 12, 13, 14, 15, 17, 18, 20, 21, 23, 24, 25, 26, 27, 28, 29, 30, 32, 33, 34, 36, 37, 38, 39, 40, 41, 42, 43, 44, 45, 46, 47, 48, 49, 50, 51, 52, 53, 54, 55, 56, 57, 58]
open PySem.W in
noncomputable def tree0 (P : Params) : BT := (.node (boot_o_0 P) (.node (boot_o_1 P) (.node (boot_o_3 P) (.node (boot_o_7 P) .nil .nil) .nil) (.node (boot_o_5 P) (.node (boot_o_9 P) .nil .nil) .nil)) (.node (boot_o_2 P) (.node (boot_o_4 P) (.node (boot_o_8 P) .nil .nil) .nil) (.node (boot_o_6 P) (.node (boot_o_10 P) .nil .nil) .nil)))
open PySem.W PyProof.Rows in
noncomputable def ran (p : Program) (t : BT) (b : Heap) (w : World) (os : OsState) : Option SharedT := TR.go p w 11 (some (.ref 6)) 7992 ⟨t, 11, b.life, Array.mk [], boot_drawn, boot_toks, os⟩ (topStub p)
noncomputable def runA (p : Program) (t : PySem.W.BT) (b : Heap) (w : World) (os : OsState) := (ran p t b w os).map fun x => TR.lookB p b x.abs
noncomputable def runB (p v : Program) (c : PySem.W.WRecords) (t : PySem.W.BT) (b : Heap) (w : World) (os : OsState) := (ran p t b w os).map fun x => PySem.W.openSeen v [] (importedModules p.main.body) (fun s => PySem.W.xlAt v [] s && PySem.W.recOk c s) true x.abs
noncomputable def runC (p : Program) (t : PySem.W.BT) (b : Heap) (w : World) (os : OsState) := (ran p t b w os).map fun x => adrs.map x.abs.heap.get?
noncomputable def good (v : Program) (_ : OsState) := some (PySem.W.openGood v [])
set_option maxRecDepth 100000 in
set_option maxHeartbeats 0 in
lay_quick K27.runA
set_option maxRecDepth 100000 in
set_option maxHeartbeats 0 in
lay_quick K27.runB
set_option maxRecDepth 100000 in
set_option maxHeartbeats 0 in
lay_quick K27.runC
set_option maxRecDepth 100000 in
set_option maxHeartbeats 0 in
lay_quick K27.good
set_option maxRecDepth 100000 in
set_option maxHeartbeats 0 in
theorem gA (w : World) : PySem.W.Fast.tw5080769677784817989 PySem.Challenge.pw_evenhall_k27_days_of_standing_orders (tree0 w.params) (PySem.W.boot_heap w.params) w = fun _ => some true := by kernel_rfl
set_option maxRecDepth 100000 in
set_option maxHeartbeats 0 in
theorem gB (w : World) : PySem.W.Fast.tw3589101056947928294 PySem.Challenge.pw_evenhall_k27_days_of_standing_orders vw (PySem.W.RowW.records (PySem.W.OpenRow.toRowW (PySem.W.OpenLaw.row PySem.Challenge.rw_evenhall_k27_days_of_standing_orders))) (tree0 w.params) (PySem.W.boot_heap w.params) w = PySem.W.Fast.tw1834351975366375169 vw := by kernel_rfl
set_option maxRecDepth 100000 in
set_option maxHeartbeats 0 in
theorem gC (w : World) : PySem.W.Fast.tw10982934587722552447 PySem.Challenge.pw_evenhall_k27_days_of_standing_orders (tree0 w.params) (PySem.W.boot_heap w.params) w = fun _ => some ((frag w.params).map fun p => some p.2) := by kernel_rfl
set_option maxRecDepth 100000 in
set_option maxHeartbeats 0 in
theorem left : PySem.W.LeftO PySem.Challenge.pw_evenhall_k27_days_of_standing_orders vw [] (fun s => PySem.W.xlAt vw [] s && PySem.W.recOk (PySem.W.RowW.records (PySem.W.OpenRow.toRowW (PySem.W.OpenLaw.row PySem.Challenge.rw_evenhall_k27_days_of_standing_orders))) s) (PySem.W.kHook frag adrs adrs_eq).obs (PySem.W.kHook frag adrs adrs_eq).val 7992 :=
 TR.left (lo := 11) (an := some (.ref 6)) (tr := tree0) (PySem.W.boot_open (by kernel_rfl) (by decide) (fun s => by kernel_rfl)) (fun P => by kernel_rfl) (fun P => by kernel_rfl) fun w => funext fun os =>
  TR.three (congrFun ((congrFun (congrFun (congrFun (congrFun PySem.W.Fast.te5080769677784817989 _) _) _) w).trans (gA w)) os) (congrFun ((congrFun (congrFun (congrFun (congrFun (congrFun (congrFun PySem.W.Fast.te3589101056947928294 _) _) _) _) _) w).trans ((gB w).trans (congrFun PySem.W.Fast.te1834351975366375169 _).symm)) os) (congrFun ((congrFun (congrFun (congrFun (congrFun PySem.W.Fast.te10982934587722552447 _) _) _) w).trans (gC w)) os)
noncomputable def wsaid (l : PySem.W.OpenLaw) : Bool := PySem.W.OpenLaw.wellSaid l
set_option maxRecDepth 100000 in
set_option maxHeartbeats 0 in
lay_quick K27.wsaid
set_option maxRecDepth 100000 in
set_option maxHeartbeats 0 in
theorem ws : wsaid PySem.Challenge.rw_evenhall_k27_days_of_standing_orders = true := (congrFun PySem.W.Fast.te16041606836079812831 _).trans (by kernel_rfl)
end K27
namespace L2
open PySem PySem.Spec PyProof.Rows
abbrev Key := Sum Int Str
def tJ : Key -> Value -> Bool
 | .inl k, v => Value.isInt k v
 | .inr x, v => Value.isStrOf x v
def GN (w : World) : Key -> Int
 | .inl k => hashInt k
 | .inr x => hashStr w x
theorem cH : ∀ {k : Key} {v : Value}, tJ k v = true -> (∃ i t, k = Sum.inl i /\ v = Value.int i t) \/ (∃ x t, k = Sum.inr x /\ v = Value.str x t)
 | .inl i, v, h => by
  obtain ⟨t, e⟩ := Value.isInt_shape (k := i) (v := v) h
  exact .inl ⟨i, t, rfl, e⟩
 | .inr x, v, h => by
  obtain ⟨t, e⟩ := Value.isStrOf_shape (x := x) (v := v) h
  exact .inr ⟨x, t, rfl, e⟩
theorem zf (i : Int) (t : Tok) : tJ (.inl i) (.int i t) = true := by simp [tJ, Value.isInt]
theorem ze (x : Str) (t : Tok) : tJ (.inr x) (.str x t) = true := by simp [tJ, Value.isStrOf]
theorem Eg (a b : Int) : decide ((Sum.inl a : Key) = Sum.inl b) = (a == b) := by
 by_cases e : a = b
 ·subst e; simp
 ·have h : ¬ (Sum.inl a : Key) = Sum.inl b := fun q => e (Sum.inl.inj q)
  rw [decide_eq_false h]
  exact (beq_eq_false_iff_ne.mpr e).symm
theorem D3 (a b : Str) : decide ((Sum.inr a : Key) = Sum.inr b) = decide (a = b) := by
 by_cases e : a = b
 ·subst e; simp
 ·have h : ¬ (Sum.inr a : Key) = Sum.inr b := fun q => e (Sum.inr.inj q)
  rw [decide_eq_false h, decide_eq_false e]
theorem DZ (a : Int) (b : Str) : decide ((Sum.inl a : Key) = Sum.inr b) = false := decide_eq_false (fun q => nomatch q)
theorem EE (a : Str) (b : Int) : decide ((Sum.inr a : Key) = Sum.inl b) = false := decide_eq_false (fun q => nomatch q)
def b_ (prog : Program) (w : World) : PySem.KeyKind prog w Key where
 is := tJ
 hash := GN w
 inj := fun v a b ha hb => by
  rcases cH ha with ⟨i, t, rfl, rfl⟩ | ⟨x, t, rfl, rfl⟩
  ·rcases cH hb with ⟨j, u, rfl, e⟩ | ⟨y, u, rfl, e⟩
   ·injection e with e1 _; rw [e1]
   ·exact nomatch e
  ·rcases cH hb with ⟨j, u, rfl, e⟩ | ⟨y, u, rfl, e⟩
   ·exact nomatch e
   ·injection e with e1 _; rw [e1]
 byValue := fun k v h => by
  rcases cH h with ⟨i, t, rfl, rfl⟩ | ⟨x, t, rfl, rfl⟩ <;> rfl
 pyHash := fun hv h => by
  rcases cH hv with ⟨i, t, rfl, rfl⟩ | ⟨x, t, rfl, rfl⟩
  ·exact wpAny_pyHash_int h
  ·exact wpAny_pyHash_str h
 eqBool := fun hu hv h => by
  rcases cH hu with ⟨i, t, rfl, rfl⟩ | ⟨x, t, rfl, rfl⟩
  ·rcases cH hv with ⟨j, u, rfl, rfl⟩ | ⟨y, u, rfl, rfl⟩
   ·rw [Eg] at h; exact wpAny_eqBool_int h
   ·rw [DZ] at h; exact SeqAt.EqAt.int_str i t y u _ _ _ _ h
  ·rcases cH hv with ⟨j, u, rfl, rfl⟩ | ⟨y, u, rfl, rfl⟩
   ·rw [EE] at h; exact SeqAt.EqAt.str_int x t j u _ _ _ _ h
   ·rw [D3] at h; exact wpAny_eqBool_str h
 «strs» := fun k x t v h => by
  rcases cH h with ⟨i, u, rfl, e⟩ | ⟨y, u, rfl, e⟩
  ·exact nomatch e
  ·injection e with e1 _
   subst e1
   cases v <;> rfl
theorem vD (prog : Program) (w : World) (i : Int) (t : Tok) : (b_ prog w).is (.inl i) (.int i t) = true := zf i t
theorem vJ (prog : Program) (w : World) (x : Str) (t : Tok) : (b_ prog w).is (.inr x) (.str x t) = true := ze x t
end L2
namespace L2
open PySem PySem.Spec PyProof.Rows
inductive V where
 | non | bl (b : Bool) | int (i : Int) | str (x : Str) | byt (b : Array UInt8) | flt (b : UInt64) | ref (a : Addr) | ty (n : String)
 deriving DecidableEq
def RelV : V -> Value -> Prop
 | .non, u => u = Value.none
 | .bl b, u => u = Value.bool b
 | .int i, u => ∃ t, u = Value.int i t
 | .str x, u => ∃ t, u = Value.str x t
 | .byt b, u => ∃ t, u = Value.bytes b t
 | .flt b, u => ∃ t, u = Value.float b t
 | .ref a, u => u = Value.ref a
 | .ty n, u => u = Value.type n
abbrev Vals : List V -> List Value -> Prop := Paired RelV
theorem Vals.length {xs : List V} {us : List Value} (r : Vals xs us) : xs.length = us.length := Paired.length r
theorem Vals.get : ∀ {xs : List V} {us : List Value} {i : Nat} {x : V}, Vals xs us -> xs[i]? = some x -> ∃ u, us[i]? = some u /\ RelV x u
 | _, _, _, _, .nil, e => by simp at e
 | _, _, 0, _, .cons r _, e => by simp at e; subst e; exact ⟨_, rfl, r⟩
 | _, _, i + 1, x, .cons _ t, e => by
  obtain ⟨u, h1, h2⟩ := Vals.get (i := i) (x := x) t (by simpa using e)
  exact ⟨u, by simpa using h1, h2⟩
theorem Vals.set {x : V} {u : Value} (r : RelV x u) : ∀ {xs : List V} {us : List Value} (i : Nat), Vals xs us -> Vals (xs.set i x) (us.set i u)
 | _, _, _, .nil => .nil
 | _, _, 0, .cons _ t => .cons r t
 | _, _, i + 1, .cons q t => .cons q (Vals.set r i t)
theorem Vals.append : ∀ {xs ys : List V} {us ws : List Value}, Vals xs us -> Vals ys ws -> Vals (xs ++ ys) (us ++ ws)
 | _, _, _, _, .nil, s => s
 | _, _, _, _, .cons r t, s => .cons r (Vals.append t s)
theorem Vals.take : ∀ {xs : List V} {us : List Value} (n : Nat), Vals xs us -> Vals (xs.take n) (us.take n)
 | _, _, 0, _ => .nil
 | _, _, _ + 1, .nil => .nil
 | _, _, n + 1, .cons r t => .cons r (Vals.take n t)
theorem Vals.drop : ∀ {xs : List V} {us : List Value} (n : Nat), Vals xs us -> Vals (xs.drop n) (us.drop n)
 | _, _, 0, r => r
 | _, _, _ + 1, .nil => .nil
 | _, _, n + 1, .cons _ t => Vals.drop n t
def RelO : Option V -> Option Value -> Prop
 | some v, some u => RelV v u
 | none, none => True
 | _, _ => False
def KV {κ : Type} : List (κ × V) -> List (κ × Value) -> Prop := Paired fun (p : κ × V) (q : κ × Value) => p.1 = q.1 /\ RelV p.2 q.2
def kV : Key -> V
 | .inl i => .int i
 | .inr x => .str x
inductive HO where
 | lst (xs : List V)
 | tup (xs : List V)
 | dK (kvs : List (Key × V)) | dT (kvs : List (List Key × V))
 | set (S : Int -> Bool) (n : Nat)
 | ins (C dx : Addr) (fs : List (Str × V))
 | own (x : Addr)
 | xd (fs : List (Str × V))
 | met (f x : Addr)
 | rng (lo hi : Int)
 | frz (o : Obj) (u : HO)
 | tbl (ps : Array Value)
 | ext (φ : Heap -> Prop)
abbrev Hp := Addr -> Option HO
def upd (H : Hp) (a : Addr) (o : HO) : Hp := fun b => if b = a then some o else H b
theorem ai {H : Hp} {a : Addr} {o : HO} : upd H a o a = some o := by unfold upd; rw [if_pos rfl]
theorem ay {H : Hp} {a b : Addr} {o : HO} (h : b ≠ a) : upd H a o b = H b := by unfold upd; rw [if_neg h]
theorem lJ {H : Hp} {a : Addr} {o u : HO} : upd (upd H a o) a u = upd H a u := by
 funext b; unfold upd; split <;> rfl
theorem FJ {H : Hp} {a b : Addr} {o u : HO} (h : H a = some o) (h' : H b = some u) (d : o ≠ u) : a ≠ b := by
 intro e; subst e; rw [h] at h'; exact d (Option.some.inj h')
theorem au {H : Hp} {a b : Addr} {o : HO} (h : H a = some o) (h' : H b = none) : a ≠ b := by
 intro e; subst e; rw [h] at h'; cases h'
section
variable (P : Program) (w : World)
def ObjOk (H : Hp) (h : Heap) (a : Addr) : HO -> Prop
 | .lst xs => xs.length <= sizeLine /\ ∃ (its : List Value) (n : Nat), Vals xs its /\ h.get? a = some { cls := .type "list", data := .seq its.toArray n }
 | .tup xs => xs.length <= sizeLine /\ ∃ its : List Value, Vals xs its /\ IsTup h a its.toArray
 | .dK kvs => kvs.length <= sizeLine /\ (a == sysModules) = false /\ ∃ vs, KV kvs vs /\ h.DictOf (b_ P w) a vs
 | .dT kvs => kvs.length <= sizeLine /\ (a == sysModules) = false /\ ∃ xs : List (List Key × Addr × Value),
  Paired (fun (p : List Key × V) (q : List Key × Addr × Value) => p.1 = q.1 /\ H q.2.1 = some (.tup (p.1.map kV)) /\ RelV p.2 q.2.2) kvs xs /\
  ∃ o es ep, h.get? a = some o /\ o.ExactDict /\ o.data = .dict es ep /\ es.toList = xs.map (entryOfKey (tupleKind (b_ P w))) /\ (xs.map (·.1)).Nodup
 | .set S n => h.SetOf (intKind P w) a S n
 | .ins C dx fs => H dx = some (.own a) /\ fs.length <= 1000 /\ dx ≠ a /\ h.get? a = some (PySem.W.instObj C dx) /\
  ∃ mA, h.Ns1 dx mA /\ (∀ f, RelO (fs.lookup f) (mA f)) /\ PySem.Within mA (fs.map (·.1))
 | .own _ => ∃ o, h.get? a = some o
 | .xd fs => ∃ mA, h.Ns1 a mA /\ ∀ f, RelO (fs.lookup f) (mA f)
 | .rng lo hi => ∃ t u v, h.get? a = some { cls := .type "range", data := .fields #[.int lo t, .int hi u, .int 1 v] }
 | .frz o u => h.get? a = some o /\ ObjOk H h a u
 | .tbl ps => h.get? a = some { cls := .none, data := .fields ps }
 | .met f x => h.get? a = some (PySem.W.methodObj (.ref f) (.ref x))
 | .ext φ => φ h /\ (∃ o, h.get? a = some o) /\ ∀ h1 h2 : Heap, φ h1 -> (∀ o, h1.get? a = some o -> h2.get? a = some o) -> φ h2
def HOk (H : Hp) (h : Heap) : Prop := ∀ a o, H a = some o -> ObjOk P w H h a o
end
section
variable {P : Program} {w : World} {H H' : Hp} {h h' : Heap} {a : Addr} {o : HO}
theorem ObjOk.lt (x : ObjOk P w H h a o) : a < h.objs.size := by
 cases o with
 | lst xs => obtain ⟨_, _, _, _, e⟩ := x; exact Heap.lt_size e
 | tup xs => obtain ⟨_, _, _, p⟩ := x; exact p.lt
 | dK kvs => obtain ⟨_, _, _, _, o, _, _, e, _⟩ := x; exact Heap.lt_size e
 | dT kvs => obtain ⟨_, _, _, _, o, _, _, e, _⟩ := x; exact Heap.lt_size e
 | set S n => obtain ⟨o, _, _, _, e, _⟩ := x; exact Heap.lt_size e
 | ins C dx fs => obtain ⟨_, _, _, e, _⟩ := x; exact Heap.lt_size e
 | own y => obtain ⟨_, e⟩ := x; exact Heap.lt_size e
 | xd fs => obtain ⟨_, ⟨_, _, _, e, _⟩, _⟩ := x; exact Heap.lt_size e
 | rng lo hi => obtain ⟨_, _, _, e⟩ := x; exact Heap.lt_size e
 | frz ob u => obtain ⟨e, _⟩ := x; exact Heap.lt_size e
 | tbl ps => exact Heap.lt_size (show h.get? a = some _ from x)
 | met f y => exact Heap.lt_size (show h.get? a = some _ from x)
 | ext φ => obtain ⟨_, ⟨_, e⟩, _⟩ := x; exact Heap.lt_size e
theorem Paired.mapP {α β : Type} {F G : α -> β -> Prop} : ∀ {l₁ : List α} {l₂ : List β}, Paired F l₁ l₂ -> (∀ a b, F a b -> G a b) -> Paired G l₁ l₂
 | _, _, .nil, _ => .nil
 | _, _, .cons r t, f => .cons (f _ _ r) (Paired.mapP t f)
theorem ObjOk.stay (x : ObjOk P w H h a o) (k : ∀ b u, (b = a \/ H b = some (.own a)) -> h.get? b = some u -> h'.get? b = some u)
 (ho : ∀ b, H b = some (.own a) -> H' b = some (.own a)) (ht : ∀ b xs, H b = some (.tup xs) -> H' b = some (.tup xs)) : ObjOk P w H' h' a o := by
 induction o with
 | lst xs => obtain ⟨z, its, n, r, e⟩ := x; exact ⟨z, its, n, r, k _ _ (.inl rfl) e⟩
 | tup xs => obtain ⟨z, its, r, ob, e, c⟩ := x; exact ⟨z, its, r, ob, k _ _ (.inl rfl) e, c⟩
 | dK kvs => obtain ⟨z, y, vs, r, ob, es, ep, e, c⟩ := x; exact ⟨z, y, vs, r, ob, es, ep, k _ _ (.inl rfl) e, c⟩
 | dT kvs =>
  obtain ⟨z, y, xs, r, ob, es, ep, e, c⟩ := x
  exact ⟨z, y, xs, Paired.mapP r fun p q z => ⟨z.1, ht _ _ z.2.1, z.2.2⟩, ob, es, ep, k _ _ (.inl rfl) e, c⟩
 | set S n => obtain ⟨ob, es, ep, t, e, c⟩ := x; exact ⟨ob, es, ep, t, k _ _ (.inl rfl) e, c⟩
 | ins C dx fs =>
  obtain ⟨d, z, ne, e, mA, ⟨od, es, ep, e2, c⟩, r⟩ := x
  exact ⟨ho _ d, z, ne, k _ _ (.inl rfl) e, mA, ⟨od, es, ep, k _ _ (.inr d) e2, c⟩, r⟩
 | own y => obtain ⟨ob, e⟩ := x; exact ⟨ob, k _ _ (.inl rfl) e⟩
 | xd fs => obtain ⟨mA, ⟨od, es, ep, e, c⟩, r⟩ := x; exact ⟨mA, ⟨od, es, ep, k _ _ (.inl rfl) e, c⟩, r⟩
 | rng lo hi => obtain ⟨t, u, v, e⟩ := x; exact ⟨t, u, v, k _ _ (.inl rfl) e⟩
 | frz ob u ih => obtain ⟨e, q⟩ := x; exact ⟨k _ _ (.inl rfl) e, ih q⟩
 | tbl ps =>
  have e : h.get? a = some { cls := .none, data := .fields ps } := x
  show h'.get? a = some { cls := .none, data := .fields ps }
  exact k a _ (.inl rfl) e
 | met f y =>
  have e : h.get? a = some (PySem.W.methodObj (.ref f) (.ref y)) := x
  show h'.get? a = some (PySem.W.methodObj (.ref f) (.ref y))
  exact k a _ (.inl rfl) e
 | ext φ => obtain ⟨p, ⟨o, e⟩, st⟩ := x; exact ⟨st _ _ p fun o q => k _ _ (.inl rfl) q, ⟨o, k _ _ (.inl rfl) e⟩, st⟩
theorem HOk.lt (x : HOk P w H h) (e : H a = some o) : a < h.objs.size := (x a o e).lt
theorem HOk.fresh (x : HOk P w H h) (e : h.objs.size <= a) : H a = none := by
 cases q : H a with
 | none => rfl
 | some u => exact absurd (Nat.lt_of_lt_of_le (x.lt q) e) (Nat.lt_irrefl _)
theorem HOk.kept (x : HOk P w H h) (k : ∀ b u, h.get? b = some u -> h'.get? b = some u) : HOk P w H h' := fun a o e =>
 (x a o e).stay (fun b u _ q => k b u q) (fun _ q => q) fun _ _ q => q
theorem HOk.laid (x : HOk P w H h) (k : ∀ b u, h.get? b = some u -> h'.get? b = some u) (hp : h.objs.size <= a) (new : ObjOk P w (upd H a o) h' a o) : HOk P w (upd H a o) h' := fun b u e => by
 have hn := x.fresh hp
 by_cases hb : b = a
 ·subst hb; rw [ai] at e; cases e; exact new
 ·rw [ay hb] at e
  exact (x b u e).stay (fun c v _ q => k c v q) (fun c q => by rw [ay (au q hn)]; exact q) fun c xs q => by rw [ay (au q hn)]; exact q
end
def Rd (H : Hp) (a : Addr) (u : HO) : Prop := H a = some u \/ ∃ o, H a = some (.frz o u)
theorem Rd.ok {P : Program} {w : World} {H : Hp} {h : Heap} {a : Addr} {u : HO} (r : Rd H a u) (x : HOk P w H h) : ObjOk P w H h a u := by
 rcases r with r | ⟨o, r⟩
 ·exact x a u r
 ·obtain ⟨_, q⟩ := x a _ r
  exact q
def Mut : Option HO -> Prop
 | some (.lst _) => True
 | some (.dK _) => True
 | some (.dT _) => True
 | some (.set _ _) => True
 | some (.ins _ _ _) => True
 | some (.ext _) => True
 | _ => False
section
variable {P : Program} {w : World} {H : Hp} {h h' : Heap} {x e : Addr} {o' : HO}
theorem HOk.write (ok : HOk P w H h) (mu : Mut (H x)) (he : e = x \/ H e = some (.own x)) (k : ∀ b u, b ≠ e -> h.get? b = some u -> h'.get? b = some u) (heo : ∃ u, h'.get? e = some u)
 (new : ObjOk P w (upd H x o') h' x o') : HOk P w (upd H x o') h' := fun b u q => by
 have nown : ∀ c y, H c = some (.own y) -> c ≠ x := fun c y r z => by subst z; rw [r] at mu; exact mu
 have ntup : ∀ c xs, H c = some (.tup xs) -> c ≠ x := fun c xs r z => by subst z; rw [r] at mu; exact mu
 by_cases hb : b = x
 ·subst hb; rw [ai] at q; cases q; exact new
 ·rw [ay hb] at q
  by_cases hbe : b = e
  ·have q' : H b = some (.own x) := by
    rcases he with z | z
    ·exact absurd (hbe.trans z) hb
    ·rw [hbe]; exact z
   rw [q] at q'; cases q'
   obtain ⟨v, hv⟩ := heo
   exact ⟨v, by rw [hbe]; exact hv⟩
  ·refine (ok b u q).stay (fun c v hc r => k c v ?_ r) (fun c r => by rw [ay (nown c b r)]; exact r) fun c xs r => by rw [ay (ntup c xs r)]; exact r
   rcases hc with rfl | hc
   ·exact hbe
   ·rintro rfl
    rcases he with z | z
    ·exact nown c b hc z
    ·rw [hc] at z; cases z; exact hb rfl
end
structure Un (fs ex : List Addr) (H H' : Hp) (h h' : Heap) : Prop where
 keep : ∀ b o, h.get? b = some o -> H b = none -> b ∉ fs -> b ∉ ex -> h'.get? b = some o
 slot : ∀ b o, h.get? b = some o -> H b = none -> b ∈ fs -> b ∉ ex -> ∃ sl, h'.get? b = some { o with slots := sl }
 free : ∀ b o, h.get? b = some o -> H b = none -> b ∉ ex -> H' b = none
 there : ∀ b o, h.get? b = some o -> b ∉ ex -> ∃ o', h'.get? b = some o'
 tups : ∀ b xs, H b = some (.tup xs) -> H' b = some (.tup xs)
 frzs : ∀ b o u, H b = some (.frz o u) -> H' b = some (.frz o u)
 tbls : ∀ b ps, H b = some (.tbl ps) -> ∃ more, H' b = some (.tbl (ps ++ more))
section
variable {fs fs' ex ex' : List Addr} {H H1 H2 : Hp} {h h1 h2 h' : Heap} {a x e : Addr} {o : HO}
theorem Un.any (u : Un fs ex H H1 h h1) {b : Addr} {ob : Obj} (q : h.get? b = some ob) (n : H b = none) (hx : b ∉ ex) : ∃ sl, h1.get? b = some { ob with slots := sl } := by
 by_cases hb : b ∈ fs
 ·exact u.slot b ob q n hb hx
 ·exact ⟨ob.slots, u.keep b ob q n hb hx⟩
theorem Un.kept (k : ∀ b u, h.get? b = some u -> h'.get? b = some u) : Un fs ex H H h h' :=
 ⟨fun b ob q _ _ _ => k b ob q, fun b ob q _ _ _ => ⟨ob.slots, k b ob q⟩, fun _ _ _ n _ => n, fun b ob q _ => ⟨ob, k b ob q⟩, fun _ _ q => q, fun _ _ _ q => q, fun _ ps q => ⟨#[], by rw [q]; simp⟩⟩
theorem Un.refl : Un fs ex H H h h := Un.kept fun _ _ q => q
theorem Un.laid (k : ∀ b u, h.get? b = some u -> h'.get? b = some u) (hp : h.objs.size <= a) (hn : H a = none) : Un fs ex H (upd H a o) h h' where
 keep := fun b u q _ _ _ => k b u q
 slot := fun b u q _ _ _ => ⟨u.slots, k b u q⟩
 free := fun b u q n _ => by rw [ay (Nat.ne_of_lt (Nat.lt_of_lt_of_le (Heap.lt_size q) hp))]; exact n
 there := fun b u q _ => ⟨u, k b u q⟩
 tups := fun b xs q => by rw [ay (au q hn)]; exact q
 frzs := fun b u xs q => by rw [ay (au q hn)]; exact q
 tbls := fun b ps q => ⟨#[], by rw [ay (au q hn), q]; simp⟩
theorem Un.write (mu : Mut (H x)) (he : e = x \/ H e = some (.own x)) (k : ∀ b u, b ≠ e -> h.get? b = some u -> h'.get? b = some u) (heo : ∃ u, h'.get? e = some u) : Un fs ex H (upd H x o) h h' := by
 have hx : ∀ b, H b = none -> b ≠ x := fun b n z => by subst z; rw [n] at mu; exact mu
 have hb : ∀ b, H b = none -> b ≠ e := fun b n z => by
  subst z
  rcases he with r | r
  ·exact hx b n r
  ·rw [n] at r; cases r
 have hm : ∀ b u, H b = some u -> ¬ Mut (some u) -> b ≠ x := fun b u q nm z => by subst z; rw [q] at mu; exact nm mu
 refine ⟨fun b u q n _ _ => k b u (hb b n) q, fun b u q n _ _ => ⟨u.slots, k b u (hb b n) q⟩, fun b u q n _ => by rw [ay (hx b n)]; exact n, fun b u q _ => ?_,
  fun b xs q => by rw [ay (hm b _ q fun z => z)]; exact q, fun b u xs q => by rw [ay (hm b _ q fun z => z)]; exact q, fun b ps q => ⟨#[], by rw [ay (hm b _ q fun z => z), q]; simp⟩⟩
 by_cases hbe : b = e
 ·subst hbe; exact heo
 ·exact ⟨u, k b u hbe q⟩
end
def trk (h : Heap) (H : Hp) : List Addr := (List.range h.objs.size).filter fun a => (H a).isSome
def uR (h : Heap) (H : Hp) : Heap := PySem.W.hideAll h (trk h H)
theorem zC (h : Heap) (H : Hp) : (uR h H).objs.size = h.objs.size := PySem.W.hideAll_size _ _
theorem zT {h : Heap} {H : Hp} {b : Addr} {o : Obj} (e : h.get? b = some o) (n : H b = none) : (uR h H).get? b = some o :=
 PySem.W.hideAll_get _ e fun hm => by
  have q : (H b).isSome = true := (List.mem_filter.mp hm).2
  rw [n] at q; simp at q
theorem CZ {h : Heap} {H : Hp} {b : Addr} {o : Obj} (e : (uR h H).get? b = some o) : h.get? b = some o /\ H b = none := by
 have e' : h.get? b = some o := PySem.W.of_hideAll (trk h H) e
 refine ⟨e', ?_⟩
 cases q : H b with
 | none => rfl
 | some x =>
  have hm : b ∈ trk h H := List.mem_filter.mpr ⟨List.mem_range.mpr (Heap.lt_size e'), by simp [q]⟩
  have z : (uR h H).get? b = none := PySem.W.hideAll_none (trk h H) hm
  rw [z] at e; cases e
def Cg (g h : Heap) (L : Addr) : List (Addr × Obj) := (List.range h.objs.size).filterMap fun a => if a = L \/ (g.get? a).isSome = true then none else (h.get? a).map fun o => (a, o)
def rest (g h : Heap) (L d : Addr) : List (Addr × Obj) := (Cg g h L).filter fun p => decide (p.1 ≠ d)
end L2
namespace L2
open PySem PySem.Spec PyProof.Rows
structure Mod (K : W.Frag) (mg : Str -> Option Value) (base : Heap) : Prop where
 kin : K.In base
 glob : base.Ns mainGlobals mg
 blt : ∃ mb, base.Ns builtinsNs mb /\ ∀ x : Str, x ≠ "__name__" -> mb x = bootBuiltins x
 nolimit : base.NoLimit
structure Cx where
 prog : Program
 w : World
 K : W.Frag
 mg : Str -> Option Value
 base : Heap
 A : Around
 N : List Str
 s₀ : Shared
 H₀ : Hp
 env : Env
 outer : List Env
 stack : List Env
 ex : List Addr
 fn : Str -> Bool
 calm : Bool
 pn : List (Addr × Obj)
 xe : Value -> Shared -> Prop
def frs (l : List Env) : List Addr := l.filterMap (·.frame)
abbrev Cx.fs (X : Cx) : List Addr := frs X.outer
def Vis (sc : Scope) (x : Str) : Prop := sc.names.lookup x = some .local \/ sc.names.lookup x = some .cell \/ sc.names.lookup x = some .free
def Loc (sc : Scope) (x : Str) : Prop := sc.names.lookup x = some .local \/ sc.names.lookup x = some .cell
def Gw (env : Env) (h : Heap) (m : Str -> Option Value) (x : Str) (u : Value) : Prop :=
 (env.kindOf x = some .local /\ m x = some u) \/ ((env.kindOf x = some .cell \/ env.kindOf x = some .free) /\ ∃ c, env.cells.lookup x = some c /\ h.IsCell c (some u))
structure Cx.Ok (X : Cx) : Prop where
 mod : Mod X.K X.mg X.base
 kind : X.env.scope.kind = .function
 glob : X.env.globals = mainGlobals
 blt : X.env.builtins = builtinsNs
 above : X.s₀.heap.objs.size <= X.env.locals
 inj : ∀ x y c, X.env.cells.lookup x = some c -> X.env.cells.lookup y = some c -> x = y
 has : ∀ x, (X.env.kindOf x = some .cell \/ X.env.kindOf x = some .free) -> ∃ c, X.env.cells.lookup x = some c
 cab : ∀ x c, X.fn x = true -> X.env.cells.lookup x = some c -> X.s₀.heap.objs.size <= c
 hd : X.calm = true -> X.A.handled = none
 frames : X.A.frames = some X.stack
 stk : X.stack = X.outer \/ (X.stack = X.env :: X.outer /\ X.env.frame = some X.env.locals)
 exf : ∀ b ∈ X.ex, b ≠ X.env.locals /\ ∀ x c, X.env.cells.lookup x = some c -> c ≠ b
 bs : ∀ b o, X.base.get? b = some o -> X.s₀.heap.get? b = some o /\ X.H₀ b = none
 bsz : X.base.objs.size <= X.s₀.heap.objs.size
 noex : ∀ b o, X.base.get? b = some o -> b ∉ X.ex
 exfs : ∀ b ∈ X.ex, b ∉ X.fs
 funs : X.s₀.heap.FunFrames X.base X.outer
 frf : ∀ b ∈ X.fs, X.H₀ b = none
structure Inv (X : Cx) (pins : List (Addr × Obj)) (σ : List (Option V)) (H : Hp) (s : Shared) : Prop where
 ok : X.Ok
 os : s.os = X.s₀.os
 bare : AllBare s.gens
 base : Un X.fs X.ex X.H₀ H X.s₀.heap s.heap
 loc : ∃ m, s.heap.Ns X.env.locals m /\ ∀ (i : Nat) (x : Str) (v : V), X.N[i]? = some x -> σ[i]? = some (some v) -> Vis X.env.scope x -> ∃ u, RelV v u /\ Gw X.env s.heap m x u
 cell : ∀ x c, X.env.cells.lookup x = some c -> ∃ v, s.heap.IsCell c v
 free : H X.env.locals = none
 freeC : ∀ x c, X.env.cells.lookup x = some c -> H c = none
 pin : ∀ p ∈ X.pn ++ pins, s.heap.get? p.1 = some p.2 /\ H p.1 = none /\ p.1 ≠ X.env.locals /\ p.1 ∉ X.fs /\ ∀ v, p.2.data ≠ .cell v
 hok : HOk X.prog X.w H s.heap
 len : σ.length = X.N.length
section
variable {X : Cx} {pins : List (Addr × Obj)} {σ : List (Option V)} {H H' : Hp} {s : Shared} {h' : Heap}
theorem Cx.Ok.nofr (ok : X.Ok) {b : Addr} {o : Obj} (e : X.base.get? b = some o) : b ∉ X.fs := fun hb => by
 have := (ok.funs.mem hb).1
 rw [e] at this; cases this
theorem Inv.bs (I : Inv X pins σ H s) : ∀ b o, X.base.get? b = some o -> s.heap.get? b = some o /\ H b = none := fun b o e =>
 ⟨I.base.keep b o (I.ok.bs b o e).1 (I.ok.bs b o e).2 (I.ok.nofr e) (I.ok.noex b o e), I.base.free b o (I.ok.bs b o e).1 (I.ok.bs b o e).2 (I.ok.noex b o e)⟩
theorem Inv.bk (I : Inv X pins σ H s) : ∀ b o, X.base.get? b = some o -> s.heap.get? b = some o := fun b o e => (I.bs b o e).1
theorem Inv.mod (I : Inv X pins σ H s) : Mod X.K X.mg X.base := I.ok.mod
theorem Inv.kIn (I : Inv X pins σ H s) : X.K.In s.heap := I.ok.mod.kin.keeps I.bk
theorem Inv.lt (I : Inv X pins σ H s) : X.env.locals < s.heap.objs.size := let ⟨_, hn, _⟩ := I.loc; hn.lt
theorem Inv.sz (I : Inv X pins σ H s) : X.s₀.heap.objs.size <= s.heap.objs.size := Nat.le_trans I.ok.above (Nat.le_of_lt I.lt)
theorem Inv.nofs (I : Inv X pins σ H s) {a : Addr} (h : s.heap.objs.size <= a) : a ∉ X.fs := fun hb => by
 obtain ⟨_, o, ho, _⟩ := I.ok.funs.mem hb
 exact absurd (Nat.lt_of_lt_of_le (Heap.lt_size ho) (Nat.le_trans I.sz h)) (Nat.lt_irrefl _)
theorem Inv.cne (I : Inv X pins σ H s) : ∀ x c, X.env.cells.lookup x = some c -> c ≠ X.env.locals := fun x c e z => by
 obtain ⟨v, o, ho, hd⟩ := I.cell x c e
 obtain ⟨m, ⟨o', es, ep, ho', hd', _⟩, _⟩ := I.loc
 rw [z, ho'] at ho; cases ho; rw [hd'] at hd; cases hd
theorem Inv.funs (I : Inv X pins σ H s) : s.heap.FunFrames X.base X.outer := by
 have all : ∀ (l : List Env), (∀ b ∈ frs l, b ∈ X.fs) -> X.s₀.heap.FunFrames X.base l -> s.heap.FunFrames X.base l := by
  intro l
  induction l with
  | nil => intro _ _; trivial
  | cons env r ih =>
   intro hs hl
   obtain ⟨hk, ⟨L, o, hf, hn, ho, hd⟩, hr⟩ := hl
   have hL : L ∈ X.fs := hs L (by unfold frs; rw [List.filterMap_cons, hf]; exact List.mem_cons_self)
   obtain ⟨sl, e⟩ := I.base.slot L o ho (I.ok.frf L hL) hL fun z => I.ok.exfs L z hL
   exact ⟨hk, ⟨L, _, hf, hn, e, hd⟩, ih (fun b hb => hs b (by unfold frs; rw [List.filterMap_cons, hf]; exact List.mem_cons_of_mem _ hb)) hr⟩
 exact all X.outer (fun _ hb => hb) I.ok.funs
theorem Inv.stack (I : Inv X pins σ H s) : s.heap.FunFrames X.base X.stack := by
 rcases I.ok.stk with e | ⟨e, hf⟩
 ·rw [e]; exact I.funs
 ·rw [e]
  obtain ⟨m, hn, _⟩ := I.loc
  refine .cons (by rw [I.ok.kind]; decide) hf hn ?_ I.funs
  exact Heap.get?_none_of_le (Nat.le_trans I.ok.bsz I.ok.above)
theorem Inv.stkSub (I : Inv X pins σ H s) : ∀ b ∈ frs X.stack, b ∈ X.env.locals :: X.fs := fun b hb => by
 rcases I.ok.stk with e | ⟨e, hf⟩
 ·rw [e] at hb; exact List.mem_cons_of_mem _ hb
 ·rw [e] at hb
  unfold frs at hb
  rw [List.filterMap_cons, hf] at hb
  exact hb
theorem Inv.stkFree (I : Inv X pins σ H s) : ∀ b ∈ frs X.stack, H b = none := fun b hb => by
 rcases List.mem_cons.mp (I.stkSub b hb) with e | hb
 ·rw [e]; exact I.free
 ·obtain ⟨_, o, ho, _⟩ := I.ok.funs.mem hb
  exact I.base.free b o ho (I.ok.frf b hb) fun z => I.ok.exfs b z hb
theorem Inv.step {g' : Array GenState} {t' : Nat} {d' : Drawn} {ch : List Addr} (I : Inv X pins σ H s)
 (hch : ∀ b ∈ ch, (b ∈ X.ex \/ X.s₀.heap.objs.size <= b) /\ b ≠ X.env.locals /\ (∀ x c, X.env.cells.lookup x = some c -> c ≠ b) /\ ∀ p ∈ X.pn ++ pins, p.1 ≠ b)
 (keep : ∀ b o, b ≠ X.env.locals -> b ∉ X.fs -> b ∉ ch -> s.heap.get? b = some o -> H b = none -> h'.get? b = some o)
 (slot : ∀ b o, b ≠ X.env.locals -> b ∈ X.fs -> b ∉ ch -> s.heap.get? b = some o -> H b = none -> ∃ sl, h'.get? b = some { o with slots := sl }) (free : ∀ b o, b ∉ ch -> s.heap.get? b = some o -> H b = none -> H' b = none)
 (there : ∀ b o, b ∉ ch -> s.heap.get? b = some o -> ∃ o', h'.get? b = some o')
 (tups : ∀ b xs, H b = some (.tup xs) -> H' b = some (.tup xs)) (frzs : ∀ b o u, H b = some (.frz o u) -> H' b = some (.frz o u)) (tbls : ∀ b ps, H b = some (.tbl ps) -> ∃ more, H' b = some (.tbl (ps ++ more)))
 (ns : ∀ m, s.heap.Ns X.env.locals m -> h'.Ns X.env.locals m) (hok : HOk X.prog X.w H' h') (hg : AllBare g') :
 Inv X pins σ H' { s with heap := h', gens := g', drawn := d', toks := t' } := by
 have neL : ∀ b o, X.s₀.heap.get? b = some o -> b ≠ X.env.locals := fun b o e => Nat.ne_of_lt (Nat.lt_of_lt_of_le (Heap.lt_size e) I.ok.above)
 have neC : ∀ b o, X.s₀.heap.get? b = some o -> b ∉ X.ex -> b ∉ ch := fun b o e hx hb => by
  rcases (hch b hb).1 with z | z
  ·exact hx z
  ·exact absurd (Nat.lt_of_lt_of_le (Heap.lt_size e) z) (Nat.lt_irrefl _)
 have cellK : ∀ x c, X.env.cells.lookup x = some c -> ∀ v, s.heap.IsCell c v -> h'.IsCell c v := fun x c e v ⟨o, ho, hd⟩ => by
  have nch : c ∉ ch := fun z => (hch c z).2.2.1 x c e rfl
  by_cases hc : c ∈ X.fs
  ·obtain ⟨sl, q⟩ := slot c o (I.cne x c e) hc nch ho (I.freeC x c e)
   exact ⟨_, q, hd⟩
  ·exact ⟨o, keep c o (I.cne x c e) hc nch ho (I.freeC x c e), hd⟩
 refine ⟨I.ok, I.os, hg, ⟨fun b o e n hb hx => ?_, fun b o e n hb hx => ?_, fun b o e n hx => ?_, fun b o e hx => ?_, fun b xs e => tups b xs (I.base.tups b xs e), fun b o xs e => frzs b o xs (I.base.frzs b o xs e), fun b ps e => ?_⟩, ?_, fun x c e => ?_, ?_, fun x c e => ?_, fun p hp => ?_, hok, I.len⟩
 ·exact keep b o (neL b o e) hb (neC b o e hx) (I.base.keep b o e n hb hx) (I.base.free b o e n hx)
 ·obtain ⟨sl, e1⟩ := I.base.slot b o e n hb hx
  obtain ⟨sl', e2⟩ := slot b _ (neL b o e) hb (neC b o e hx) e1 (I.base.free b o e n hx)
  exact ⟨sl', e2⟩
 ·obtain ⟨o', e1⟩ := I.base.there b o e hx
  exact free b o' (neC b o e hx) e1 (I.base.free b o e n hx)
 ·obtain ⟨o', e1⟩ := I.base.there b o e hx
  exact there b o' (neC b o e hx) e1
 ·obtain ⟨m1, e1⟩ := I.base.tbls b ps e
  obtain ⟨m2, e2⟩ := tbls b _ e1
  exact ⟨m1 ++ m2, by rw [e2, Array.append_assoc]⟩
 ·obtain ⟨m, hn, hl⟩ := I.loc
  refine ⟨m, ns m hn, fun i x v e1 e2 e3 => ?_⟩
  obtain ⟨u, r, l⟩ := hl i x v e1 e2 e3
  refine ⟨u, r, ?_⟩
  rcases l with l | ⟨k, c, e, z⟩
  ·exact .inl l
  ·exact .inr ⟨k, c, e, cellK x c e _ z⟩
 ·obtain ⟨v, z⟩ := I.cell x c e
  exact ⟨v, cellK x c e v z⟩
 ·obtain ⟨m, ⟨o, _, _, ho, _⟩, _⟩ := I.loc
  exact free _ o (fun z => (hch _ z).2.1 rfl) ho I.free
 ·obtain ⟨v, o, ho, hd⟩ := I.cell x c e
  exact free c o (fun z => (hch c z).2.2.1 x c e rfl) ho (I.freeC x c e)
 ·obtain ⟨e, n, ne, nf, d⟩ := I.pin p hp
  have nch : p.1 ∉ ch := fun z => (hch p.1 z).2.2.2 p hp rfl
  exact ⟨keep p.1 p.2 ne nf nch e n, free p.1 p.2 nch e n, ne, nf, d⟩
theorem Inv.un {t' : Nat} (I : Inv X pins σ H s) (u : Un X.fs [] H H' s.heap h') (hok : HOk X.prog X.w H' h') : Inv X pins σ H' { s with heap := h', toks := t' } := by
 obtain ⟨m, ⟨o, es, ep, ho, r⟩, _⟩ := id I.loc
 obtain ⟨sl, hL⟩ := u.any ho I.free (by simp)
 exact I.step (g' := s.gens) (d' := s.drawn) (ch := []) (fun _ z => nomatch z) (fun b o _ hb _ e n => u.keep b o e n hb (by simp)) (fun b o _ hb _ e n => u.slot b o e n hb (by simp)) (fun b o _ e n => u.free b o e n (by simp)) (fun b o _ e => u.there b o e (by simp)) u.tups u.frzs u.tbls (fun m' hm => by
  obtain ⟨o', es', ep', ho', r'⟩ := hm
  rw [ho] at ho'; cases ho'
  exact ⟨_, es', ep', hL, r'⟩) hok I.bare
theorem Inv.call {g' : Array GenState} {t' : Nat} {d' : Drawn} {ch : List Addr} (I : Inv X pins σ H s) (u : Un (frs X.stack) ch H H' s.heap h') (hok : HOk X.prog X.w H' h') (hg : AllBare g')
 (hch : ∀ b ∈ ch, (b ∈ X.ex \/ X.s₀.heap.objs.size <= b) /\ b ≠ X.env.locals /\ (∀ x c, X.env.cells.lookup x = some c -> c ≠ b) /\ ∀ p ∈ X.pn ++ pins, p.1 ≠ b) :
 Inv X pins σ H' { s with heap := h', gens := g', drawn := d', toks := t' } := by
 obtain ⟨m, ⟨o, es, ep, ho, r⟩, _⟩ := id I.loc
 obtain ⟨sl, hL⟩ := u.any ho I.free fun z => (hch _ z).2.1 rfl
 exact I.step (ch := ch) hch (fun b o hL hb hc e n => u.keep b o e n (fun z => (List.mem_cons.mp (I.stkSub b z)).elim hL hb) hc) (fun b o _ _ hc e n => u.any e n hc) (fun b o hc e n => u.free b o e n hc) (fun b o hc e => u.there b o e hc) u.tups u.frzs u.tbls (fun m' hm => by
  obtain ⟨o', es', ep', ho', r'⟩ := hm
  rw [ho] at ho'; cases ho'
  exact ⟨_, es', ep', hL, r'⟩) hok hg
theorem Inv.turned {t' : Nat} {it : Addr} (I : Inv X pins σ H s) (k : ∀ b o, b ≠ it -> s.heap.get? b = some o -> h'.get? b = some o) (hn : H it = none) (hL : it ≠ X.env.locals)
 (h1 : it ∈ X.ex \/ X.s₀.heap.objs.size <= it) (h2 : ∀ x c, X.env.cells.lookup x = some c -> c ≠ it) (h3 : ∀ p ∈ X.pn ++ pins, p.1 ≠ it) : Inv X pins σ H { s with heap := h', toks := t' } := by
 have nit : ∀ b u, H b = some u -> b ≠ it := fun b u e z => by rw [z, hn] at e; cases e
 refine I.step (g' := s.gens) (d' := s.drawn) (ch := [it]) (fun b hb => ?_) (fun b o _ _ hc e _ => k b o (fun z => hc (by simp [z])) e) (fun b o _ _ hc e _ => ⟨o.slots, k b o (fun z => hc (by simp [z])) e⟩) (fun _ _ _ _ n => n)
  (fun b o hc e => ⟨o, k b o (fun z => hc (by simp [z])) e⟩) (fun _ _ e => e) (fun _ _ _ e => e) (fun b ps e => ⟨#[], by rw [e]; simp⟩) (fun m hm => ?_) (fun b u e => ?_) I.bare
 ·have e : b = it := by simpa using hb
  subst e
  exact ⟨h1, hL, h2, h3⟩
 ·obtain ⟨o, es, ep, ho, r⟩ := hm
  exact ⟨o, es, ep, k _ o (Ne.symm hL) ho, r⟩
 ·refine (I.hok b u e).stay (fun c v hc q => k c v ?_ q) (fun _ q => q) fun _ _ q => q
  rcases hc with z | z
  ·rw [z]; exact nit b u e
  ·exact nit c _ z
theorem Inv.tok (I : Inv X pins σ H s) (t : Nat) : Inv X pins σ H { s with toks := t } := I.un (h' := s.heap) (t' := t) Un.refl I.hok
theorem Inv.kept {t' : Nat} (I : Inv X pins σ H s) (k : ∀ b u, s.heap.get? b = some u -> h'.get? b = some u) : Inv X pins σ H { s with heap := h', toks := t' } := I.un (Un.kept k) (I.hok.kept k)
theorem Inv.laid {a : Addr} {o : HO} {t' : Nat} (I : Inv X pins σ H s) (k : ∀ b u, s.heap.get? b = some u -> h'.get? b = some u) (hp : s.heap.objs.size <= a) (new : ObjOk X.prog X.w (upd H a o) h' a o) :
 Inv X pins σ (upd H a o) { s with heap := h', toks := t' } := I.un (Un.laid k hp (I.hok.fresh hp)) (I.hok.laid k hp new)
theorem Inv.write {x e : Addr} {o : HO} {t' : Nat} (I : Inv X pins σ H s) (mu : Mut (H x)) (he : e = x \/ H e = some (.own x)) (k : ∀ b u, b ≠ e -> s.heap.get? b = some u -> h'.get? b = some u) (heo : ∃ u, h'.get? e = some u)
 (new : ObjOk X.prog X.w (upd H x o) h' x o) : Inv X pins σ (upd H x o) { s with heap := h', toks := t' } := I.un (Un.write mu he k heo) (I.hok.write mu he k heo new)
theorem Inv.pins_of {pins' : List (Addr × Obj)} (I : Inv X pins σ H s) (h : ∀ p ∈ pins', s.heap.get? p.1 = some p.2 /\ H p.1 = none /\ p.1 ≠ X.env.locals /\ p.1 ∉ X.fs /\ ∀ v, p.2.data ≠ .cell v) : Inv X pins' σ H s :=
 ⟨I.ok, I.os, I.bare, I.base, I.loc, I.cell, I.free, I.freeC, fun p hp => (List.mem_append.mp hp).elim (fun z => I.pin p (List.mem_append_left _ z)) (h p), I.hok, I.len⟩
theorem rl {N : List Str} (hN : N.Nodup) {i j : Nat} {x : Str} (a : N[i]? = some x) (b : N[j]? = some x) : i = j := by
 obtain ⟨h1, e1⟩ := List.getElem?_eq_some_iff.mp a
 obtain ⟨h2, e2⟩ := List.getElem?_eq_some_iff.mp b
 exact (List.getElem_inj hN).mp (e1.trans e2.symm)
theorem sQ {M : Model} {A : Around} {E : Value -> Shared -> Prop} {i : Nat} {x : Str} {v : V} {u : Value} {Q : Unit -> Shared -> Prop} (I : Inv X pins σ H s) (hN : X.N.Nodup) (hi : X.N[i]? = some x) (hx : Loc X.env.scope x) (r : RelV v u)
 (h : ∀ s', Inv X pins (σ.set i (some v)) H s' -> (∃ a, Heap.SameBut a s.heap s'.heap /\ (a = X.env.locals \/ X.env.cells.lookup x = some a)) -> Q () s') (hf : X.fn x = true \/ X.env.scope.names.lookup x = some .local := by first | exact .inl rfl | exact .inr rfl | assumption) : wpAny M A (storeName X.env x u) Q E s := by
 obtain ⟨m, hn, hl⟩ := id I.loc
 have hcls : (X.env.scope.kind == .class || (X.env.scope.kind == .module && X.env.locals != X.env.globals)) = false := by rw [I.ok.kind]; rfl
 have hiσ : i < σ.length := by rw [I.len]; exact (List.getElem?_eq_some_iff.mp hi).1
 have cne := I.cne
 have tracked : ∀ {a : Addr} {h' : Heap}, (∃ o, s.heap.get? a = some o /\ H a = none) -> Heap.SameBut a s.heap h' -> HOk X.prog X.w H h' := fun {a h'} ha hs b ob e => by
  obtain ⟨_, _, hfree⟩ := ha
  refine (I.hok b ob e).stay (fun c w' hc q => (hs.2 c ?_).trans q) (fun _ q => q) fun _ _ q => q
  rintro rfl
  rcases hc with rfl | hc
  ·rw [hfree] at e; cases e
  ·rw [hfree] at hc; cases hc
 rcases hx with hk | hk
 ·refine wpAny_storeName_local hk hn (fun h' hn' hs => ?_) hcls
  obtain ⟨oL, _, _, hoL, _⟩ := id hn
  refine h _ ⟨I.ok, I.os, I.bare, ⟨fun b o e n hb hx => ?_, fun b o e n hb hx => ?_, I.base.free, fun b o e hx => ?_, I.base.tups, I.base.frzs, I.base.tbls⟩, ⟨_, hn', fun j y v' e1 e2 e3 => ?_⟩, fun y c e => ?_, I.free, I.freeC, fun p hp => ?_, tracked ⟨oL, hoL, I.free⟩ hs, by simpa using I.len⟩ ⟨_, hs, .inl rfl⟩
  ·exact (hs.2 b (Nat.ne_of_lt (Nat.lt_of_lt_of_le (Heap.lt_size e) I.ok.above))).trans (I.base.keep b o e n hb hx)
  ·obtain ⟨sl, e1⟩ := I.base.slot b o e n hb hx
   exact ⟨sl, (hs.2 b (Nat.ne_of_lt (Nat.lt_of_lt_of_le (Heap.lt_size e) I.ok.above))).trans e1⟩
  ·obtain ⟨o', e1⟩ := I.base.there b o e hx
   exact ⟨o', (hs.2 b (Nat.ne_of_lt (Nat.lt_of_lt_of_le (Heap.lt_size e) I.ok.above))).trans e1⟩
  ·by_cases hj : j = i
   ·subst hj
    rw [hi] at e1; cases e1
    rw [List.getElem?_set_self hiσ] at e2
    cases e2
    exact ⟨u, r, .inl ⟨hk, by simp⟩⟩
   ·rw [List.getElem?_set_ne (Ne.symm hj)] at e2
    obtain ⟨u', r', q⟩ := hl j y v' e1 e2 e3
    refine ⟨u', r', ?_⟩
    rcases q with ⟨k, e⟩ | ⟨k, c, e, z⟩
    ·refine .inl ⟨k, ?_⟩
     have : y ≠ x := fun e => hj (rl hN e1 (e ▸ hi))
     simp [this, e]
    ·exact .inr ⟨k, c, e, z.sameBut hs (cne y c e)⟩
  ·obtain ⟨w', z⟩ := I.cell y c e
   exact ⟨w', z.sameBut hs (cne y c e)⟩
  ·obtain ⟨e, n, ne, nf, d⟩ := I.pin p hp
   exact ⟨(hs.2 p.1 ne).trans e, n, ne, nf, d⟩
 ·have hfn : X.fn x = true := by
   rcases hf with z | z
   ·exact z
   ·rw [z] at hk; cases hk
  obtain ⟨c, hc⟩ := I.ok.has x (.inl hk)
  obtain ⟨w', z⟩ := I.cell x c hc
  refine wpAny_storeName_cell I.ok.kind hk hc z (fun h' hc' hs => ?_)
  obtain ⟨oc, hoc, hocd⟩ := id z
  refine h { s with heap := h' } ⟨I.ok, I.os, I.bare, ⟨fun b o e n hb hx => ?_, fun b o e n hb hx => ?_, I.base.free, fun b o e hx => ?_, I.base.tups, I.base.frzs, I.base.tbls⟩, ⟨m, hn.sameBut hs (Ne.symm (cne x c hc)), fun j y v' e1 e2 e3 => ?_⟩, fun y c' e => ?_, I.free, I.freeC, fun p hp => ?_, tracked ⟨oc, hoc, I.freeC x c hc⟩ hs, by simpa using I.len⟩ ⟨c, hs, .inr hc⟩
  ·exact (hs.2 b (Nat.ne_of_lt (Nat.lt_of_lt_of_le (Heap.lt_size e) (I.ok.cab x c hfn hc)))).trans (I.base.keep b o e n hb hx)
  ·obtain ⟨sl, e1⟩ := I.base.slot b o e n hb hx
   exact ⟨sl, (hs.2 b (Nat.ne_of_lt (Nat.lt_of_lt_of_le (Heap.lt_size e) (I.ok.cab x c hfn hc)))).trans e1⟩
  ·obtain ⟨o', e1⟩ := I.base.there b o e hx
   exact ⟨o', (hs.2 b (Nat.ne_of_lt (Nat.lt_of_lt_of_le (Heap.lt_size e) (I.ok.cab x c hfn hc)))).trans e1⟩
  ·by_cases hj : j = i
   ·subst hj
    rw [hi] at e1; cases e1
    rw [List.getElem?_set_self hiσ] at e2
    cases e2
    exact ⟨u, r, .inr ⟨.inl hk, c, hc, hc'⟩⟩
   ·rw [List.getElem?_set_ne (Ne.symm hj)] at e2
    obtain ⟨u', r', q⟩ := hl j y v' e1 e2 e3
    refine ⟨u', r', ?_⟩
    rcases q with q | ⟨k, c', e, z'⟩
    ·exact .inl q
    ·refine .inr ⟨k, c', e, z'.sameBut hs ?_⟩
     rintro rfl
     exact hj (rl hN e1 (I.ok.inj _ _ _ e hc ▸ hi))
  ·by_cases hcc : c' = c
   ·subst hcc; exact ⟨_, hc'⟩
   ·obtain ⟨w2, z2⟩ := I.cell y c' e
    exact ⟨w2, z2.sameBut hs hcc⟩
  ·obtain ⟨e, n, ne, nf, d⟩ := I.pin p hp
   refine ⟨(hs.2 p.1 ?_).trans e, n, ne, nf, d⟩
   intro q
   rw [q, hoc] at e
   have q' : oc = p.2 := Option.some.inj e
   exact d w' (by rw [<- q']; exact hocd)
theorem rH {M : Model} {A : Around} {E : Value -> Shared -> Prop} {i : Nat} {x : Str} {v : V} {u : Value} {Q : Unit -> Shared -> Prop} (I : Inv X pins σ H s) (hN : X.N.Nodup) (hi : X.N[i]? = some x) (hx : Loc X.env.scope x) (r : RelV v u)
 (h : ∀ s', Inv X pins (σ.set i (some v)) H s' -> Q () s') (hf : X.fn x = true \/ X.env.scope.names.lookup x = some .local := by first | exact .inl rfl | exact .inr rfl | assumption) : wpAny M A (storeName X.env x u) Q E s :=
 sQ I hN hi hx r (fun s' I' _ => h s' I') hf
theorem Inv.call' {s' : Shared} {ch : List Addr} (I : Inv X pins σ H s) (ho : s'.os = s.os) (u : Un (frs X.stack) ch H H' s.heap s'.heap) (hok : HOk X.prog X.w H' s'.heap) (hg : AllBare s'.gens)
 (hch : ∀ b ∈ ch, (b ∈ X.ex \/ X.s₀.heap.objs.size <= b) /\ b ≠ X.env.locals /\ (∀ x c, X.env.cells.lookup x = some c -> c ≠ b) /\ ∀ p ∈ X.pn ++ pins, p.1 ≠ b) : Inv X pins σ H' s' := by
 obtain ⟨h', g', d', t', o'⟩ := s'
 have e : o' = s.os := ho
 subst e
 exact I.call (g' := g') (t' := t') (d' := d') u hok hg hch
end
abbrev XK := Value -> Option Addr -> Hp -> Prop
abbrev St := List (Option V)
abbrev VK := V -> Hp -> Prop
abbrev TE := St -> Hp -> VK -> Prop
abbrev TT := St -> Hp -> (Bool -> Hp -> Prop) -> Prop
abbrev TA := St -> Hp -> (List V -> Hp -> Prop) -> Prop
structure fk where
 nx : St -> Hp -> Prop
 rt : VK
 bk : St -> Hp -> Prop := fun _ _ => False
 ct : St -> Hp -> Prop := fun _ _ => False
abbrev TS := fk -> St -> Hp -> Prop
def EP (X : Cx) (pins : List (Addr × Obj)) (σ : St) (Q : VK) (u : Value) (s' : Shared) : Prop := ∃ v H', Inv X pins σ H' s' /\ RelV v u /\ Q v H'
def TP (X : Cx) (pins : List (Addr × Obj)) (σ : St) (Q : Bool -> Hp -> Prop) (b : Bool) (s' : Shared) : Prop := ∃ H', Inv X pins σ H' s' /\ Q b H'
def AP (X : Cx) (pins : List (Addr × Obj)) (σ : St) (Q : List V -> Hp -> Prop) (us : List Value) (s' : Shared) : Prop := ∃ vs H', Inv X pins σ H' s' /\ Vals vs us /\ Q vs H'
def SP (X : Cx) (pins : List (Addr × Obj)) (D : fk) (f : Flow) (s' : Shared) : Prop :=
 match f with
 | .next => ∃ σ' H', Inv X pins σ' H' s' /\ D.nx σ' H'
 | .brk => ∃ σ' H', Inv X pins σ' H' s' /\ D.bk σ' H'
 | .cont => ∃ σ' H', Inv X pins σ' H' s' /\ D.ct σ' H'
 | .ret u => ∃ v σ' H', Inv X pins σ' H' s' /\ RelV v u /\ D.rt v H'
def PE (X : Cx) (e : Expr) (t : TE) : Prop :=
 ∀ (pins : List (Addr × Obj)) (s : Shared) (σ : St) (H : Hp) (Q : VK), Inv X pins σ H s -> t σ H Q -> wpAny (model X.prog X.w) X.A (eval e X.env) (EP X pins σ Q) X.xe s
def PT (X : Cx) (e : Expr) (t : TT) : Prop :=
 ∀ (pins : List (Addr × Obj)) (s : Shared) (σ : St) (H : Hp) (Q : Bool -> Hp -> Prop), Inv X pins σ H s -> t σ H Q -> wpAny (model X.prog X.w) X.A (isTrue e X.env (eval e X.env)) (TP X pins σ Q) X.xe s
def PW (X : Cx) (e : Expr) (t : TT) : Prop :=
 ∀ (whole : Sem Value) (pins : List (Addr × Obj)) (s : Shared) (σ : St) (H : Hp) (Q : Bool -> Hp -> Prop), Inv X pins σ H s -> t σ H Q -> wpAny (model X.prog X.w) X.A (isTrue e X.env whole) (TP X pins σ Q) X.xe s
theorem PW.pt {X : Cx} {e : Expr} {t : TT} (h : PW X e t) : PT X e t := h _
def PA (X : Cx) (es : List Expr) (t : TA) : Prop :=
 ∀ (pos : Pos) (pins : List (Addr × Obj)) (s : Shared) (σ : St) (H : Hp) (Q : List V -> Hp -> Prop), Inv X pins σ H s -> t σ H Q -> wpAny (model X.prog X.w) X.A (spliced (backTo pos (starEach es X.env))) (AP X pins σ Q) X.xe s
def PS (X : Cx) (st : Stmt) (t : TS) : Prop :=
 ∀ (pins : List (Addr × Obj)) (s : Shared) (σ : St) (H : Hp) (D : fk), Inv X pins σ H s -> t D σ H -> wpAny (model X.prog X.w) X.A (exec st X.env) (SP X pins D) X.xe s
def PSs (X : Cx) (st : List Stmt) (t : TS) : Prop :=
 ∀ (pins : List (Addr × Obj)) (s : Shared) (σ : St) (H : Hp) (D : fk), Inv X pins σ H s -> t D σ H -> wpAny (model X.prog X.w) X.A (execs st X.env) (SP X pins D) X.xe s
theorem thn {α : Type} {t : Sem α} {Q Q' : α -> Shared -> Prop} {M : Model} {A : Around} {E : Value -> Shared -> Prop} {s : Shared} (h : wpAny M A t Q E s) (hQ : ∀ a s, Q a s -> Q' a s) : wpAny M A t Q' E s := wpAny_mono h hQ fun _ _ x => x
end L2
namespace L2
open PySem PySem.Spec PyProof.Rows
section
variable {X : Cx}
theorem bin {a b : Expr} {ta tb : TE} (ha : PE X a ta) (hb : PE X b tb) {pins : List (Addr × Obj)} {s : Shared} {σ : St} {H : Hp} {R : V -> V -> Hp -> Prop} (I : Inv X pins σ H s) (h : ta σ H fun x H1 => tb σ H1 fun y H2 => R x y H2)
 {α : Type} {Q : α -> Shared -> Prop} {f : Value -> Value -> Sem α}
 (hf : ∀ v u s2 x y H2, Inv X pins σ H2 s2 -> RelV x v -> RelV y u -> R x y H2 -> wpAny (model X.prog X.w) X.A (f v u) Q X.xe s2) :
 wpAny (model X.prog X.w) X.A (eval a X.env) (fun v s₁ => wpAny (model X.prog X.w) X.A (eval b X.env) (fun u s₂ => wpAny (model X.prog X.w) X.A (f v u) Q X.xe s₂) X.xe s₁) X.xe s := by
 refine thn (ha pins s σ H _ I h) fun v s1 ⟨x, H1, I1, r1, q1⟩ => ?_
 refine thn (hb pins s1 σ H1 _ I1 q1) fun u s2 ⟨y, H2, I2, r2, q2⟩ => ?_
 exact hf v u s2 x y H2 I2 r1 r2 q2
def GF (i : Nat) : TE := fun σ H Q => ∃ v, σ[i]? = some (some v) /\ Q v H
def tC (v : V) : TE := fun _ H Q => Q v H
theorem DV {i : Nat} {x : Str} {pos : Pos} (hN : X.N[i]? = some x) (hv : Vis X.env.scope x) (hd : (x == ("__debug__" : Str)) = false := by decide) (hcd : (x == ("__classdict__" : Str)) = false := by decide) : PE X (.Name x pos) (GF i) := by
 intro pins s σ H Q I h
 obtain ⟨v, e, h⟩ := h
 obtain ⟨m, hn, hl⟩ := I.loc
 obtain ⟨u, r, l⟩ := hl i x v hN e hv
 have fin : EP X pins σ Q u s := ⟨v, H, I, r, h⟩
 rcases l with ⟨hk, hm⟩ | ⟨hk, c, hc, hcell⟩
 ·exact wpAny_Name (wpAny_loadName_local I.ok.kind hk hn hm fin) hd
 ·rcases hk with hk | hk
  ·exact wpAny_Name (wpAny_loadName_cell I.ok.kind hk hc hcell fin) hd
  ·exact wpAny_Name (wpAny_loadName_free I.ok.kind hk hc hcell fin hcd) hd
theorem ac {i j pos} : PE X (.Constant (.int i) j pos) (tC (.int i)) := fun _ _ _ H _ I h => wpAny_Constant_int ⟨.int i, H, I.tok _, ⟨_, rfl⟩, h⟩
theorem cL {b j pos} : PE X (.Constant (.bool b) j pos) (tC (.bl b)) := fun _ _ _ H _ I h => Constant_bool ⟨.bl b, H, I, rfl, h⟩
theorem ik {j pos} : PE X (.Constant .none j pos) (tC .non) := fun _ _ _ H _ I h => Constant_none ⟨.non, H, I, rfl, h⟩
theorem DC {x j pos} : PE X (.Constant (.str x) j pos) (tC (.str x)) := fun _ _ _ H _ I h => Calls.Constant_str ⟨.str x, H, I.tok _, ⟨_, rfl⟩, h⟩
def Gl (X : Cx) (x : Str) : Prop := X.env.kindOf x = some .globalImplicit
theorem iS {E : Value -> Shared -> Prop} {pins : List (Addr × Obj)} {s : Shared} {σ : St} {H : Hp} {x : Str} {u : Value} {pos : Pos} {Q : Value -> Shared -> Prop} (I : Inv X pins σ H s) (hg : Gl X x) (hm : X.mg x = some u) (h : Q u s)
 (hd : (x == ("__debug__" : Str)) = false := by decide) : wpAny (model X.prog X.w) X.A (eval (.Name x pos) X.env) Q E s :=
 Calls.Name_function_global I.ok.kind hg (Calls.loadGlobal_global (by rw [I.ok.glob]; exact I.mod.glob.keeps I.bk) hm h) hd
theorem nZ {E : Value -> Shared -> Prop} {pins : List (Addr × Obj)} {s : Shared} {σ : St} {H : Hp} {x : Str} {u : Value} {pos : Pos} {Q : Value -> Shared -> Prop} (I : Inv X pins σ H s) (hg : Gl X x) (hm : X.mg x = none) (hv : bootBuiltins x = some u) (h : Q u s)
 (hn : x ≠ "__name__" := by decide) (hd : (x == ("__debug__" : Str)) = false := by decide) : wpAny (model X.prog X.w) X.A (eval (.Name x pos) X.env) Q E s := by
 obtain ⟨mb, h1, h2⟩ := I.mod.blt
 exact Calls.Name_function_global I.ok.kind hg (Calls.loadGlobal_builtin (by rw [I.ok.glob]; exact I.mod.glob.keeps I.bk) hm (by rw [I.ok.blt]; exact h1.keeps I.bk) ((h2 x hn).trans hv) h) hd
theorem hJ {x : Str} {v : V} {u : Value} {pos : Pos} (hg : Gl X x) (hm : X.mg x = some u) (r : RelV v u) (hd : (x == ("__debug__" : Str)) = false := by decide) : PE X (.Name x pos) (tC v) :=
 fun _ _ _ H _ I h => iS I hg hm ⟨v, H, I, r, h⟩ hd
theorem cE {x : Str} {v : V} {u : Value} {pos : Pos} (hg : Gl X x) (hm : X.mg x = none) (hv : bootBuiltins x = some u) (r : RelV v u) (hn : x ≠ "__name__" := by decide) (hd : (x == ("__debug__" : Str)) = false := by decide) : PE X (.Name x pos) (tC v) :=
 fun _ _ _ H _ I h => nZ I hg hm hv ⟨v, H, I, r, h⟩ hn hd
variable {a b : Expr} {ta tb : TE} {pos : Pos}
def PC (X : Cx) (op : CmpOp) (a b : Expr) (t : TE) : Prop :=
 ∀ (pins : List (Addr × Obj)) (s : Shared) (σ : St) (H : Hp) (Q : VK), Inv X pins σ H s -> t σ H Q ->
  wpAny (model X.prog X.w) X.A (eval a X.env) (fun v s₁ => wpAny (model X.prog X.w) X.A (eval b X.env) (fun u s₂ => wpAny (model X.prog X.w) X.A (compareOp op v u) (EP X pins σ Q) X.xe s₂) X.xe s₁) X.xe s
theorem vW (b : Expr) {op : CmpOp} (h : op ≠ .In) (h2 : op ≠ .NotIn) : behindInMarks op b = false := by
 have e1 : (op == CmpOp.In) = false := by cases op <;> first | rfl | exact absurd rfl h
 have e2 : (op == CmpOp.NotIn) = false := by cases op <;> first | rfl | exact absurd rfl h2
 cases b <;> simp [behindInMarks, e1, e2]
def Dy (ta : TE) : TE := fun σ H Q => ta σ H fun x H1 => Q (.bl (!decide (x = .non))) H1
theorem RelV.none_iff {x : V} {v : Value} (r : RelV x v) : (v == Value.none) = decide (x = .non) := by
 cases x with
 | non => cases r; rfl
 | bl _ => cases r; rfl
 | int _ => obtain ⟨t, rfl⟩ := r; rfl
 | str _ => obtain ⟨t, rfl⟩ := r; rfl
 | byt _ => obtain ⟨t, rfl⟩ := r; rfl
 | flt _ => obtain ⟨t, rfl⟩ := r; rfl
 | ref _ => cases r; rfl
 | ty _ => cases r; rfl
theorem Cp {j pos'} (ha : PE X a ta) : PC X .IsNot a (.Constant .none j pos') (Dy ta) := by
 intro pins s σ H Q I h
 refine thn (ha pins s σ H _ I h) fun v s1 ⟨x, H1, I1, r1, q1⟩ => ?_
 exact Constant_none (isnot_none_gen ⟨.bl _, H1, I1, by rw [r1.none_iff]; rfl, q1⟩)
theorem wP {op : CmpOp} {t : TE} (h : PC X op a b t) (h1 : behindInMarks op b = false := by first | exact vW _ (by decide) (by decide) | rfl) : PE X (.Compare a [op] [b] pos) t := fun pins s σ H Q I hw => wpAny_Compare1 (h pins s σ H Q I hw) h1
variable {tA tB' : TT} {rest : List Expr}
def F7 (t u : TT) : TT := fun σ H Q => t σ H fun c H1 => if c = true then u σ H1 Q else Q false H1
def tOr (t u : TT) : TT := fun σ H Q => t σ H fun c H1 => if c = true then Q true H1 else u σ H1 Q
def Gg (t : TT) : TT := fun σ H Q => t σ H fun c H1 => Q (!c) H1
theorem m_ (ha : PT X a tA) : PW X (.BoolOp .And [a] pos) tA := by
 intro wh pins s σ H Q I h
 refine isTrue_and (thn (ha pins s σ H Q I h) fun c s1 e => ?_)
 cases c with
 | true => exact isTrue_and_nil e
 | false => exact e
theorem eE (ha : PT X a tA) : PW X (.BoolOp .Or [a] pos) tA := by
 intro wh pins s σ H Q I h
 refine isTrue_or (thn (ha pins s σ H Q I h) fun c s1 e => ?_)
 cases c with
 | false => exact isTrue_or_nil e
 | true => exact e
theorem rR (ha : PT X a tA) (hb : PW X (.BoolOp .And (b :: rest) pos) tB') : PW X (.BoolOp .And (a :: b :: rest) pos) (F7 tA tB') := by
 intro wh pins s σ H Q I h
 refine isTrue_and (thn (ha pins s σ H _ I h) fun c s1 ⟨H1, I1, q1⟩ => ?_)
 cases c with
 | true => exact hb wh pins s1 σ H1 Q I1 q1
 | false => exact ⟨H1, I1, q1⟩
theorem il (ha : PT X a tA) (hb : PW X (.BoolOp .Or (b :: rest) pos) tB') : PW X (.BoolOp .Or (a :: b :: rest) pos) (tOr tA tB') := by
 intro wh pins s σ H Q I h
 refine isTrue_or (thn (ha pins s σ H _ I h) fun c s1 ⟨H1, I1, q1⟩ => ?_)
 cases c with
 | true => exact ⟨H1, I1, q1⟩
 | false => exact hb wh pins s1 σ H1 Q I1 q1
theorem bI (ha : PT X a tA) : PT X (.UnaryOp .Not a pos) (Gg tA) := by
 intro pins s σ H Q I h
 exact isTrue_not (ha pins s σ H (fun c H1 => Q (!c) H1) I h)
theorem iQ {op} {t : TE} (h : PE X a t) : PE X (.BoolOp op [a] pos) t := fun pins s σ H Q I hw => BoolOp_one (h pins s σ H Q I hw)
def tIf (t : TT) (ta tb : TE) : TE := fun σ H Q => t σ H fun c H1 => if c = true then ta σ H1 Q else tb σ H1 Q
theorem A7 {c : Expr} (hc : PT X c tA) (ha : PE X a ta) (hb : PE X b tb) : PE X (.IfExp c a b pos) (tIf tA ta tb) := by
 intro pins s σ H Q I h
 refine wpAny_IfExp (thn (hc pins s σ H _ I h) fun d s1 ⟨H1, I1, q1⟩ => ?_)
 cases d with
 | true => exact ha pins s1 σ H1 Q I1 q1
 | false => exact hb pins s1 σ H1 Q I1 q1
end
end L2
namespace L2
open PySem PySem.Spec PyProof.Rows
def SqL (K : W.Frag) (H : Hp) (a : Addr) (xs : List V) : Prop :=
 Rd H a (.lst xs) \/
  ∃ (o : Obj) (its : Array Value) (n : Nat), K.lookup a = some o /\ o.cls = .type "list" /\ o.dict = none /\ o.data = .seq its n /\ its.size <= sizeLine /\ Vals xs its.toList
def SqT (K : W.Frag) (H : Hp) (a : Addr) (xs : List V) : Prop :=
 Rd H a (.tup xs) \/
  ∃ (o : Obj) (its : Array Value) (n : Nat), K.lookup a = some o /\ o.cls = .type "tuple" /\ o.data = .seq its n /\ its.size <= sizeLine /\ Vals xs its.toList
def Gp : Value -> Option V
 | .none => some .non
 | .bool b => some (.bl b)
 | .int i _ => some (.int i)
 | .str x _ => some (.str x)
 | .bytes b _ => some (.byt b)
 | .float b _ => some (.flt b)
 | .ref a => some (.ref a)
 | .type n => some (.ty n)
 | _ => none
theorem RelV.abs {x : V} {u : Value} (r : RelV x u) : Gp u = some x := by
 cases x with
 | non => cases r; rfl
 | bl _ => cases r; rfl
 | int _ => obtain ⟨t, rfl⟩ := r; rfl
 | str _ => obtain ⟨t, rfl⟩ := r; rfl
 | byt _ => obtain ⟨t, rfl⟩ := r; rfl
 | flt _ => obtain ⟨t, rfl⟩ := r; rfl
 | ref _ => cases r; rfl
 | ty _ => cases r; rfl
theorem RelV.inj {x y : V} {u : Value} (r : RelV x u) (q : RelV y u) : x = y := Option.some.inj (r.abs.symm.trans q.abs)
theorem Vals.inj : ∀ {xs ys : List V} {us : List Value}, Vals xs us -> Vals ys us -> xs = ys
 | _, _, _, .nil, .nil => rfl
 | _, _, _, .cons r t, .cons r' t' => by rw [r.inj r', Vals.inj t t']
section
variable {X : Cx} {pins : List (Addr × Obj)} {σ : St} {H : Hp} {s : Shared} {a : Addr} {xs ys : List V}
theorem SqL.of {K : W.Frag} (h : H a = some (.lst xs)) : SqL K H a xs := .inl (.inl h)
theorem SqT.of {K : W.Frag} (h : H a = some (.tup xs)) : SqT K H a xs := .inl (.inl h)
theorem Inv.list (I : Inv X pins σ H s) (h : SqL X.K H a xs) : ∃ its : List Value, Vals xs its /\ PlainL s.heap a its.toArray /\ xs.length <= sizeLine := by
 rcases h with h | ⟨o, its, n, hk, hc, hd, hs, hz, r⟩
 ·obtain ⟨z, its, n, r, e⟩ := h.ok I.hok
  exact ⟨its, r, ⟨_, n, e, rfl, rfl, rfl⟩, z⟩
 ·refine ⟨its.toList, r, ⟨o, n, I.kIn a o hk, hc, hd, by simpa using hs⟩, ?_⟩
  have e := r.length
  simp only [Array.length_toList] at e
  omega
theorem Inv.tuple (I : Inv X pins σ H s) (h : SqT X.K H a xs) : ∃ its : List Value, Vals xs its /\ IsTup s.heap a its.toArray /\ xs.length <= sizeLine := by
 rcases h with h | ⟨o, its, n, hk, hc, hs, hz, r⟩
 ·obtain ⟨z, its, r, p⟩ := h.ok I.hok
  exact ⟨its, r, p, z⟩
 ·refine ⟨its.toList, r, ⟨o, I.kIn a o hk, hc, n, by simpa using hs⟩, ?_⟩
  have e := r.length
  simp only [Array.length_toList] at e
  omega
theorem Inv.list_inj (I : Inv X pins σ H s) (h : SqL X.K H a xs) (h' : SqL X.K H a ys) : xs = ys := by
 obtain ⟨its, r, ⟨o, n, e, _, _, d⟩, _⟩ := I.list h
 obtain ⟨its', r', ⟨o', n', e', _, _, d'⟩, _⟩ := I.list h'
 rw [e] at e'; cases e'
 rw [d] at d'
 injection d' with d1 _
 have : its = its' := by simpa using congrArg Array.toList d1
 subst this
 exact r.inj r'
theorem Inv.tuple_inj (I : Inv X pins σ H s) (h : SqT X.K H a xs) (h' : SqT X.K H a ys) : xs = ys := by
 obtain ⟨its, r, ⟨o, e, _, n, d⟩, _⟩ := I.tuple h
 obtain ⟨its', r', ⟨o', e', _, n', d'⟩, _⟩ := I.tuple h'
 rw [e] at e'; cases e'
 rw [d] at d'
 injection d' with d1 _
 have : its = its' := by simpa using congrArg Array.toList d1
 subst this
 exact r.inj r'
end
abbrev Cx.wish (X : Cx) (E : Value -> Shared -> Prop) : Cx := { X with xe := E }
abbrev Cx.nox (X : Cx) : Cx := X.wish fun _ _ => False
section
variable {X : Cx} {pins : List (Addr × Obj)} {σ : St} {H : Hp} {s : Shared} {E : Value -> Shared -> Prop}
end
section
variable {X : Cx} {st : Stmt} {rest : List Stmt} {t u : TS} {e : Expr} {te : TE} {pos : Pos}
def i4 : TS := fun D σ H => D.nx σ H
def wJ (t u : TS) : TS := fun D σ H => t { D with nx := u D } σ H
theorem aJ : PSs X [] i4 := fun _ _ σ H _ I h => wpAny_execs_nil ⟨σ, H, I, h⟩
theorem ah (h1 : PS X st t) (h2 : PSs X rest u) : PSs X (st :: rest) (wJ t u) := by
 intro pins s σ H D I h
 refine wpAny_execs_cons (thn (h1 pins s σ H { D with nx := u D } I h) fun f s1 q => ?_)
 cases f with
 | next =>
  obtain ⟨σ', H', I', q⟩ := q
  exact h2 pins s1 σ' H' D I' q
 | ret v => exact q
 | brk => exact q
 | cont => exact q
theorem ao (h1 : PS X st t) : PSs X [st] t := by
 intro pins s σ H D I h
 refine wpAny_execs_cons (thn (h1 pins s σ H D I h) fun f s1 q => ?_)
 cases f with
 | next => exact wpAny_execs_nil q
 | ret v => exact q
 | brk => exact q
 | cont => exact q
theorem Inv.quiet {pins : List (Addr × Obj)} {σ : St} {H : Hp} {s : Shared} (I : Inv X pins σ H s) : interactive X.env = false := by simp [interactive, I.ok.kind]
def Dd (te : TE) : TS := fun D σ H => te σ H fun _ H1 => D.nx σ H1
theorem cW (he : PE X e te) (hs : swapsWith e none pos.line X.env = pure false := by rfl) : PS X (.Expr e pos) (Dd te) := by
 intro pins s σ H D I h
 exact wpAny_Expr_any (thn (he pins s σ H _ I h) fun v s1 ⟨x, H1, I1, r1, q1⟩ => ⟨σ, H1, I1, q1⟩) I.quiet hs
def Fj (te : TE) : TS := fun D σ H => te σ H D.rt
theorem aC (he : PE X e te) : PS X (.Return (some e) pos) (Fj te) := by
 intro pins s σ H D I h
 exact wpAny_Return_some (thn (he pins s σ H _ I h) fun v s1 ⟨x, H1, I1, r1, q1⟩ => ⟨x, σ, H1, I1, r1, q1⟩)
def lM (c : TT) (t u : TS) : TS := fun D σ H => c σ H fun b H1 => if b = true then t D σ H1 else u D σ H1
theorem ba {c : Expr} {a b : List Stmt} {tc : TT} (hc : PT X c tc) (ha : PSs X a t) (hb : PSs X b u) : PS X (.If c a b pos) (lM tc t u) := by
 intro pins s σ H D I h
 refine wpAny_If (thn (hc pins s σ H _ I h) fun d s1 ⟨H1, I1, q1⟩ => ?_)
 cases d with
 | true => exact ha pins s1 σ H1 D I1 q1
 | false => exact hb pins s1 σ H1 D I1 q1
end
abbrev TG := V -> St -> Hp -> (St -> Hp -> Prop) -> Prop
abbrev TGs := List V -> St -> Hp -> (St -> Hp -> Prop) -> Prop
def PG (X : Cx) (target : Expr) (t : TG) : Prop :=
 ∀ (pins : List (Addr × Obj)) (s : Shared) (σ : St) (H : Hp) (v : V) (u : Value) (Q : St -> Hp -> Prop), Inv X pins σ H s -> RelV v u -> t v σ H Q ->
  wpAny (model X.prog X.w) X.A (assign target X.env u) (fun _ s' => ∃ σ' H', Inv X pins σ' H' s' /\ Q σ' H') X.xe s
def PGs (X : Cx) (ts : List Expr) (t : TGs) : Prop :=
 ∀ (pins : List (Addr × Obj)) (s : Shared) (σ : St) (H : Hp) (vs : List V) (us : List Value) (Q : St -> Hp -> Prop), Inv X pins σ H s -> Vals vs us -> t vs σ H Q ->
  wpAny (model X.prog X.w) X.A (assignInOrder ((assignEach ts X.env).map (·.2)) us) (fun _ s' => ∃ σ' H', Inv X pins σ' H' s' /\ Q σ' H') X.xe s
abbrev DR := V -> V -> V -> Hp -> (Hp -> Prop) -> Prop
def F2 (X : Cx) (t : DR) : Prop :=
 ∀ (pins : List (Addr × Obj)) (s : Shared) (σ : St) (H : Hp) (o i v : V) (ov iv u : Value) (Q : Hp -> Prop), Inv X pins σ H s -> RelV o ov -> RelV i iv -> RelV v u -> t o i v H Q ->
  wpAny (model X.prog X.w) X.A (setItem ov iv u) (fun _ s' => ∃ H', Inv X pins σ H' s' /\ Q H') X.xe s
section
variable {X : Cx} {pos : Pos}
def h7 (i : Nat) : TG := fun v σ H Q => Q (σ.set i (some v)) H
theorem aS {i : Nat} {x : Str} (hN : X.N.Nodup) (hi : X.N[i]? = some x) (hx : Loc X.env.scope x) (hf : X.fn x = true \/ X.env.scope.names.lookup x = some .local := by first | exact .inl rfl | exact .inr rfl | assumption) : PG X (.Name x pos) (h7 i) := by
 intro pins s σ H v u Q I r h
 exact wpAny_assign_Name (rH I hN hi hx r (fun s' I' => ⟨_, H, I', h⟩) hf)
def FI : TGs := fun vs σ H Q => vs = [] /\ Q σ H
def Dh (t : TG) (u : TGs) : TGs := fun vs σ H Q => ∃ v r, vs = v :: r /\ t v σ H fun σ' H' => u r σ' H' Q
theorem qC : PGs X [] FI := by
 intro pins s σ H vs us Q I r h
 obtain ⟨e, h⟩ := h
 subst e
 cases r
 exact assignInOrder_nil ⟨σ, H, I, h⟩
theorem cv {e : Expr} {es : List Expr} {t : TG} {u : TGs} (h1 : PG X e t) (h2 : PGs X es u)
 (hs : (assignEach (e :: es) X.env).map (·.2) = assign e X.env :: (assignEach es X.env).map (·.2) := by rfl) : PGs X (e :: es) (Dh t u) := by
 intro pins s σ H vs us Q I r h
 obtain ⟨v, vr, e1, h⟩ := h
 subst e1
 cases r with
 | cons r rr =>
  rw [hs]
  refine assignInOrder_cons (thn (h1 pins s σ H _ _ _ I r h) fun _ s1 ⟨σ1, H1, I1, q1⟩ => ?_)
  exact h2 pins s1 σ1 H1 _ _ Q I1 rr q1
def E2 (K : W.Frag) (n : Nat) (t : TGs) : TG := fun v σ H Q => ∃ a xs, v = .ref a /\ SqT K H a xs /\ xs.length = n /\ t xs σ H Q
theorem Fb {es : List Expr} {k : Nat} {t : TGs} {n : Nat} (hc : X.calm = true) (h : PGs X es t)
 (hn : (assignEach es X.env).length = n := by rfl) (hst : (assignEach es X.env).findIdx? (·.1) = none := by rfl) : PG X (.Tuple es k pos) (E2 X.K n t) := by
 intro pins s σ H v u Q I r hw
 obtain ⟨a, xs, e1, hq, hl, hw⟩ := hw
 subst e1
 cases r
 obtain ⟨its, rv, ht, hz⟩ := I.tuple hq
 refine assign_Tuple_tuple (I.ok.hd hc) ht (by simp [hn, <- hl, rv.length]) hst fun h' hx => ?_
 have I1 : Inv X pins σ H { s with heap := h' } := I.kept (t' := s.toks) fun b o e => hx b o (Nat.ne_of_lt (Heap.lt_size e)) e
 exact h pins _ σ H xs _ Q I1 (by simpa using rv) hw
def Gk (to ti : TE) (t : DR) : TG := fun v σ H Q => to σ H fun o H1 => ti σ H1 fun i H2 => t o i v H2 fun H3 => Q σ H3
theorem Bv {o i : Expr} {to ti : TE} {t : DR} (ho : PE X o to) (hi : PE X i ti) (hs : F2 X t)
 (ha : ∀ v, assign (.Subscript o i pos) X.env v = (do
  let ov <- holding [v] (eval o X.env)
  let iv <- holding [v, ov] (eval i X.env)
  standAt pos
  holding [v, ov, iv] (setItem ov iv v)
  release [v, ov, iv] []) := by intro _; rfl) : PG X (.Subscript o i pos) (Gk to ti t) := by
 intro pins s σ H v u Q I r h
 rw [ha]
 refine wpAny_bind (wpAny_holding (thn (ho pins s σ H _ I h) fun ov s1 ⟨x, H1, I1, r1, q1⟩ => ?_))
 refine wpAny_bind (wpAny_holding (thn (hi pins s1 σ H1 _ I1 q1) fun iv s2 ⟨y, H2, I2, r2, q2⟩ => ?_))
 refine wpAny_bind (wpAny_standAt (wpAny_bind (wpAny_holding (thn (hs pins s2 σ H2 x y v ov iv u _ I2 r1 r2 r q2) fun _ s3 ⟨H3, I3, q3⟩ => ?_))))
 exact wpAny_release ⟨σ, H3, I3, q3⟩
def Az (te : TE) (g : TG) : TS := fun D σ H => te σ H fun x H1 => g x σ H1 D.nx
theorem oa {tg e : Expr} {te : TE} {g : TG} (he : PE X e te) (hg : PG X tg g) (hs : swapsWithSole [tg] e pos.line X.env = pure false := by rfl) (hw : swappedStores [tg] e X.env = pure none := by rfl)
 (h1 : (assignEach [tg] X.env).map (·.2) = [assign tg X.env] := by rfl) : PS X (.Assign [tg] e pos) (Az te g) := by
 intro pins s σ H D I h
 refine wpAny_Assign_stores (thn (he pins s σ H _ I h) fun v s1 ⟨x, H1, I1, r1, q1⟩ => ?_) hs hw
 rw [h1]
 exact thn (hg pins s1 σ H1 x v _ I1 r1 q1) fun _ s2 q => q
theorem aD {i : Nat} {x : Str} {e : Expr} {te : TE} {pos' : Pos} (hN : X.N.Nodup) (hi : X.N[i]? = some x) (hx : Loc X.env.scope x) (he : PE X e te) (hs : swapsWith e (some (.Name x pos')) pos.line X.env = pure false := by rfl) (hf : X.fn x = true \/ X.env.scope.names.lookup x = some .local := by first | exact .inl rfl | exact .inr rfl | assumption) :
 PS X (.Assign [.Name x pos'] e pos) (Az te (h7 i)) := by
 intro pins s σ H D I h
 refine wpAny_Assign_Name (thn (he pins s σ H _ I h) fun v s1 ⟨y, H1, I1, r1, q1⟩ => ?_) hs
 exact rH I1 hN hi hx r1 (fun s2 I2 => ⟨_, H1, I2, q1⟩) hf
end
section
variable {X : Cx} {pos : Pos}
def ES (c : TT) (tb : TS) : TS := fun D σ H => ∃ W : Nat -> St -> Hp -> Prop, (∃ m, W m σ H) /\ ∀ m σ H, W m σ H ->
 c σ H fun b H1 => if b = true then ∃ N : St -> Hp -> Prop, (∀ σ' H', N σ' H' -> ∃ m', m' < m /\ W m' σ' H') /\ tb { D with nx := N, ct := N, bk := D.nx } σ H1 else D.nx σ H1
theorem vy {c : Expr} {body : List Stmt} {tc : TT} {tb : TS} (hp : PassesOwn (model X.prog X.w) X.A X.env X.xe) (hc : PT X c tc) (hb : PSs X body tb) : PS X (.While c body [] pos) (ES tc tb) := by
 intro pins s σ H D I h
 obtain ⟨W, ⟨m0, w0⟩, turn⟩ := h
 refine wpAny_While (codeAny_whileLoop (fun n s' => ∃ σ' H', Inv X pins σ' H' s' /\ W n σ' H') ?_ m0 ⟨σ, H, I, w0⟩)
 rintro n s1 ⟨σ1, H1, I1, w1⟩
 refine wpAny_passesOwn hp (thn (hc pins s1 σ1 H1 _ I1 (turn n σ1 H1 w1)) fun b s2 ⟨H2, I2, q2⟩ => ?_)
 cases b with
 | true =>
  obtain ⟨N, hN, q2⟩ := q2
  rw [if_pos rfl]
  refine wpAny_passesOwn hp (thn (hb pins s2 σ1 H2 _ I2 q2) fun f s3 q3 => ?_)
  cases f with
  | next =>
   obtain ⟨σ3, H3, I3, n3⟩ := q3
   obtain ⟨m', hm, w3⟩ := hN σ3 H3 n3
   exact ⟨m', hm, σ3, H3, I3, w3⟩
  | cont =>
   obtain ⟨σ3, H3, I3, n3⟩ := q3
   obtain ⟨m', hm, w3⟩ := hN σ3 H3 n3
   exact ⟨m', hm, σ3, H3, I3, w3⟩
  | brk => exact q3
  | ret v => exact q3
 | false =>
  rw [if_neg Bool.false_ne_true]
  exact wpAny_execs_nil ⟨σ1, H2, I2, q2⟩
end
structure It where
 go : Nat -> Hp -> Prop
 yld : Nat -> Hp -> V -> Hp -> Prop
 stop : Nat -> Hp -> Prop
def vj (X : Cx) (pins : List (Addr × Obj)) (H : Hp) (b : Addr) : Prop :=
 H b = none /\ b ≠ X.env.locals /\ b ∉ X.fs /\ (b ∈ X.ex \/ X.s₀.heap.objs.size <= b) /\ (∀ x c, X.env.cells.lookup x = some c -> c ≠ b) /\ ∀ p ∈ X.pn ++ pins, p.1 ≠ b
theorem Inv.fpOk {X : Cx} {pins : List (Addr × Obj)} {σ : St} {H H' : Hp} {s : Shared} {b : Addr} (I : Inv X pins σ H s) (hb : s.heap.objs.size <= b) (hn : H' b = none) : vj X pins H' b := by
 refine ⟨hn, Nat.ne_of_gt (Nat.lt_of_lt_of_le I.lt hb), I.nofs hb, .inr (Nat.le_trans I.sz hb), fun x c e z => ?_, fun p hp z => ?_⟩
 ·obtain ⟨v, q⟩ := I.cell x c e
  exact absurd (Nat.lt_of_lt_of_le q.lt (by rw [z]; exact hb)) (Nat.lt_irrefl _)
 ·exact absurd (Nat.lt_of_lt_of_le (Heap.lt_size (I.pin p hp).1) (by rw [z]; exact hb)) (Nat.lt_irrefl _)
structure xH (P : Program) (w : World) (K : W.Frag) (tg : Expr) (J : It) (fp : List Addr) (it : Addr) (tn : Nat -> Heap -> Prop) : Prop where
 mem : it ∈ fp
 obj : ∀ i h, tn i h -> ∀ b ∈ fp, ∃ o, h.get? b = some o /\ ∀ v, o.data ≠ .cell v
 keep : ∀ i h h', tn i h -> (∀ b ∈ fp, ∀ o, h.get? b = some o -> h'.get? b = some o) -> tn i h'
 item : ∀ (X : Cx), X.prog = P -> X.w = w -> X.K = K -> X.calm = true -> ∀ (i : Nat) (pins : List (Addr × Obj)) (s : Shared) (σ : St) (H : Hp) (E : Value -> Shared -> Prop), Inv X pins σ H s -> (∀ b ∈ fp, vj X pins H b) -> tn i s.heap -> J.go i H ->
  wpAny (model P w) X.A (pyNext (.ref it)) (fun r s1 => ∃ u, r = some u /\
   wpAny (model P w) X.A (letOwnedTupleGo tg (.ref it) u) (fun _ s2 => ∃ x H', Inv X pins σ H' s2 /\ RelV x u /\ J.yld i H x H' /\ tn (i + 1) s2.heap /\ ∀ b ∈ fp, H' b = none) E s1) E s
 done : ∀ (X : Cx), X.prog = P -> X.w = w -> X.K = K -> X.calm = true -> ∀ (i : Nat) (pins : List (Addr × Obj)) (s : Shared) (σ : St) (H : Hp) (E : Value -> Shared -> Prop), Inv X pins σ H s -> (∀ b ∈ fp, vj X pins H b) -> tn i s.heap -> J.stop i H ->
  wpAny (model P w) X.A (pyNext (.ref it)) (fun r s1 => r = none /\ Inv X pins σ H s1) E s
 self : ∀ (A : Around) (i : Nat) (s : Shared) (Q : Value -> Shared -> Prop) (E : Value -> Shared -> Prop), tn i s.heap -> Q (.ref it) s -> wpAny (model P w) A (pyIter (.ref it)) Q E s
abbrev TI := St -> Hp -> (It -> Hp -> Prop) -> Prop
def PIE (X : Cx) (pins : List (Addr × Obj)) (σ : St) (tg : Expr) (R : It -> Hp -> Prop) (itv : Value) (s2 : Shared) : Prop :=
 ∃ (it : Addr) (fp : List Addr) (tn : Nat -> Heap -> Prop) (J : It) (H' : Hp), itv = .ref it /\ Inv X pins σ H' s2 /\ xH X.prog X.w X.K tg J fp it tn /\ tn 0 s2.heap /\ (∀ b ∈ fp, vj X pins H' b) /\ R J H'
def PI (X : Cx) (tg iter : Expr) (wi : TI) : Prop :=
 ∀ (pins : List (Addr × Obj)) (s : Shared) (σ : St) (H : Hp) (R : It -> Hp -> Prop), Inv X pins σ H s -> wi σ H R ->
  wpAny (model X.prog X.w) X.A (eval iter X.env) (fun v s1 => wpAny (model X.prog X.w) X.A (pyIter v) (PIE X pins σ tg R) X.xe s1) X.xe s
theorem pG {M : Model} {A : Around} {E : Value -> Shared -> Prop} {s : Shared} {tg : Expr} {it : Addr} {u : Value} {o : Obj} {n : String} {vs : Array Value} {Q : Unit -> Shared -> Prop} (ho : s.heap.get? it = some o) (hc : o.cls = .type n) (hd : o.data = .fields vs)
 (hn : ["enumerate", "zip", "dict_itemiterator", "dict_reverseitemiterator", "odict_iterator", "itertools.zip_longest", "itertools.pairwise"].contains n = false) (hQ : Q () s) : wpAny M A (letOwnedTupleGo tg (.ref it) u) Q E s := by
 unfold letOwnedTupleGo
 cases tg <;> first
  | exact wpAny_pure hQ
  | (cases u <;> first
   | exact wpAny_pure hQ
   | (refine wpAny_bind (wpAny_load ho ?_)
      rw [hc, hd]
      show wpAny M A (if (["enumerate", "zip", "dict_itemiterator", "dict_reverseitemiterator", "odict_iterator", "itertools.zip_longest", "itertools.pairwise"].contains n && vs[0]? == some (rawInt _)) = true then _ else _) Q E s
      rw [if_neg (by intro h; rw [hn, Bool.false_and] at h; cases h)]
      exact wpAny_pure hQ))
def Itl (K : W.Frag) (a : Addr) : It :=
 ⟨fun i H => ∃ xs x, SqL K H a xs /\ xs[i]? = some x, fun i H x H' => H' = H /\ ∀ xs, SqL K H a xs -> xs[i]? = some x, fun i H => ∃ xs, SqL K H a xs /\ xs.length <= i⟩
def Itt (K : W.Frag) (a : Addr) : It :=
 ⟨fun i H => ∃ xs x, SqT K H a xs /\ xs[i]? = some x, fun i H x H' => H' = H /\ ∀ xs, SqT K H a xs -> xs[i]? = some x, fun i H => ∃ xs, SqT K H a xs /\ xs.length <= i⟩
def Itr (lo : Int) (n : Nat) : It := ⟨fun i _ => i < n, fun i H x H' => H' = H /\ x = .int (lo + i), fun i _ => n <= i⟩
theorem zF {P : Program} {w : World} {K : W.Frag} {tg : Expr} (a it : Addr) : xH P w K tg (Itl K a) [it] it (fun i h => h.IsListIter it a i) where
 mem := by simp
 obj := fun i h st b hb => by
  have e : b = it := by simpa using hb
  subst e
  obtain ⟨o, e, c, d⟩ := st
  exact ⟨o, e, fun v z => by rw [d] at z; cases z⟩
 keep := fun i h h' st k => st.at fun o e => k it (by simp) o e
 item := by
  intro X hP hw hK hc i pins s σ H E I hf st hg
  subst hP hw hK
  obtain ⟨xs, x, hq, hx⟩ := hg
  obtain ⟨its, rv, p, hz⟩ := I.list hq
  obtain ⟨u, hu, ru⟩ := rv.get hx
  obtain ⟨f0, f1, f2, f3, f4, f5⟩ := hf it (by simp)
  refine wpAny_pyNext_list_item st p.isList (x := u) (by simpa using hu) fun h' st' sb => ?_
  have I1 : Inv X pins σ H { s with heap := h' } := I.turned (t' := s.toks) (fun b o hb e => (sb.2 b hb).trans e) f0 f1 f3 f4 f5
  obtain ⟨o, e, c, d⟩ := id st'
  exact ⟨u, rfl, pG (s := { s with heap := h' }) e c d (by decide) ⟨x, H, I1, ru, ⟨rfl, fun ys hy => by rw [I.list_inj hy hq]; exact hx⟩, st', fun b hb => (hf b hb).1⟩⟩
 done := by
  intro X hP hw hK hc i pins s σ H E I hf st hg
  subst hP hw hK
  obtain ⟨xs, hq, hx⟩ := hg
  obtain ⟨its, rv, p, hz⟩ := I.list hq
  obtain ⟨f0, f1, f2, f3, f4, f5⟩ := hf it (by simp)
  have hl := rv.length
  exact wpAny_pyNext_list_end (I.ok.hd hc) st p.isList (by simp; omega) fun h' eb => ⟨rfl, I.turned (t' := s.toks) (fun b o hb e => eb b o hb e) f0 f1 f3 f4 f5⟩
 self := fun _ _ _ _ _ st h => wpAny_pyIter_listiter st h
theorem wQ {P : Program} {w : World} {K : W.Frag} {tg : Expr} (a it : Addr) : xH P w K tg (Itt K a) [it] it (fun i h => h.IsTupleIter it a i) where
 mem := by simp
 obj := fun i h st b hb => by
  have e : b = it := by simpa using hb
  subst e
  obtain ⟨o, e, c, d⟩ := st
  exact ⟨o, e, fun v z => by rw [d] at z; cases z⟩
 keep := fun i h h' st k => st.at fun o e => k it (by simp) o e
 item := by
  intro X hP hw hK hc i pins s σ H E I hf st hg
  subst hP hw hK
  obtain ⟨xs, x, hq, hx⟩ := hg
  obtain ⟨its, rv, p, hz⟩ := I.tuple hq
  obtain ⟨u, hu, ru⟩ := rv.get hx
  obtain ⟨f0, f1, f2, f3, f4, f5⟩ := hf it (by simp)
  refine wpAny_pyNext_tuple_item st (show s.heap.IsTuple a its.toArray from p) (x := u) (by simpa using hu) fun h' st' sb => ?_
  have I1 : Inv X pins σ H { s with heap := h' } := I.turned (t' := s.toks) (fun b o hb e => (sb.2 b hb).trans e) f0 f1 f3 f4 f5
  obtain ⟨o, e, c, d⟩ := id st'
  exact ⟨u, rfl, pG (s := { s with heap := h' }) e c d (by decide) ⟨x, H, I1, ru, ⟨rfl, fun ys hy => by rw [I.tuple_inj hy hq]; exact hx⟩, st', fun b hb => (hf b hb).1⟩⟩
 done := by
  intro X hP hw hK hc i pins s σ H E I hf st hg
  subst hP hw hK
  obtain ⟨xs, hq, hx⟩ := hg
  obtain ⟨its, rv, p, hz⟩ := I.tuple hq
  obtain ⟨f0, f1, f2, f3, f4, f5⟩ := hf it (by simp)
  have hl := rv.length
  exact wpAny_pyNext_tuple_end (I.ok.hd hc) st (show s.heap.IsTuple a its.toArray from p) (by simp; omega) fun h' eb => ⟨rfl, I.turned (t' := s.toks) (fun b o hb e => eb b o hb e) f0 f1 f3 f4 f5⟩
 self := fun _ _ _ _ _ st h => wpAny_pyIter_tupleiter st h
theorem xt {P : Program} {w : World} {K : W.Frag} {tg : Expr} (it : Addr) (lo : Int) (n : Nat) : xH P w K tg (Itr lo n) [it] it (fun i h => IsRangeIter h it (lo + (i : Nat) * 1) ((n : Int) - (i : Nat)) 1) where
 mem := by simp
 obj := fun i h st b hb => by
  have e : b = it := by simpa using hb
  subst e
  exact ⟨_, st, fun v z => by
   have z' : Data.fields _ = Data.cell v := z
   cases z'⟩
 keep := fun i h h' st k => k it (by simp) _ st
 item := by
  intro X hP hw hK hc i pins s σ H E I hf st hg
  subst hP hw hK
  obtain ⟨f0, f1, f2, f3, f4, f5⟩ := hf it (by simp)
  have W := Walks.range (prog := X.prog) (w := X.w) (I.ok.hd hc) it lo 1 n
  refine W.item i s _ _ hg st fun v h' tk hv st' kk => ?_
  obtain ⟨t, rfl⟩ := hv
  have I1 : Inv X pins σ H { s with heap := h', toks := tk } := I.turned (fun b o hb e => kk b o (by simpa using hb) e) f0 f1 f3 f4 f5
  refine ⟨_, rfl, pG (s := { s with heap := h', toks := tk }) (n := "range_iterator") st' rfl rfl (by decide) ⟨.int (lo + i), H, I1, ⟨t, ?_⟩, ⟨rfl, rfl⟩, st', fun b hb => (hf b hb).1⟩⟩
  rw [Int.mul_one]
 done := by
  intro X hP hw hK hc i pins s σ H E I hf st hg
  subst hP hw hK
  obtain ⟨f0, f1, f2, f3, f4, f5⟩ := hf it (by simp)
  exact wpAny_pyNext_range_end (I.ok.hd hc) st (by have : n <= i := hg; omega) fun h' eb => ⟨rfl, I.turned (t' := s.toks) (fun b o hb e => eb b o hb e) f0 f1 f3 f4 f5⟩
 self := fun _ _ _ _ _ st h => wpAny_pyIter_rangeiter st h
end L2
namespace L2
open PySem PySem.Spec PyProof.Rows
section
variable {X : Cx} {tg : Expr}
def tL (K : W.Frag) (tl : TE) : TI := fun σ H R => tl σ H fun x H1 => ∃ a, x = .ref a /\ (∃ xs, SqL K H1 a xs) /\ R (Itl K a) H1
def Em (K : W.Frag) (tl : TE) : TI := fun σ H R => tl σ H fun x H1 => ∃ a, x = .ref a /\ (∃ xs, SqT K H1 a xs) /\ R (Itt K a) H1
theorem CD {l : Expr} {tl : TE} (hl : PE X l tl) : PI X tg l (tL X.K tl) := by
 intro pins s σ H R I h
 refine thn (hl pins s σ H _ I h) fun v s1 ⟨x, H1, I1, r1, q1⟩ => ?_
 obtain ⟨a, e, ⟨xs, hq⟩, q⟩ := q1
 subst e
 cases r1
 obtain ⟨its, rv, p, hz⟩ := I1.list hq
 refine wpAny_pyIter_list p.isList ?_
 refine ⟨s1.heap.objs.size, [s1.heap.objs.size], _, _, H1, rfl, I1.kept (t' := s1.toks) fun b o e => Heap.get?_push_of_some _ e, zF a _, ⟨_, Heap.get?_push_size _ rfl, rfl, rfl⟩, fun b hb => ?_, q⟩
 have e : b = s1.heap.objs.size := by simpa using hb
 subst e
 exact I1.fpOk (Nat.le_refl _) (I1.hok.fresh (Nat.le_refl _))
theorem DG {l : Expr} {tl : TE} (hl : PE X l tl) : PI X tg l (Em X.K tl) := by
 intro pins s σ H R I h
 refine thn (hl pins s σ H _ I h) fun v s1 ⟨x, H1, I1, r1, q1⟩ => ?_
 obtain ⟨a, e, ⟨xs, hq⟩, q⟩ := q1
 subst e
 cases r1
 obtain ⟨its, rv, p, hz⟩ := I1.tuple hq
 refine wpAny_pyIter_tuple (show s1.heap.IsTuple a its.toArray from p) ?_
 refine ⟨s1.heap.objs.size, [s1.heap.objs.size], _, _, H1, rfl, I1.kept (t' := s1.toks) fun b o e => Heap.get?_push_of_some _ e, wQ a _, ⟨_, Heap.get?_push_size _ rfl, rfl, rfl⟩, fun b hb => ?_, q⟩
 have e : b = s1.heap.objs.size := by simpa using hb
 subst e
 exact I1.fpOk (Nat.le_refl _) (I1.hok.fresh (Nat.le_refl _))
theorem wK {pins : List (Addr × Obj)} {σ : St} {H : Hp} {s : Shared} {R : It -> Hp -> Prop} {E : Value -> Shared -> Prop} {lo hi : Int} {t u v : Tok} {tk : Nat} (I : Inv X pins σ H s) (h1 : -(2 ^ 62) <= lo) (h2 : lo < 2 ^ 62) (h3 : -(2 ^ 62) <= hi) (h4 : hi < 2 ^ 62)
 (q : R (Itr lo (hi - lo).toNat) H) : wpAny (model X.prog X.w) X.A (pyIter (.ref s.heap.objs.size)) (PIE X pins σ tg R) E { s with heap := s.heap.push { cls := .type "range", data := .fields #[.int lo t, .int hi u, .int 1 v] }, toks := tk } := by
 refine wpAny_pyIter_range (IsRange.new ..) (small_one h1 h2 h3 h4) ?_
 have I1 : Inv X pins σ H { s with heap := s.heap.push { cls := .type "range", data := .fields #[.int lo t, .int hi u, .int 1 v] }, toks := tk } := I.kept fun b o e => Heap.get?_push_of_some _ e
 refine ⟨(s.heap.push { cls := .type "range", data := .fields #[.int lo t, .int hi u, .int 1 v] }).objs.size, [(s.heap.push { cls := .type "range", data := .fields #[.int lo t, .int hi u, .int 1 v] }).objs.size], _, _, H, rfl,
  I1.kept (t' := tk) fun b o e => Heap.get?_push_of_some _ e, xt _ lo (hi - lo).toNat, ?_, fun b hb => ?_, q⟩
 ·have e1 : lo + ((0 : Nat) : Int) * 1 = lo := by simp
  have e2 : (((hi - lo).toNat : Nat) : Int) - ((0 : Nat) : Int) = Builtin.Range.rangeSize lo hi 1 := by rw [rangeSize_one]; split <;> omega
  show IsRangeIter _ _ (lo + ((0 : Nat) : Int) * 1) ((((hi - lo).toNat : Nat) : Int) - ((0 : Nat) : Int)) 1
  rw [e1, e2]
  exact Heap.get?_push_size _ rfl
 ·have e : b = (s.heap.push { cls := .type "range", data := .fields #[.int lo t, .int hi u, .int 1 v] }).objs.size := by simpa using hb
  subst e
  exact I1.fpOk (Nat.le_refl _) (I1.hok.fresh (Nat.le_refl _))
def Bf (ta : TA) : TI := fun σ H R => ta σ H fun vs H1 => ∃ j : Int, vs = [.int j] /\ -(2 ^ 62) <= j /\ j < 2 ^ 62 /\ R (Itr 0 j.toNat) H1
def zU (ta : TA) : TI := fun σ H R => ta σ H fun vs H1 => ∃ i j : Int, vs = [.int i, .int j] /\ (-(2 ^ 62) <= i /\ i < 2 ^ 62 /\ -(2 ^ 62) <= j /\ j < 2 ^ 62) /\ R (Itr i (j - i).toNat) H1
theorem cw {a : Expr} {ta : TA} {p pos : Pos} (hg : Gl X "range") (hm : X.mg "range" = none) (ha : PA X [a] ta) (hs : starEach [a] X.env = [(false, eval a X.env)] := by rfl) : PI X tg (.Call (.Name "range" p) [a] [] pos) (Bf ta) := by
 intro pins s σ H R I h
 refine Call_ (nZ I hg hm boot_range (PyProof.Rows.callWith_type1 (thn (ha pos pins s σ H _ I h) fun us s1 ⟨vs, H1, I1, r1, q1⟩ => ?_) hs rfl))
 obtain ⟨j, e, q1, q2, q⟩ := q1
 subst e
 cases r1 with
 | cons r rr =>
  cases rr
  obtain ⟨t, rfl⟩ := r
  exact call_range_1 (wK I1 (by omega) (by omega) q1 q2 (by simpa using q))
theorem jW {a b : Expr} {ta : TA} {p pos : Pos} (hg : Gl X "range") (hm : X.mg "range" = none) (ha : PA X [a, b] ta) (hs : starEach [a, b] X.env = [(false, eval a X.env), (false, eval b X.env)] := by rfl) (hs2 : starEach [b] X.env = [(false, eval b X.env)] := by rfl) :
 PI X tg (.Call (.Name "range" p) [a, b] [] pos) (zU ta) := by
 intro pins s σ H R I h
 refine Call_ (nZ I hg hm boot_range (PyProof.Rows.callWith_type1 (thn (ha pos pins s σ H _ I h) fun us s1 ⟨vs, H1, I1, r1, q1⟩ => ?_) (by rw [hs, hs2]) (by rw [hs2]; rfl)))
 obtain ⟨i, j, e, ⟨q1, q2, q3, q4⟩, q⟩ := q1
 subst e
 cases r1 with
 | cons r rr =>
  cases rr with
  | cons r' rr =>
   cases rr
   obtain ⟨t, rfl⟩ := r
   obtain ⟨t', rfl⟩ := r'
   exact call_range_2 (wK I1 q1 q2 q3 q4 q)
def xx (wi : TI) (g : TG) (tb : TS) : TS := fun D σ H => wi σ H fun J H1 => ∃ W : Nat -> Nat -> St -> Hp -> Prop, (∃ m, W 0 m σ H1) /\ ∀ i m σ H, W i m σ H ->
 (J.stop i H /\ D.nx σ H) \/ (J.go i H /\ ∃ N : St -> Hp -> Prop, (∀ σ' H', N σ' H' -> ∃ m', m' < m /\ W (i + 1) m' σ' H') /\ ∀ x H', J.yld i H x H' -> g x σ H' fun σ2 H2 => tb { D with nx := N, ct := N, bk := D.nx } σ2 H2)
def qW (fp : List Addr) (h : Heap) : List (Addr × Obj) := fp.filterMap fun b => (h.get? b).map fun o => (b, o)
theorem iW {fp : List Addr} {h : Heap} {b : Addr} {o : Obj} (hb : b ∈ fp) (e : h.get? b = some o) : (b, o) ∈ qW fp h := List.mem_filterMap.mpr ⟨b, hb, by rw [e]; rfl⟩
theorem zA {fp : List Addr} {h : Heap} {p : Addr × Obj} (hp : p ∈ qW fp h) : p.1 ∈ fp /\ h.get? p.1 = some p.2 := by
 obtain ⟨b, hb, e⟩ := List.mem_filterMap.mp hp
 cases q : h.get? b with
 | none => rw [q] at e; cases e
 | some o =>
  rw [q] at e
  have e' : (b, o) = p := Option.some.inj e
  subst e'
  exact ⟨hb, q⟩
theorem Inv.pinned {pins : List (Addr × Obj)} {σ : St} {H : Hp} {s : Shared} {fp : List Addr} (I : Inv X pins σ H s) (hf : ∀ b ∈ fp, vj X pins H b) (ho : ∀ b ∈ fp, ∃ o, s.heap.get? b = some o /\ ∀ v, o.data ≠ .cell v) : Inv X (pins ++ qW fp s.heap) σ H s :=
 I.pins_of fun p hp => (List.mem_append.mp hp).elim (fun z => I.pin p (List.mem_append_right _ z)) fun z => by
  obtain ⟨hb, e⟩ := zA z
  obtain ⟨f0, f1, f2, _⟩ := hf p.1 hb
  obtain ⟨o, e', d⟩ := ho p.1 hb
  rw [e] at e'; cases e'
  exact ⟨e, f0, f1, f2, d⟩
theorem Inv.unpinned {pins pl : List (Addr × Obj)} {σ : St} {H : Hp} {s : Shared} (I : Inv X (pins ++ pl) σ H s) : Inv X pins σ H s := I.pins_of fun p hp => I.pin p (List.mem_append_right _ (List.mem_append_left _ hp))
theorem gM {iter : Expr} {body : List Stmt} {wi : TI} {g : TG} {tb : TS} {pos : Pos} (hp : PassesOwn (model X.prog X.w) X.A X.env X.xe) (hc : X.calm = true) (hi : PI X tg iter wi) (hg : PG X tg g) (hb : PSs X body tb)
 (hs : ∀ x, foldedSetIterable iter X.env x = pure x := by intro _; rfl) : PS X (.For tg iter body [] pos) (xx wi g tb) := by
 intro pins s σ H D I h
 refine wpAny_For (thn (hi pins s σ H _ I h) fun v s1 h1 => thn h1 fun itv s2 h2 => ?_) hs
 obtain ⟨it, fp, tn, J, H2, e, I2, T, st2, f2, W, ⟨m0, w0⟩, turn⟩ := h2
 subst e
 have stat : ∀ {H' : Hp}, (∀ b ∈ fp, H' b = none) -> ∀ b ∈ fp, vj X pins H' b := fun hn b hb => ⟨hn b hb, (f2 b hb).2⟩
 refine codeAny_forLoop_any (fun n s' => ∃ i σ' H', Inv X pins σ' H' s' /\ tn i s'.heap /\ (∀ b ∈ fp, H' b = none) /\ W i n σ' H') ?_ m0 ⟨0, σ, H2, I2, st2, fun b hb => (f2 b hb).1, w0⟩
 rintro n s3 ⟨i, σ3, H3, I3, st3, fr3, w3⟩
 rcases turn i n σ3 H3 w3 with ⟨stop, qn⟩ | ⟨go, N, hN, step⟩
 ·refine wpAny_passesOwn hp (thn (T.done X rfl rfl rfl hc i pins s3 σ3 H3 X.xe I3 (stat fr3) st3 stop) fun r s4 ⟨hr, I4⟩ => ?_)
  subst hr
  exact wpAny_execs_nil ⟨σ3, H3, I4, qn⟩
 ·refine wpAny_passesOwn hp (thn (T.item X rfl rfl rfl hc i pins s3 σ3 H3 X.xe I3 (stat fr3) st3 go) fun r s4 ⟨u, hr, h4⟩ => ?_)
  subst hr
  refine wpAny_passesOwn hp (thn h4 fun _ s5 ⟨x, H5, I5, r5, y5, st5, fr5⟩ => ?_)
  have I5' := I5.pinned (stat fr5) (T.obj _ _ st5)
  refine wpAny_passesOwn hp (thn (hg _ s5 σ3 H5 x u _ I5' r5 (step x H5 y5)) fun _ s6 ⟨σ6, H6, I6, q6⟩ => ?_)
  refine wpAny_passesOwn hp (thn (hb _ s6 σ6 H6 _ I6 q6) fun f s7 q7 => ?_)
  have again : ∀ {σ7 : St} {H7 : Hp}, Inv X (pins ++ qW fp s5.heap) σ7 H7 s7 -> N σ7 H7 -> ∃ m, m < n /\ ∃ i σ' H', Inv X pins σ' H' s7 /\ tn i s7.heap /\ (∀ b ∈ fp, H' b = none) /\ W i m σ' H' := fun {σ7 H7} I7 n7 => by
   obtain ⟨m', hm, w7⟩ := hN σ7 H7 n7
   refine ⟨m', hm, i + 1, σ7, H7, I7.unpinned, T.keep _ _ _ st5 fun b hb o e => (I7.pin (b, o) (List.mem_append_right _ (List.mem_append_right _ (iW hb e)))).1, fun b hb => ?_, w7⟩
   obtain ⟨o, e, d⟩ := T.obj _ _ st5 b hb
   exact (I7.pin (b, o) (List.mem_append_right _ (List.mem_append_right _ (iW hb e)))).2.1
  cases f with
  | next => obtain ⟨σ7, H7, I7, n7⟩ := q7; exact again I7 n7
  | cont => obtain ⟨σ7, H7, I7, n7⟩ := q7; exact again I7 n7
  | brk => obtain ⟨σ7, H7, I7, q7⟩ := q7; exact ⟨σ7, H7, I7.unpinned, q7⟩
  | ret v => obtain ⟨x7, σ7, H7, I7, r7, q7⟩ := q7; exact ⟨x7, σ7, H7, I7.unpinned, r7, q7⟩
end
theorem AY {K : W.Frag} {a : Addr} {xs : List V} {g : TG} {tb : TS} {D : fk} {σ : St} {H : Hp} (Pv : Nat -> St -> Hp -> Prop) (h0 : Pv 0 σ H) (hl : ∀ i σ H, i <= xs.length -> Pv i σ H -> SqL K H a xs)
 (hs : ∀ i x σ H, xs[i]? = some x -> Pv i σ H -> g x σ H fun σ2 H2 => tb { D with nx := Pv (i + 1), ct := Pv (i + 1), bk := D.nx } σ2 H2) (hd : ∀ σ H, Pv xs.length σ H -> D.nx σ H) :
 ∃ W : Nat -> Nat -> St -> Hp -> Prop, (∃ m, W 0 m σ H) /\ ∀ i m σ H, W i m σ H ->
  ((Itl K a).stop i H /\ D.nx σ H) \/ ((Itl K a).go i H /\ ∃ N : St -> Hp -> Prop, (∀ σ' H', N σ' H' -> ∃ m', m' < m /\ W (i + 1) m' σ' H') /\ ∀ x H', (Itl K a).yld i H x H' -> g x σ H' fun σ2 H2 => tb { D with nx := N, ct := N, bk := D.nx } σ2 H2) := by
 refine ⟨fun i m σ H => m = xs.length - i /\ i <= xs.length /\ Pv i σ H, ⟨xs.length, by simp, Nat.zero_le _, h0⟩, ?_⟩
 rintro i m σ H ⟨rfl, hi, p⟩
 have q := hl i σ H hi p
 by_cases hlt : i < xs.length
 ·refine .inr ⟨⟨xs, xs[i], q, by simp [hlt]⟩, Pv (i + 1), fun σ' H' p' => ⟨xs.length - (i + 1), by omega, rfl, hlt, p'⟩, fun x H' y => ?_⟩
  obtain ⟨e, y⟩ := y
  subst e
  exact hs i x σ _ (y xs q) p
 ·have e : i = xs.length := by omega
  subst e
  exact .inl ⟨⟨xs, q, Nat.le_refl _⟩, hd σ H p⟩
theorem dw {lo : Int} {n : Nat} {g : TG} {tb : TS} {D : fk} {σ : St} {H : Hp} (Pv : Nat -> St -> Hp -> Prop) (h0 : Pv 0 σ H)
 (hs : ∀ i σ H, i < n -> Pv i σ H -> g (.int (lo + i)) σ H fun σ2 H2 => tb { D with nx := Pv (i + 1), ct := Pv (i + 1), bk := D.nx } σ2 H2) (hd : ∀ σ H, Pv n σ H -> D.nx σ H) :
 ∃ W : Nat -> Nat -> St -> Hp -> Prop, (∃ m, W 0 m σ H) /\ ∀ i m σ H, W i m σ H ->
  ((Itr lo n).stop i H /\ D.nx σ H) \/ ((Itr lo n).go i H /\ ∃ N : St -> Hp -> Prop, (∀ σ' H', N σ' H' -> ∃ m', m' < m /\ W (i + 1) m' σ' H') /\ ∀ x H', (Itr lo n).yld i H x H' -> g x σ H' fun σ2 H2 => tb { D with nx := N, ct := N, bk := D.nx } σ2 H2) := by
 refine ⟨fun i m σ H => m = n - i /\ i <= n /\ Pv i σ H, ⟨n, by simp, Nat.zero_le _, h0⟩, ?_⟩
 rintro i m σ H ⟨rfl, hi, p⟩
 by_cases hlt : i < n
 ·refine .inr ⟨hlt, Pv (i + 1), fun σ' H' p' => ⟨n - (i + 1), by omega, rfl, hlt, p'⟩, fun x H' y => ?_⟩
  obtain ⟨e, y⟩ := y
  subst e y
  exact hs i σ _ hlt p
 ·have e : i = n := by omega
  subst e
  exact .inl ⟨Nat.le_refl _, hd σ H p⟩
end L2
namespace L2
open PySem PySem.Spec PyProof.Rows
abbrev R2 := V -> V -> Hp -> VK -> Prop
def OpR (X : Cx) (f : Value -> Value -> Sem Value) (r : R2) : Prop :=
 ∀ (pins : List (Addr × Obj)) (s : Shared) (σ : St) (H : Hp) (x y : V) (v u : Value) (Q : VK), Inv X pins σ H s -> RelV x v -> RelV y u -> r x y H Q ->
  wpAny (model X.prog X.w) X.A (f v u) (EP X pins σ Q) X.xe s
def UnR (X : Cx) (f : Value -> Sem Value) (r : V -> Hp -> VK -> Prop) : Prop :=
 ∀ (pins : List (Addr × Obj)) (s : Shared) (σ : St) (H : Hp) (x : V) (v : Value) (Q : VK), Inv X pins σ H s -> RelV x v -> r x H Q ->
  wpAny (model X.prog X.w) X.A (f v) (EP X pins σ Q) X.xe s
def CallR (X : Cx) (f : Value) (r : List V -> Hp -> VK -> Prop) : Prop :=
 ∀ (pins : List (Addr × Obj)) (s : Shared) (σ : St) (H : Hp) (xs : List V) (us : List Value) (Q : VK), Inv X pins σ H s -> Vals xs us -> r xs H Q ->
  wpAny (model X.prog X.w) X.A (call f us) (EP X pins σ Q) X.xe s
def Gy (X : Cx) (r : V -> Hp -> (Bool -> Hp -> Prop) -> Prop) : Prop :=
 ∀ (pins : List (Addr × Obj)) (s : Shared) (σ : St) (H : Hp) (x : V) (v : Value) (Q : Bool -> Hp -> Prop), Inv X pins σ H s -> RelV x v -> r x H Q ->
  wpAny (model X.prog X.w) X.A (truthy v) (TP X pins σ Q) X.xe s
def tOp (r : R2) (ta tb : TE) : TE := fun σ H Q => ta σ H fun x H1 => tb σ H1 fun y H2 => r x y H2 Q
def tUn (r : V -> Hp -> VK -> Prop) (ta : TE) : TE := fun σ H Q => ta σ H fun x H1 => r x H1 Q
def rI (C : Int -> Int -> Prop) (g : Int -> Int -> V) : R2 := fun x y H Q => ∃ i j, x = .int i /\ y = .int j /\ C i j /\ Q (g i j) H
def rI0 (g : Int -> Int -> V) : R2 := fun x y H Q => ∃ i j, x = .int i /\ y = .int j /\ Q (g i j) H
def rU (g : Int -> V) : V -> Hp -> VK -> Prop := fun x H Q => ∃ i, x = .int i /\ Q (g i) H
section
variable {X : Cx} {a b c : Expr} {ta tb tc : TE} {pos : Pos}
theorem EN (ha : PE X a ta) (hb : PE X b tb) {pins : List (Addr × Obj)} {s : Shared} {σ : St} {H : Hp} {R : V -> V -> Hp -> Prop} (I : Inv X pins σ H s)
 (h : ta σ H fun x H1 => tb σ H1 fun y H2 => R x y H2) {Q : Value -> Shared -> Prop} {f : Value -> Value -> Sem Value}
 (hf : ∀ v u s2 x y H2, Inv X pins σ H2 s2 -> RelV x v -> RelV y u -> R x y H2 -> wpAny (model X.prog X.w) X.A (f v u) Q X.xe s2) :
 wpAny (model X.prog X.w) X.A (eval a X.env) (fun v s₁ => wpAny (model X.prog X.w) X.A (eval b X.env) (fun u s₂ => wpAny (model X.prog X.w) X.A (f v u) Q X.xe s₂) X.xe s₁) X.xe s := by
 refine thn (ha pins s σ H _ I h) fun v s1 ⟨x, H1, I1, r1, q1⟩ => ?_
 refine thn (hb pins s1 σ H1 _ I1 q1) fun u s2 ⟨y, H2, I2, r2, q2⟩ => ?_
 exact hf v u s2 x y H2 I2 r1 r2 q2
theorem ap {op : Operator} {r : R2} (ho : OpR X (binaryOp op) r) (ha : PE X a ta) (hb : PE X b tb) : PE X (.BinOp a op b pos) (tOp r ta tb) := by
 intro pins s σ H Q I h
 exact wpAny_BinOp (EN ha hb I h fun v u s2 x y H2 I2 rx ry q => ho pins s2 σ H2 x y v u Q I2 rx ry q)
theorem r9 {op : UnaryOp} {r : V -> Hp -> VK -> Prop} (ho : UnR X (unaryOp op) r) (ha : PE X a ta) : PE X (.UnaryOp op a pos) (tUn r ta) := by
 intro pins s σ H Q I h
 exact UnaryOp_ (thn (ha pins s σ H _ I h) fun v s1 ⟨x, H1, I1, r1, q1⟩ => ho pins s1 σ H1 x v Q I1 r1 q1)
theorem opI {f : Value -> Value -> Sem Value} {C : Int -> Int -> Prop} {g : Int -> Int -> Int}
 (rule : ∀ (i j : Int) (t u : Tok) (s : Shared) (Q : Value -> Shared -> Prop) (E : Value -> Shared -> Prop), C i j -> Q (.int (g i j) s.toks) { s with toks := s.toks + 1 } -> wpAny (model X.prog X.w) X.A (f (.int i t) (.int j u)) Q E s) :
 OpR X f (rI C fun i j => .int (g i j)) := by
 intro pins s σ H x y v u Q I rx ry h
 obtain ⟨i, j, rfl, rfl, hc, q⟩ := h
 obtain ⟨t, rfl⟩ := rx
 obtain ⟨t', rfl⟩ := ry
 exact rule i j t t' s _ _ hc ⟨.int (g i j), H, I.tok _, ⟨_, rfl⟩, q⟩
theorem F3 {f : Value -> Value -> Sem Value} {g : Int -> Int -> Int}
 (rule : ∀ (i j : Int) (t u : Tok) (s : Shared) (Q : Value -> Shared -> Prop) (E : Value -> Shared -> Prop), Q (.int (g i j) s.toks) { s with toks := s.toks + 1 } -> wpAny (model X.prog X.w) X.A (f (.int i t) (.int j u)) Q E s) :
 OpR X f (rI0 fun i j => .int (g i j)) := by
 intro pins s σ H x y v u Q I rx ry h
 obtain ⟨i, j, rfl, rfl, q⟩ := h
 obtain ⟨t, rfl⟩ := rx
 obtain ⟨t', rfl⟩ := ry
 exact rule i j t t' s _ _ ⟨.int (g i j), H, I.tok _, ⟨_, rfl⟩, q⟩
theorem EB {f : Value -> Value -> Sem Value} {g : Int -> Int -> Bool}
 (rule : ∀ (i j : Int) (t u : Tok) (s : Shared) (Q : Value -> Shared -> Prop) (E : Value -> Shared -> Prop), Q (.bool (g i j)) s -> wpAny (model X.prog X.w) X.A (f (.int i t) (.int j u)) Q E s) :
 OpR X f (rI0 fun i j => .bl (g i j)) := by
 intro pins s σ H x y v u Q I rx ry h
 obtain ⟨i, j, rfl, rfl, q⟩ := h
 obtain ⟨t, rfl⟩ := rx
 obtain ⟨t', rfl⟩ := ry
 exact rule i j t t' s _ _ ⟨.bl (g i j), H, I, rfl, q⟩
def Ea (i j : Int) : Prop := 0 < j /\ j < 1073741824
def Ev (i j : Int) : Prop := 0 <= j /\ j <= 1000000 /\ i.natAbs < 2 ^ 64
def CMul (i j : Int) : Prop := (-(2 ^ 64) < i /\ i < 2 ^ 64) \/ (-(2 ^ 64) < j /\ j < 2 ^ 64)
theorem CMul.ok {i j : Int} (h : CMul i j) : IntMulOk i j := by
 rcases h with ⟨h1, h2⟩ | ⟨h1, h2⟩
 ·exact .of_left (intBits_le_64 h1 h2)
 ·exact .of_right (intBits_le_64 h1 h2)
theorem D9 : OpR X (binaryOp .Add) (rI0 fun i j => .int (i + j)) := F3 fun _ _ _ _ _ _ _ q => add_int q
theorem D4 : OpR X (binaryOp .Sub) (rI0 fun i j => .int (i - j)) := F3 fun _ _ _ _ _ _ _ q => sub_int q
theorem Ei : OpR X (binaryOp .Mult) (rI CMul fun i j => .int (i * j)) := opI fun _ _ _ _ _ _ _ hc q => mul_int q hc.ok
theorem Cb : OpR X (binaryOp .FloorDiv) (rI Ea fun i j => .int (i / j)) := opI fun i j _ _ _ _ _ hc q => by
 have h1 : (0 : Int) < j := hc.1
 have h2 : j < 1073741824 := hc.2
 exact floordiv_int (by omega) (by rw [Int.fdiv_eq_ediv_of_nonneg i (by omega)]; exact q) (.inl (PyProof.noPylong_small (by omega)))
theorem DH : OpR X (binaryOp .Mod) (rI (fun _ j => 0 < j) fun i j => .int (i % j)) := opI fun i j _ _ _ _ _ hc q => by
 have h1 : (0 : Int) < j := hc
 exact mod_int' (by omega) (by rw [Int.fmod_eq_emod_of_nonneg i (by omega)]; exact q)
theorem DL : OpR X (binaryOp .Pow) (rI Ev fun i j => .int (i ^ j.toNat)) := opI fun _ _ _ _ _ _ _ hc q => pow_int_small hc.1 hc.2.1 hc.2.2 q
theorem unI {f : Value -> Sem Value} {g : Int -> Int}
 (rule : ∀ (i : Int) (t : Tok) (s : Shared) (Q : Value -> Shared -> Prop) (E : Value -> Shared -> Prop), Q (.int (g i) s.toks) { s with toks := s.toks + 1 } -> wpAny (model X.prog X.w) X.A (f (.int i t)) Q E s) :
 UnR X f (rU fun i => .int (g i)) := by
 intro pins s σ H x v Q I rx h
 obtain ⟨i, rfl, q⟩ := h
 obtain ⟨t, rfl⟩ := rx
 exact rule i t s _ _ ⟨.int (g i), H, I.tok _, ⟨_, rfl⟩, q⟩
theorem E7 : UnR X (unaryOp .USub) (rU fun i => .int (-i)) := unI fun _ _ _ _ _ q => neg_int q
end
def D8 : V -> V -> Bool
 | .non, .non => true | .non, .int _ => true | .int _, .non => true | .non, .bl _ => true | .bl _, .non => true | .non, .str _ => true | .str _, .non => true
 | .int _, .int _ => true | .bl _, .bl _ => true | .str _, .str _ => true | .byt _, .byt _ => true
 | .int _, .str _ => true | .str _, .int _ => true | .bl _, .str _ => true | .str _, .bl _ => true
 | _, _ => false
def rEq : R2 := fun x y H Q => D8 x y = true /\ Q (.bl (decide (x = y))) H
def rNe : R2 := fun x y H Q => D8 x y = true /\ Q (.bl (!decide (x = y))) H
theorem yg {i j : Int} : decide (V.int i = V.int j) = (i == j) := by
 rw [Bool.eq_iff_iff]
 simp
theorem Bh {i j : Bool} : decide (V.bl i = V.bl j) = (i == j) := by
 rw [Bool.eq_iff_iff]
 simp
theorem y9 {i j : Str} : decide (V.str i = V.str j) = (i == j) := by
 rw [Bool.eq_iff_iff]
 simp
theorem ye {i j : Array UInt8} : decide (V.byt i = V.byt j) = (i.toList == j.toList) := by
 rw [Bool.eq_iff_iff]
 cases i
 cases j
 simp
section
variable {X : Cx} {a b c : Expr} {ta tb tc : TE} {pos : Pos}
theorem bz {pins : List (Addr × Obj)} {σ : St} {H : Hp} {s : Shared} {Q : VK} {k k' : Bool} (I : Inv X pins σ H s) (q : Q (.bl k) H) (e : k = k') : EP X pins σ Q (.bool k') s := by
 subst e
 exact ⟨.bl k, H, I, rfl, q⟩
theorem FY : OpR X (compareOp .Eq) rEq := by
 intro pins s σ H x y v u Q I rx ry h
 obtain ⟨hs, q⟩ := h
 cases x with
 | non =>
  cases rx
  cases y with
  | non => cases ry; exact PySem.EqNone.eq_none_none (bz I q (by simp))
  | bl j => cases ry; exact PySem.EqNone.eq_none_bool (bz I q (by simp))
  | int j => obtain ⟨t', rfl⟩ := ry; exact PySem.EqNone.eq_none_int (bz I q (by simp))
  | str j => obtain ⟨t', rfl⟩ := ry; exact PySem.EqNone.eq_none_str (bz I q (by simp))
  | _ => exact absurd (show false = true from hs) Bool.false_ne_true
 | bl i =>
  cases rx
  cases y with
  | non => cases ry; exact PySem.EqNone.eq_bool_none (bz I q (by simp))
  | bl j => cases ry; exact eq_bool (bz I q Bh)
  | str j => obtain ⟨t', rfl⟩ := ry; exact PySem.EqMixed.eq_bool_str (bz I q (by simp))
  | _ => exact absurd (show false = true from hs) Bool.false_ne_true
 | int i =>
  obtain ⟨t, rfl⟩ := rx
  cases y with
  | non => cases ry; exact PySem.EqNone.eq_int_none (bz I q (by simp))
  | int j => obtain ⟨t', rfl⟩ := ry; exact eq_int (bz I q yg)
  | str j => obtain ⟨t', rfl⟩ := ry; exact PySem.EqMixed.eq_int_str (bz I q (by simp))
  | _ => exact absurd (show false = true from hs) Bool.false_ne_true
 | str i =>
  obtain ⟨t, rfl⟩ := rx
  cases y with
  | non => cases ry; exact PySem.EqNone.eq_str_none (bz I q (by simp))
  | bl j => cases ry; exact PySem.EqMixed.eq_str_bool (bz I q (by simp))
  | int j => obtain ⟨t', rfl⟩ := ry; exact PySem.EqMixed.eq_str_int (bz I q (by simp))
  | str j => obtain ⟨t', rfl⟩ := ry; exact eq_str (bz I q y9)
  | _ => exact absurd (show false = true from hs) Bool.false_ne_true
 | byt i =>
  obtain ⟨t, rfl⟩ := rx
  cases y with
  | byt j => obtain ⟨t', rfl⟩ := ry; exact PySem.W.eq_bytes (bz I q ye)
  | _ => exact absurd (show false = true from hs) Bool.false_ne_true
 | _ => cases y <;> exact absurd (show false = true from hs) Bool.false_ne_true
theorem FO : OpR X (compareOp .NotEq) rNe := by
 intro pins s σ H x y v u Q I rx ry h
 obtain ⟨hs, q⟩ := h
 cases x with
 | non =>
  cases rx
  cases y with
  | non => cases ry; exact PySem.EqNone.ne_none_none (bz I q (by simp))
  | bl j => cases ry; exact PySem.EqNone.ne_none_bool (bz I q (by simp))
  | int j => obtain ⟨t', rfl⟩ := ry; exact PySem.EqNone.ne_none_int (bz I q (by simp))
  | str j => obtain ⟨t', rfl⟩ := ry; exact PySem.EqNone.ne_none_str (bz I q (by simp))
  | _ => exact absurd (show false = true from hs) Bool.false_ne_true
 | bl i =>
  cases rx
  cases y with
  | non => cases ry; exact PySem.EqNone.ne_bool_none (bz I q (by simp))
  | bl j => cases ry; exact ne_bool (bz I q (congrArg not Bh))
  | str j => obtain ⟨t', rfl⟩ := ry; exact PySem.EqMixed.ne_bool_str (bz I q (by simp))
  | _ => exact absurd (show false = true from hs) Bool.false_ne_true
 | int i =>
  obtain ⟨t, rfl⟩ := rx
  cases y with
  | non => cases ry; exact PySem.EqNone.ne_int_none (bz I q (by simp))
  | int j => obtain ⟨t', rfl⟩ := ry; exact ne_int (bz I q (congrArg not yg))
  | str j => obtain ⟨t', rfl⟩ := ry; exact PySem.EqMixed.ne_int_str (bz I q (by simp))
  | _ => exact absurd (show false = true from hs) Bool.false_ne_true
 | str i =>
  obtain ⟨t, rfl⟩ := rx
  cases y with
  | non => cases ry; exact PySem.EqNone.ne_str_none (bz I q (by simp))
  | bl j => cases ry; exact PySem.EqMixed.ne_str_bool (bz I q (by simp))
  | int j => obtain ⟨t', rfl⟩ := ry; exact PySem.EqMixed.ne_str_int (bz I q (by simp))
  | str j => obtain ⟨t', rfl⟩ := ry; exact ne_str (bz I q (congrArg not y9))
  | _ => exact absurd (show false = true from hs) Bool.false_ne_true
 | byt i =>
  obtain ⟨t, rfl⟩ := rx
  cases y with
  | byt j => obtain ⟨t', rfl⟩ := ry; exact PySem.W.ne_bytes (bz I q (congrArg not ye))
  | _ => exact absurd (show false = true from hs) Bool.false_ne_true
 | _ => cases y <;> exact absurd (show false = true from hs) Bool.false_ne_true
theorem F1 : OpR X (compareOp .Lt) (rI0 fun i j => .bl (decide (i < j))) := EB fun _ _ _ _ _ _ _ q => lt_int q
theorem Gi : OpR X (compareOp .LtE) (rI0 fun i j => .bl (decide (i <= j))) := EB fun _ _ _ _ _ _ _ q => le_int q
theorem Ft : OpR X (compareOp .Gt) (rI0 fun i j => .bl (decide (j < i))) := EB fun _ _ _ _ _ _ _ q => gt_int q
theorem zJ : OpR X (compareOp .Lt) (fun x y H Q => ∃ i j, x = .str i /\ y = .str j /\ Q (.bl (decide (i.cps.toList < j.cps.toList))) H) := by
 intro pins s σ H x y v u Q I rx ry h
 obtain ⟨i, j, rfl, rfl, q⟩ := h
 obtain ⟨t, rfl⟩ := rx
 obtain ⟨t', rfl⟩ := ry
 exact lt_str (bz I q rfl)
theorem OpR.or {f : Value -> Value -> Sem Value} {r r' : R2} (h : OpR X f r) (h' : OpR X f r') : OpR X f (fun x y H Q => r x y H Q \/ r' x y H Q) := by
 intro pins s σ H x y v u Q I rx ry q
 rcases q with q | q
 ·exact h pins s σ H x y v u Q I rx ry q
 ·exact h' pins s σ H x y v u Q I rx ry q
theorem aQ (b : Expr) {op : CmpOp} (h : op ≠ .In := by decide) (h2 : op ≠ .NotIn := by decide) : behindInMarks op b = false := by
 have e1 : (op == CmpOp.In) = false := by cases op <;> first | rfl | exact absurd rfl h
 have e2 : (op == CmpOp.NotIn) = false := by cases op <;> first | rfl | exact absurd rfl h2
 cases b <;> simp [behindInMarks, e1, e2]
theorem dM {op : CmpOp} {r : R2} (ho : OpR X (compareOp op) r) (ha : PE X a ta) (hb : PE X b tb) (hm : behindInMarks op b = false) : PE X (.Compare a [op] [b] pos) (tOp r ta tb) := by
 intro pins s σ H Q I h
 exact wpAny_Compare1 (EN ha hb I h fun v u s2 x y H2 I2 rx ry q => ho pins s2 σ H2 x y v u Q I2 rx ry q) hm
def GH (K : W.Frag) (x : V) (H : Hp) (k : Bool) : Prop :=
 match x with
 | .non => k = false
 | .bl b => k = b
 | .int i => k = (i != 0)
 | .str y => y.length <= sizeLine /\ k = ((y.length : Int) != 0)
 | .byt y => y.size <= sizeLine /\ k = ((y.size : Int) != 0)
 | .ref p => (∃ xs, SqL K H p xs /\ k = !xs.isEmpty) \/ (∃ xs, SqT K H p xs /\ k = !xs.isEmpty) \/ ∃ kvs, H p = some (.dK kvs) /\ k = !kvs.isEmpty
 | _ => False
theorem xS {κ : Type} {kvs : List (κ × V)} {vs : List (κ × Value)} (r : KV kvs vs) : (!vs.isEmpty) = !kvs.isEmpty := by
 cases r <;> rfl
theorem rX {xs : List V} {its : List Value} (r : Vals xs its) : (!its.toArray.isEmpty) = !xs.isEmpty := by
 cases r <;> simp
theorem oh : (sizeLine : Nat) < 2 ^ 63 := by rw [sizeLine_eq]; decide
theorem GG : Gy X (fun x H Q => ∃ k, GH X.K x H k /\ Q k H) := by
 intro pins s σ H x v Q I rx h
 obtain ⟨k, e, q⟩ := h
 have hl := oh
 have hs : sizeLine = 16777216 := sizeLine_eq
 cases x with
 | non =>
  cases rx
  have e' : k = false := e
  subst e'
  exact truthy_none ⟨H, I, q⟩
 | bl b =>
  cases rx
  have e' : k = b := e
  subst e'
  exact wpAny_truthy_bool ⟨H, I, q⟩
 | int i =>
  obtain ⟨t, rfl⟩ := rx
  have e' : k = (i != 0) := e
  subst e'
  exact PySem.P.truthy_int ⟨H, I, q⟩
 | str y =>
  obtain ⟨t, rfl⟩ := rx
  obtain ⟨hy, e'⟩ : y.length <= sizeLine /\ k = ((y.length : Int) != 0) := e
  subst e'
  exact PySem.P.truthy_str (by omega) ⟨H, I.tok _, q⟩
 | byt y =>
  obtain ⟨t, rfl⟩ := rx
  obtain ⟨hy, e'⟩ : y.size <= sizeLine /\ k = ((y.size : Int) != 0) := e
  subst e'
  exact PySem.W.truthy_bytes (by omega) ⟨H, I.tok _, q⟩
 | ref p =>
  cases rx
  have e' : (∃ xs, SqL X.K H p xs /\ k = !xs.isEmpty) \/ (∃ xs, SqT X.K H p xs /\ k = !xs.isEmpty) \/ ∃ kvs, H p = some (.dK kvs) /\ k = !kvs.isEmpty := e
  rcases e' with ⟨xs, hx, e'⟩ | ⟨xs, hx, e'⟩ | ⟨kvs, hx, e'⟩
  ·subst e'
   obtain ⟨its, r, pl, hz⟩ := I.list hx
   have hlen := r.length
   exact wpAny_truthy_list pl.isList (by simp only [List.size_toArray]; omega) ⟨H, I.tok _, by rw [rX r]; exact q⟩
  ·subst e'
   obtain ⟨its, r, pl, hz⟩ := I.tuple hx
   have hlen := r.length
   exact truthy_tuple pl (by simp only [List.size_toArray]; omega) ⟨H, I.tok _, by rw [rX r]; exact q⟩
  ·subst e'
   obtain ⟨hz, hS, vs, r, m⟩ : kvs.length <= sizeLine /\ (p == sysModules) = false /\ ∃ vs, KV kvs vs /\ s.heap.DictOf (b_ X.prog X.w) p vs := I.hok p _ hx
   have hlen : kvs.length = vs.length := Paired.length r
   exact wpAny_truthy_dict hS m (by omega) ⟨H, I.tok _, by rw [xS r]; exact q⟩
 | _ => exact (show False from e).elim
theorem xI : OpR X (binaryOp .Add) (fun x y H Q => ∃ i j, x = .str i /\ y = .str j /\ i.length + j.length <= sizeLine /\ Q (.str (i ++ j)) H) := by
 intro pins s σ H x y v u Q I rx ry h
 obtain ⟨i, j, rfl, rfl, hz, q⟩ := h
 obtain ⟨t, rfl⟩ := rx
 obtain ⟨t', rfl⟩ := ry
 exact add_str (fun t' tk => ⟨.str (i ++ j), H, I.tok _, ⟨_, rfl⟩, q⟩) hz
theorem gi {x : V} {us : List Value} (r : Vals [x] us) : ∃ u, us = [u] /\ RelV x u := by
 cases r with
 | cons r1 r2 => cases r2; exact ⟨_, rfl, r1⟩
theorem yk {x y : V} {us : List Value} (r : Vals [x, y] us) : ∃ u w', us = [u, w'] /\ RelV x u /\ RelV y w' := by
 cases r with
 | cons r1 r2 =>
  cases r2 with
  | cons r3 r4 => cases r4; exact ⟨_, _, rfl, r1, r3⟩
theorem Av : CallR X (.builtin "abs") (fun xs H Q => ∃ i, xs = [.int i] /\ Q (.int (if i < 0 then -i else i)) H) := by
 intro pins s σ H xs us Q I r h
 obtain ⟨i, rfl, q⟩ := h
 obtain ⟨u, rfl, t, rfl⟩ := gi r
 exact call_abs_int fun u tk => ⟨.int (if i < 0 then -i else i), H, I.tok _, ⟨_, rfl⟩, q⟩
theorem zQ (hc : X.calm = true) : CallR X (.builtin "min") (fun xs H Q => ∃ i j, xs = [.int i, .int j] /\ Q (.int (if j < i then j else i)) H) := by
 intro pins s σ H xs us Q I r h
 obtain ⟨i, j, rfl, q⟩ := h
 obtain ⟨u, w', rfl, ⟨t, rfl⟩, ⟨t', rfl⟩⟩ := yk r
 refine min_two_ints (I.ok.hd hc) fun h' tk k => ⟨_, H, I.kept k, ?_, q⟩
 by_cases hj : j < i
 ·rw [if_pos hj, if_pos hj]; exact ⟨_, rfl⟩
 ·rw [if_neg hj, if_neg hj]; exact ⟨_, rfl⟩
theorem zb : CallR X (.type "int") (fun xs H Q => (∃ i, xs = [.int i] /\ Q (.int i) H) \/ ∃ k, xs = [.bl k] /\ Q (.int (if k then 1 else 0)) H) := by
 intro pins s σ H xs us Q I r h
 rcases h with ⟨i, rfl, q⟩ | ⟨k, rfl, q⟩
 ·obtain ⟨u, rfl, t, rfl⟩ := gi r
  exact call_int_int ⟨.int i, H, I, ⟨_, rfl⟩, q⟩
 ·obtain ⟨u, rfl, r1⟩ := gi r
  cases r1
  exact call_int_bool ⟨.int (if k then 1 else 0), H, I.tok _, ⟨_, rfl⟩, q⟩
def GI (K : W.Frag) (x : V) (H : Hp) (n : Nat) : Prop :=
 match x with
 | .str y => y.length <= sizeLine /\ n = y.length
 | .byt y => y.size <= sizeLine /\ n = y.size
 | .ref p => (∃ xs, SqL K H p xs /\ n = xs.length) \/ ∃ xs, SqT K H p xs /\ n = xs.length
 | _ => False
theorem Bd : CallR X (.builtin "len") (fun xs H Q => ∃ x n, xs = [x] /\ GI X.K x H n /\ Q (.int n) H) := by
 intro pins s σ H xs us Q I r h
 obtain ⟨x, n, rfl, e, q⟩ := h
 obtain ⟨u, rfl, rx⟩ := gi r
 have hl := oh
 have hs : sizeLine = 16777216 := sizeLine_eq
 cases x with
 | str y =>
  obtain ⟨t, rfl⟩ := rx
  obtain ⟨hy, e'⟩ : y.length <= sizeLine /\ n = y.length := e
  subst e'
  exact len_str (by omega) ⟨.int _, H, I.tok _, ⟨_, rfl⟩, q⟩
 | byt y =>
  obtain ⟨t, rfl⟩ := rx
  obtain ⟨hy, e'⟩ : y.size <= sizeLine /\ n = y.size := e
  subst e'
  exact PySem.W.len_bytes (by omega) ⟨.int _, H, I.tok _, ⟨_, rfl⟩, q⟩
 | ref p =>
  cases rx
  have e' : (∃ xs, SqL X.K H p xs /\ n = xs.length) \/ ∃ xs, SqT X.K H p xs /\ n = xs.length := e
  rcases e' with ⟨xs, hx, e'⟩ | ⟨xs, hx, e'⟩
  ·subst e'
   obtain ⟨its, r', pl, hz⟩ := I.list hx
   have hlen := r'.length
   exact Calls.call_len_list pl.isList (by simp only [List.size_toArray]; omega) ⟨.int xs.length, H, I.tok _, ⟨_, by simp only [List.size_toArray]; rw [hlen]⟩, q⟩
  ·subst e'
   obtain ⟨its, r', pl, hz⟩ := I.tuple hx
   have hlen := r'.length
   exact len_tuple pl (by simp only [List.size_toArray]; omega) ⟨.int xs.length, H, I.tok _, ⟨_, by simp only [List.size_toArray]; rw [hlen]⟩, q⟩
 | _ => exact (show False from e).elim
end
end L2
namespace L2
open PySem PySem.Spec PyProof.Rows
structure ObjM (h : Heap) (x dx C : Addr) (mA : Str -> Option Value) : Prop where
 obj : h.get? x = some (PySem.W.instObj C dx)
 ns : h.Ns1 dx mA
 ne : dx ≠ x
theorem zP {h : Heap} {dx : Addr} {mA : Str -> Option Value} (n : h.Ns1 dx mA) : ∃ od, h.get? dx = some od /\ ∀ name, PySem.W.lookIn name od = some (mA name) := by
 obtain ⟨o, es, ep, ho, hd, hk, _, hm⟩ := n
 refine ⟨o, ho, fun name => ?_⟩
 have e := hm name
 unfold nsFind findBy at e
 rw [<- Array.find?_toList] at e
 unfold PySem.W.lookIn
 rw [hd]
 dsimp only
 split
 ·rename_i y q
  rw [q] at e
  exact congrArg some e
 ·rename_i q
  rw [q] at e
  have a : es.toList.any (·.refKey) = false := by
   rw [List.any_eq_false]
   intro y hy
   obtain ⟨z, t, hkey⟩ := hk y (Array.mem_toList_iff.mp hy)
   simp [DictEntry.refKey, hkey]
  have a' : ¬ es.toList.any (·.refKey) = true := by rw [a]; exact Bool.false_ne_true
  rw [if_neg a']
  exact congrArg some e
theorem ObjM.look {h : Heap} {x dx C : Addr} {mA : Str -> Option Value} (I : ObjM h x dx C mA) : ∃ od, PySem.W.InstAt h x (PySem.W.instObj C dx) C (some od) /\ ∀ name, PySem.W.lookIn name od = some (mA name) :=
 let ⟨od, ho, hl⟩ := zP I.ns
 ⟨od, ⟨I.obj, rfl, rfl, ho⟩, hl⟩
section
variable {prog : Program} {w : World} {A : Around} {E : Value -> Shared -> Prop} {s : Shared} {K : W.Frag} {x dx C f : Addr} {mA : Str -> Option Value} {name : Str} {v : Value}
theorem C_ {expr : Bool} {Q : Value -> Shared -> Prop} (X : K.In s.heap) (I : ObjM s.heap x dx C mA) (hg : PySem.W.plainGet K C name = true) (hh : PySem.W.hasDictIn K C = true)
 (ha : PySem.W.findIn K (.ref C) name = some none) (hv : mA name = some v) (hv' : PySem.W.handedIn v = true) (h : Q v { s with toks := s.toks + 1 }) :
 wpAny (model prog w) A (getAttr (.ref x) name expr) Q E s := by
 obtain ⟨od, J, hl⟩ := I.look
 exact PySem.W.get_value X J (PySem.W.plainGet_of hg).1 (PySem.W.findObj_own hh ha rfl (by rw [hl, hv])) hv' h
theorem BD {pl : Sem Bool} {Q : Value × List Value -> Shared -> Prop} (X : K.In s.heap) (I : ObjM s.heap x dx C mA) (hg : PySem.W.plainGet K C name = true)
 (hf : PySem.W.findIn K (.ref C) name = some (some (.ref f))) (ht : PySem.W.isFn K (.ref f) = true) (hv : mA name = none) (h : Q (.ref f, [.ref x]) s) :
 wpAny (model prog w) A (getMethod (.ref x) name pl) Q E s := by
 obtain ⟨od, J, hl⟩ := I.look
 exact PySem.W.method_fn X J (PySem.W.plainGet_of hg).1 (PySem.W.plainGet_of hg).2 hf (beq_iff_eq.mp ht) (by show (PySem.W.lookIn name od).map (·.isSome) = some false; rw [hl, hv]; rfl) h
theorem CT {ns : List Str} {Q : Unit -> Shared -> Prop} (X : K.In s.heap) (I : ObjM s.heap x dx C mA)
 (hs : PySem.W.findIn K (.ref C) "__setattr__" = some (some (.builtin "object.__setattr__"))) (hp : PySem.W.plainOver K C = true) (ht : PySem.W.takerIn K C name = some none) (hh : PySem.W.hasDictIn K C = true)
 (hw : PySem.Within mA ns) (hsz : ns.length <= sizeLine)
 (h : ∀ h', ObjM h' x dx C (fun y => if y = name then some v else mA y) -> Heap.SameBut dx s.heap h' -> Q () { s with heap := h', toks := s.toks + 2 }) :
 wpAny (model prog w) A (setAttr (.ref x) name v) Q E s := by
 obtain ⟨od, J, hl⟩ := I.look
 refine PySem.W.set_plain X J hs (PySem.W.osa_open (s := { s with toks := s.toks + 1 }) (r := none) X J hp ht fun b => ?_)
 obtain ⟨cd, hc, hd'⟩ := PySem.W.any_some hh
 have hx : s.heap.get? x = some ⟨.ref C, some dx, .plain, #[]⟩ := I.obj
 refine wpAny_bind (wpAny_pure (wpAny_bind (wpAny_bind (wpAny_loadPart hx (wpAny_bind (PySem.W.Looks.here (s := { s with toks := s.toks + 1 }) (PySem.W.looks_clsIn X hc) ?_))))))
 rw [hd']
 refine wpAny_pure (a := some dx) (wpAny_bind (wpAny_pure (wpAny_bind ?_)))
 refine wpAny_nsSet1 (s := { s with toks := s.toks + 1 }) I.ns fun h' hn2 hs2 => ?_
 obtain ⟨oD, esD, epD, hoD, hdD, hcD⟩ := hn2.count (PySem.Within.cons name v hw)
 refine wpAny_bind (wpAny_lookBehind hoD (by rw [hdD]; exact pastItsLine_dict (Nat.le_trans hcD (by rw [List.length_cons]; omega))) ?_)
 exact wpAny_pure (h _ ⟨(hs2.2 _ (Ne.symm I.ne)).trans I.obj, hn2, I.ne⟩ hs2)
theorem Be {R : Result -> Shared -> Prop} {vs : List Value} {kw : List (Str × Value)} (X : K.In s.heap) (hm : PySem.W.makesIn K C = true)
 (hi : PySem.W.findIn K (.ref C) "__init__" = some (some (.ref f))) (hf : PySem.W.typeIn K (.ref f) = some (.type "function"))
 (h : codeAny (model prog w) (A.under (.builtin "type.__call__" ⟨.ref C :: vs, kw⟩)) (.call (.ref f) ⟨.ref (s.heap.objs.size + 1) :: vs, kw⟩) (PySem.W.InitBack (s.heap.objs.size + 1) R)
  { s with heap := (s.heap.push PySem.W.emptyDict).push (PySem.W.instObj C s.heap.objs.size) }) :
 codeAny (model prog w) A (.call (.ref C) ⟨vs, kw⟩) R s := by
 obtain ⟨hh, g, d, t, os⟩ := s
 exact PySem.W.make_core (PySem.W.makes_of X hm) (PySem.W.looks_findIn X hi) (fun self => PySem.W.bind_fn X self hf) (.inl rfl) h
end
def fR (f : Str) (v : V) : List (Str × V) -> List (Str × V)
 | [] => [(f, v)]
 | (g, x) :: r => if g = f then (g, v) :: r else (g, x) :: fR f v r
theorem pe (f g : Str) (v : V) : ∀ fs : List (Str × V), (fR f v fs).lookup g = if g = f then some v else fs.lookup g
 | [] => by
  show List.lookup g [(f, v)] = _
  by_cases h : g = f
  ·have hb : (g == f) = true := beq_iff_eq.mpr h
   simp only [List.lookup, hb, if_pos h]
  ·have hb : (g == f) = false := beq_eq_false_iff_ne.mpr h
   simp only [List.lookup, hb, if_neg h]
 | (k, x) :: r => by
  have ih := pe f g v r
  rw [show fR f v ((k, x) :: r) = (if k = f then (k, v) :: r else (k, x) :: fR f v r) from rfl]
  by_cases hk : k = f
  ·rw [if_pos hk]
   by_cases h : g = k
   ·have hb : (g == k) = true := beq_iff_eq.mpr h
    simp only [List.lookup, hb, if_pos (h.trans hk)]
   ·have hb : (g == k) = false := beq_eq_false_iff_ne.mpr h
    simp only [List.lookup, hb, if_neg (fun e : g = f => h (e.trans hk.symm))]
  ·rw [if_neg hk]
   by_cases h : g = k
   ·have hb : (g == k) = true := beq_iff_eq.mpr h
    simp only [List.lookup, hb, if_neg (fun e : g = f => hk (h.symm.trans e))]
   ·have hb : (g == k) = false := beq_eq_false_iff_ne.mpr h
    simp only [List.lookup, hb]
    exact ih
theorem oY (f : Str) (v : V) : ∀ fs : List (Str × V), f ∈ (fR f v fs).map (·.1) /\ ∀ g, g ∈ fs.map (·.1) -> g ∈ (fR f v fs).map (·.1)
 | [] => ⟨by simp [fR], fun g h => by simp at h⟩
 | (k, x) :: r => by
  obtain ⟨i1, i2⟩ := oY f v r
  rw [show fR f v ((k, x) :: r) = (if k = f then (k, v) :: r else (k, x) :: fR f v r) from rfl]
  by_cases hk : k = f
  ·rw [if_pos hk]
   subst hk
   exact ⟨by simp, fun g h => by simpa using h⟩
  ·rw [if_neg hk]
   refine ⟨?_, fun g h => ?_⟩
   ·rw [List.map_cons]
    exact List.mem_cons_of_mem _ i1
   ·rw [List.map_cons] at h ⊢
    rcases List.mem_cons.mp h with e | e
    ·exact List.mem_cons.mpr (.inl e)
    ·exact List.mem_cons_of_mem _ (i2 g e)
theorem pf (f : Str) (v : V) : ∀ fs : List (Str × V), (fR f v fs).length <= fs.length + 1
 | [] => by simp [fR]
 | (k, x) :: r => by
  have ih := pf f v r
  rw [show fR f v ((k, x) :: r) = (if k = f then (k, v) :: r else (k, x) :: fR f v r) from rfl]
  by_cases hk : k = f
  ·rw [if_pos hk, List.length_cons, List.length_cons]; omega
  ·rw [if_neg hk, List.length_cons, List.length_cons]; omega
theorem RelO.some_of {v : V} {o : Option Value} (r : RelO (some v) o) : ∃ u, o = some u /\ RelV v u := by
 cases o with
 | none => exact (show False from r).elim
 | some u => exact ⟨u, rfl, r⟩
theorem RelO.none_of {o : Option Value} (r : RelO none o) : o = none := by
 cases o with
 | none => rfl
 | some u => exact (show False from r).elim
theorem zD {v : V} {u : Value} (r : RelV v u) : PySem.W.handedIn u = true := by
 cases v with
 | non => cases (show u = Value.none from r); rfl
 | bl b => cases (show u = Value.bool b from r); rfl
 | int i => obtain ⟨t, e⟩ := (show ∃ t, u = Value.int i t from r); cases e; rfl
 | str x => obtain ⟨t, e⟩ := (show ∃ t, u = Value.str x t from r); cases e; rfl
 | byt b => obtain ⟨t, e⟩ := (show ∃ t, u = Value.bytes b t from r); cases e; rfl
 | flt b => obtain ⟨t, e⟩ := (show ∃ t, u = Value.float b t from r); cases e; rfl
 | ref a => cases (show u = Value.ref a from r); rfl
 | ty n => cases (show u = Value.type n from r); rfl
section
variable {P : Program} {w : World} {H H' : Hp} {h h' : Heap} {a C dx : Addr} {fs fs' : List (Str × V)}
theorem qB (hok : HOk P w H h) (e : H a = some (.ins C dx fs)) : ∃ mA, ObjM h a dx C mA /\ (∀ f, RelO (fs.lookup f) (mA f)) /\ PySem.Within mA (fs.map (·.1)) /\ fs.length <= 1000 /\ H dx = some (.own a) := by
 obtain ⟨d, z, ne, ob, mA, n, r, q⟩ := (show ObjOk P w H h a (.ins C dx fs) from hok a _ e)
 exact ⟨mA, ⟨ob, n, ne⟩, r, q, z, d⟩
end
structure Cls (K : W.Frag) (C : Addr) : Prop where
 pg : PySem.W.plainGet K C Str.empty = true
 hd : PySem.W.hasDictIn K C = true
 po : PySem.W.plainOver K C = true
 sa : PySem.W.findIn K (.ref C) "__setattr__" = some (some (.builtin "object.__setattr__"))
theorem Cls.get {K : W.Frag} {C : Addr} (c : Cls K C) (f : Str) : PySem.W.plainGet K C f = true := c.pg
def NoAttr (K : W.Frag) (C : Addr) (f : Str) : Prop := PySem.W.findIn K (.ref C) f = some none
theorem NoAttr.taker {K : W.Frag} {C : Addr} {f : Str} (n : NoAttr K C f) : PySem.W.takerIn K C f = some none := by
 unfold PySem.W.takerIn
 rw [show PySem.W.findIn K (.ref C) f = some none from n]
 rfl
structure oV (K : W.Frag) (C : Addr) (m : Str) (f : Addr) : Prop where
 at_ : PySem.W.findIn K (.ref C) m = some (some (.ref f))
 fn : PySem.W.isFn K (.ref f) = true
 kp : PySem.W.keepIn K (.ref f) = true
section
variable {X : Cx} {pins : List (Addr × Obj)} {σ : St} {H : Hp} {s : Shared} {a C dx : Addr} {fs : List (Str × V)} {f : Str} {v : V} {A : Around} {E : Value -> Shared -> Prop}
theorem xk {b : Bool} {Q : Value -> Shared -> Prop} (I : Inv X pins σ H s) (e : H a = some (.ins C dx fs)) (c : Cls X.K C) (n : NoAttr X.K C f) (l : fs.lookup f = some v)
 (h : ∀ u s', Inv X pins σ H s' -> RelV v u -> Q u s') : wpAny (model X.prog X.w) A (getAttr (.ref a) f b) Q E s := by
 obtain ⟨mA, O, r, _, _, _⟩ := qB I.hok e
 obtain ⟨u, hu, ru⟩ := RelO.some_of (v := v) (o := mA f) (by rw [<- l]; exact r f)
 exact C_ I.kIn O (c.get f) c.hd n hu (zD ru) (h u _ (I.tok _) ru)
theorem qR {m : Str} {g : Addr} {pl : Sem Bool} {Q : Value × List Value -> Shared -> Prop} (I : Inv X pins σ H s) (e : H a = some (.ins C dx fs)) (c : Cls X.K C) (k : oV X.K C m g) (l : fs.lookup m = none)
 (h : Q (.ref g, [.ref a]) s) : wpAny (model X.prog X.w) A (getMethod (.ref a) m pl) Q E s := by
 obtain ⟨mA, O, r, _, _, _⟩ := qB I.hok e
 have hn : mA m = none := RelO.none_of (by rw [<- l]; exact r m)
 exact BD I.kIn O (c.get m) k.at_ k.fn hn h
theorem xn {y : V} {u : Value} {Q : Unit -> Shared -> Prop} (I : Inv X pins σ H s) (e : H a = some (.ins C dx fs)) (c : Cls X.K C) (n : NoAttr X.K C f) (hl : fs.length < 1000) (ry : RelV y u)
 (h : ∀ s', Inv X pins σ (upd H a (.ins C dx (fR f y fs))) s' -> Q () s') : wpAny (model X.prog X.w) A (setAttr (.ref a) f u) Q E s := by
 obtain ⟨mA, O, r, wi, _, ho⟩ := qB I.hok e
 have hz : (fs.map (·.1)).length <= sizeLine := by rw [List.length_map, sizeLine_eq]; omega
 refine CT I.kIn O c.sa c.po n.taker c.hd wi hz fun h' O' sb => h _ ?_
 have hd : ∃ o, h'.get? dx = some o := let ⟨o, _, _, e', _⟩ := O'.ns; ⟨o, e'⟩
 refine I.write (x := a) (e := dx) (by rw [e]; exact True.intro) (.inr ho) (fun b q hb z => (sb.2 b hb).trans z) hd ?_
 refine ⟨by rw [ay O.ne]; exact ho, ?_, O.ne, O'.obj, _, O'.ns, fun g => ?_, fun g hg => ?_⟩
 ·have := pf f y fs; omega
 ·show RelO ((fR f y fs).lookup g) (if g = f then some u else mA g)
  rw [pe]
  by_cases q : g = f
  ·rw [if_pos q, if_pos q]; exact ry
  ·rw [if_neg q, if_neg q]; exact r g
 ·by_cases q : g = f
  ·rw [q]; exact (oY f y fs).1
  ·refine (oY f y fs).2 g (wi g fun z => hg ?_)
   show (if g = f then some u else mA g) = none
   rw [if_neg q]; exact z
theorem Inv.made (I : Inv X pins σ H s) : Inv X pins σ (upd (upd H s.heap.objs.size (.own (s.heap.objs.size + 1))) (s.heap.objs.size + 1) (.ins C s.heap.objs.size []))
 { s with heap := (s.heap.push PySem.W.emptyDict).push (PySem.W.instObj C s.heap.objs.size) } := by
 have e1 : (s.heap.push PySem.W.emptyDict).get? s.heap.objs.size = some PySem.W.emptyDict := Heap.get?_push_size s.heap rfl
 have e2 : ((s.heap.push PySem.W.emptyDict).push (PySem.W.instObj C s.heap.objs.size)).get? (s.heap.objs.size + 1) = some (PySem.W.instObj C s.heap.objs.size) := by
  have := Heap.get?_push_size (s.heap.push PySem.W.emptyDict) (o := PySem.W.instObj C s.heap.objs.size) rfl
  rwa [Heap.size_push] at this
 have e3 : (s.heap.push PySem.W.emptyDict).Ns s.heap.objs.size (fun _ => none) := ⟨PySem.W.emptyDict, #[], _, e1, rfl, (fun e he => absurd he (by simp)), fun _ => rfl⟩
 have I1 := I.laid (a := s.heap.objs.size) (o := .own (s.heap.objs.size + 1)) (h' := s.heap.push PySem.W.emptyDict) (t' := s.toks) (fun b u q => Heap.get?_push_of_some _ q) (Nat.le_refl _) ⟨_, e1⟩
 refine I1.laid (a := s.heap.objs.size + 1) (o := .ins C s.heap.objs.size []) (t' := s.toks) (fun b u q => Heap.get?_push_of_some _ q) (Nat.le_of_eq (Heap.size_push _ _)) ?_
 have ne : s.heap.objs.size ≠ s.heap.objs.size + 1 := Nat.ne_of_lt (Nat.lt_succ_self _)
 refine ⟨by rw [ay ne, ai], Nat.zero_le _, ne, e2, fun _ => none, (Heap.Ns1.of_empty e3).at fun o q => Heap.get?_push_of_some _ q, fun _ => True.intro, fun y hy => absurd rfl hy⟩
theorem B4 {prog : Program} {w : World} {env : Env} {e : Expr} {f : Str} {pos : Pos} {s : Shared} {Q : Value -> Shared -> Prop} (hb : attributeBase e f env (eval e env) = eval e env)
 (h : wpAny (model prog w) A (eval e env) (fun o s₁ => wpAny (model prog w) A (getAttr o f true) Q E s₁) E s) : wpAny (model prog w) A (eval (.Attribute e f pos) env) Q E s :=
 Attribute_any_ h (by rw [arm_eval_Attribute, hb])
end
section
variable {X : Cx} {o e value : Expr} {f : Str} {pos pos' tpos : Pos} {ta tv : TE}
end
section
variable {X : Cx} {pins : List (Addr × Obj)} {σ : St} {H : Hp} {s : Shared} {A : Around} {E : Value -> Shared -> Prop} {Q : Value -> Shared -> Prop} {c : Value} {b : Bool}
inductive lc (K : W.Frag) (H : Hp) : V -> Value -> Prop where
 | non : lc K H .non (.type "NoneType")
 | bl (x : Bool) : lc K H (.bl x) (.type "bool")
 | int (i : Int) : lc K H (.int i) (.type "int")
 | str (x : Str) : lc K H (.str x) (.type "str")
 | flt (x : UInt64) : lc K H (.flt x) (.type "float")
 | lst {a : Addr} {xs : List V} (e : H a = some (.lst xs)) : lc K H (.ref a) (.type "list")
 | frz {a : Addr} {o : Obj} {xs : List V} (e : H a = some (.frz o (.lst xs))) : lc K H (.ref a) (.type "list")
 | tup {a : Addr} {xs : List V} (e : H a = some (.tup xs)) : lc K H (.ref a) (.type "tuple")
 | dK {a : Addr} {kvs : List (Key × V)} (e : H a = some (.dK kvs)) : lc K H (.ref a) (.type "dict")
 | dT {a : Addr} {kvs : List (List Key × V)} (e : H a = some (.dT kvs)) : lc K H (.ref a) (.type "dict")
 | ins {a C dx : Addr} {fs : List (Str × V)} (e : H a = some (.ins C dx fs)) (cl : Cls K C) (ha : PySem.W.findIn K (.ref C) "__class__" = some (some (.builtin "object.__class__")))
  (hn : PySem.W.specialIn K (.builtin "object.__class__") "__get__" = some (some (.builtin "getset_descriptor.__get__"))) (htk : PySem.W.takesIn K (.builtin "object.__class__") = some true)
  (hm : PySem.W.mroIn K C (.type "object") = some true) : lc K H (.ref a) (.ref C)
theorem zh {x : V} {u t : Value} (I : Inv X pins σ H s) (rx : RelV x u) (ty : lc X.K H x t) (e : PySem.W.kitOne X.K t c = some b) (h : ∀ tk, Q (.bool b) { s with toks := tk }) :
 wpAny (model X.prog X.w) A (call (.builtin "isinstance") [u, c]) Q E s := by
 cases ty with
 | non => cases (show u = Value.none from rx); exact PySem.W.kia_one PySem.W.kitx_none I.kIn True.intro e (fun z => nomatch z) h
 | bl y => cases (show u = Value.bool y from rx); exact PySem.W.kia_one PySem.W.kitx_bool I.kIn True.intro e (fun z => nomatch z) h
 | int i => obtain ⟨t, q⟩ := (show ∃ t, u = Value.int i t from rx); cases q; exact PySem.W.kia_one PySem.W.kitx_int I.kIn True.intro e (fun z => nomatch z) h
 | str y => obtain ⟨t, q⟩ := (show ∃ t, u = Value.str y t from rx); cases q; exact PySem.W.kia_one PySem.W.kitx_str I.kIn True.intro e (fun z => nomatch z) h
 | flt y => obtain ⟨t, q⟩ := (show ∃ t, u = Value.float y t from rx); cases q; exact PySem.W.kia_one PySem.W.kitx_float I.kIn True.intro e (fun z => nomatch z) h
 | @lst a xs ea =>
  cases (show u = Value.ref a from rx)
  obtain ⟨_, _, n, _, h1⟩ := (show ObjOk X.prog X.w H s.heap a (.lst xs) from I.hok a _ ea)
  exact PySem.W.kia_one PySem.W.kitx_list I.kIn ⟨_, h1, rfl⟩ e (fun z => nomatch z) h
 | @frz a ob xs ea =>
  cases (show u = Value.ref a from rx)
  obtain ⟨_, _, _, n, _, h1⟩ := (show ObjOk X.prog X.w H s.heap a (.frz ob (.lst xs)) from I.hok a _ ea)
  exact PySem.W.kia_one PySem.W.kitx_list I.kIn ⟨_, h1, rfl⟩ e (fun z => nomatch z) h
 | @tup a xs ea =>
  cases (show u = Value.ref a from rx)
  obtain ⟨_, _, _, p⟩ := (show ObjOk X.prog X.w H s.heap a (.tup xs) from I.hok a _ ea)
  obtain ⟨o, h1, h2, _⟩ := p
  exact PySem.W.kia_one PySem.W.kitx_tuple I.kIn ⟨o, h1, h2⟩ e (fun z => nomatch z) h
 | @dK a kvs ea =>
  cases (show u = Value.ref a from rx)
  obtain ⟨_, _, vs, _, p⟩ := (show ObjOk X.prog X.w H s.heap a (.dK kvs) from I.hok a _ ea)
  obtain ⟨o, es, ep, h1, h2, _⟩ := p
  exact PySem.W.kia_one PySem.W.kitx_dict I.kIn ⟨o, h1, h2.1⟩ e (fun z => nomatch z) h
 | @dT a kvs ea =>
  cases (show u = Value.ref a from rx)
  obtain ⟨_, _, xs, _, o, es, ep, h1, h2, _⟩ := (show ObjOk X.prog X.w H s.heap a (.dT kvs) from I.hok a _ ea)
  exact PySem.W.kia_one PySem.W.kitx_dict I.kIn ⟨o, h1, h2.1⟩ e (fun z => nomatch z) h
 | @ins a C dx fs ea cl ha hn htk hm =>
  cases (show u = Value.ref a from rx)
  obtain ⟨mA, O, _⟩ := qB I.hok ea
  obtain ⟨od, J, _⟩ := O.look
  exact PySem.W.kia_one (PySem.W.kitx_own (cl.get _) cl.hd ha hn htk hm) I.kIn J e (fun z => nomatch z) h
end
end L2
namespace L2
open PySem PySem.Spec PyProof.Rows
structure Room (k : Nat) (A : Around) : Prop where
 hd : A.handled = none
 dp : A.depth + 3 * k + 5 < recursionLimit
 un : A.units + 16 * k + 200 < cLine
theorem Room.mono {j k : Nat} {A : Around} (r : Room k A) (h : j <= k) : Room j A := ⟨r.hd, by have := r.dp; omega, by have := r.un; omega⟩
theorem Room.deeper {k : Nat} {A : Around} (r : Room (k + 1) A) (env : Env) : Room k (A.deeper env) :=
 ⟨r.hd, by have := r.dp; show A.depth + 1 + 3 * k + 5 < _; omega, by have := r.un; show A.units + 3 + 16 * k + 200 < _; omega⟩
theorem xh {A : Around} {C : Addr} {us : List Value} {kw : List (Str × Value)} : (A.under (.builtin "type.__call__" ⟨.ref C :: us, kw⟩)).depth = A.depth + 1 := by
 first | rfl | simp [Around.under, Code.weight, Code.isCreation, Code.isGuard, Code.isCaller, Code.frames, Code.isFrame, guardIds]
theorem xi {A : Around} {C : Addr} {us : List Value} {kw : List (Str × Value)} : (A.under (.builtin "type.__call__" ⟨.ref C :: us, kw⟩)).units = A.units + 1 := by
 first | rfl | simp [Around.under, Code.cUnits, Code.frames, Code.isFrame]
theorem Room.make {k : Nat} {A : Around} (r : Room (k + 1) A) (C : Addr) (us : List Value) (kw : List (Str × Value)) : Room k (A.under (.builtin "type.__call__" ⟨.ref C :: us, kw⟩)) :=
 ⟨r.hd, by have := r.dp; rw [xh]; omega, by have := r.un; rw [xi]; omega⟩
theorem Room.depth {k : Nat} {A : Around} (r : Room k A) : A.depth < recursionLimit := by have := r.dp; omega
def BB : TA := fun _ H Q => Q [] H
def BA (ta : TE) (tr : TA) : TA := fun σ H Q => ta σ H fun x H1 => tr σ H1 fun xs H2 => Q (x :: xs) H2
section
variable {X : Cx} {e : Expr} {es : List Expr} {te : TE} {t : TA} {pos : Pos}
theorem EV : PA X [] BB := fun _ _ _ _ H Q I h => Calls.spliced_nil ⟨[], H, I, .nil, h⟩
theorem CY (ha : PE X e te) (hr : PA X es t) (hs : starEach (e :: es) X.env = (false, eval e X.env) :: starEach es X.env := by rfl) : PA X (e :: es) (BA te t) := by
 intro pos pins s σ H Q I h
 rw [hs]
 show wpAny _ _ (spliced ((false, eval e X.env) :: backTo pos (starEach es X.env))) _ _ s
 refine Calls.spliced_cons (thn (ha pins s σ H _ I h) fun u s1 ⟨x, H1, I1, r1, q1⟩ => ?_)
 exact thn (hr pos pins s1 σ H1 _ I1 q1) fun us s2 ⟨xs, H2, I2, r2, q2⟩ => ⟨x :: xs, H2, I2, .cons r1 r2, q2⟩
def F9 (t : TA) : TE := fun σ H Q => t σ H fun xs H1 => xs.length <= sizeLine /\ ∀ p, H1 p = none -> Q (.ref p) (upd H1 p (.tup xs))
def F4 (t : TA) : TE := fun σ H Q => t σ H fun xs H1 => xs.length <= sizeLine /\ ∀ p, H1 p = none -> Q (.ref p) (upd H1 p (.lst xs))
theorem eI {x1} (h : PA X es t) : PE X (.Tuple es x1 pos) (F9 t) := by
 intro pins s σ H Q I hq
 refine wpAny_Tuple_spliced (thn (h pos pins s σ H _ I hq) fun us s1 ⟨xs, H1, I1, r, z, q⟩ => ⟨by rw [<- r.length]; exact z, ?_⟩)
 have hf : H1 s1.heap.objs.size = none := I1.hok.fresh (Nat.le_refl _)
 refine ⟨.ref s1.heap.objs.size, upd H1 s1.heap.objs.size (.tup xs), I1.laid (t' := s1.toks) (fun b u e => Heap.get?_push_of_some _ e) (Nat.le_refl _) ?_, rfl, q _ hf⟩
 exact ⟨z, us, r, ⟨_, Heap.get?_push_size _ rfl, rfl, _, rfl⟩⟩
theorem cj (h : PA X es t) : PE X (.List es pos) (F4 t) := by
 intro pins s σ H Q I hq
 refine wpAny_List_spliced (thn (h pos pins s σ H _ I hq) fun us s1 ⟨xs, H1, I1, r, z, q⟩ => ⟨by rw [<- r.length]; exact z, ?_⟩)
 have hf : H1 s1.heap.objs.size = none := I1.hok.fresh (Nat.le_refl _)
 refine ⟨.ref s1.heap.objs.size, upd H1 s1.heap.objs.size (.lst xs), I1.laid (t' := s1.toks) (fun b u e => Heap.get?_push_of_some _ e) (Nat.le_refl _) ?_, rfl, q _ hf⟩
 exact ⟨z, us, 0, r, Heap.get?_push_size _ rfl⟩
end
abbrev Sp := List V -> Hp -> VK -> XK -> Prop
abbrev CXT := List Env -> Hp -> Shared -> XK -> Value -> Shared -> Prop
structure Env0 (P : Program) (w : World) (K : W.Frag) (mg : Str -> Option Value) (base : Heap) (A : Around) (outer : List Env) (s : Shared) (H : Hp) : Prop where
 frames : A.frames = some outer
 mod : Mod K mg base
 bs : ∀ b o, base.get? b = some o -> s.heap.get? b = some o /\ H b = none
 bsz : base.objs.size <= s.heap.objs.size
 funs : s.heap.FunFrames base outer
 frf : ∀ b ∈ frs outer, H b = none
 hok : HOk P w H s.heap
 bare : AllBare s.gens
def CE (outer : List Env) (P : Program) (w : World) (H : Hp) (s : Shared) (Q : VK) (u : Value) (s' : Shared) : Prop :=
 ∃ v H', s'.os = s.os /\ AllBare s'.gens /\ Un (frs outer) [] H H' s.heap s'.heap /\ HOk P w H' s'.heap /\ RelV v u /\ Q v H'
def CR (CX : CXT) (outer : List Env) (P : Program) (w : World) (H : Hp) (s : Shared) (Q : VK) (E : XK) (r : Result) (s' : Shared) : Prop :=
 match r with
 | .ok (.ret u) => CE outer P w H s Q u s'
 | .ok _ => False
 | .error e => CX outer H s E e s'
structure bv (P : Program) (w : World) (K : W.Frag) (mg : Str -> Option Value) (base : Heap) (CX : CXT) (k : Nat) (f : Addr) (fd : FuncData) (ps : List Str) (sp : Sp) : Prop where
 len : ∀ vs H Q E, sp vs H Q E -> vs.length = ps.length
 run : ∀ (A : Around) (outer : List Env) (s : Shared) (H : Hp) (args : Args) (us : List Value) (vs : List V) (Q : VK) (E : XK), Room k A -> Env0 P w K mg base A outer s H -> BindsTo s fd args (ps.zip us) -> Vals vs us -> sp vs H Q E ->
  codeAny (model P w) A (.call (.ref f) args) (CR CX outer P w H s Q E) s
theorem Env0.make {P : Program} {w : World} {K : W.Frag} {mg : Str -> Option Value} {base : Heap} {A : Around} {outer : List Env} {s : Shared} {H : Hp} (e : Env0 P w K mg base A outer s H) (C : Addr) (us : List Value) (kw : List (Str × Value)) :
 Env0 P w K mg base (A.under (.builtin "type.__call__" ⟨.ref C :: us, kw⟩)) outer s H := ⟨by first | exact e.frames | (simpa [Around.under, Code.envs, Code.isFrame, pushEnvs] using e.frames), e.mod, e.bs, e.bsz, e.funs, e.frf, e.hok, e.bare⟩
section
variable {X : Cx} {pins : List (Addr × Obj)} {σ : St} {H : Hp} {s s' : Shared}
theorem Inv.env0 (I : Inv X pins σ H s) : Env0 X.prog X.w X.K X.mg X.base X.A X.stack s H :=
 ⟨I.ok.frames, I.ok.mod, I.bs, Nat.le_trans I.ok.bsz I.sz, I.stack, I.stkFree, I.hok, I.bare⟩
theorem Inv.after {Q : VK} {u : Value} (I : Inv X pins σ H s) (h : CE X.stack X.prog X.w H s Q u s') : EP X pins σ Q u s' := by
 obtain ⟨v, H', os, bare, un, hok, r, q⟩ := h
 obtain ⟨hh, g, d, t, os'⟩ := s'
 obtain rfl : os' = s.os := os
 exact ⟨v, H', I.call (h' := hh) (g' := g) (d' := d) (t' := t) (ch := []) un hok bare (fun b z => absurd z (by simp)), r, q⟩
end
def Binds (K : W.Frag) (fd : FuncData) (ps : List Str) (ds : List Value) : Prop :=
 ∀ (s : Shared) (us : List Value), K.In s.heap -> (us ++ ds).length = ps.length -> BindsTo s fd ⟨us, []⟩ (ps.zip (us ++ ds))
theorem Binds.all {K : W.Frag} {fd : FuncData} {ps : List Str} (h : ∀ us : List Value, us.length = ps.length -> bindArgs fd ⟨us, []⟩ = pure (ps.zip us)) : Binds K fd ps [] := fun s us _ hl => by
 rw [List.append_nil] at hl ⊢
 exact .of_eq (h us hl)
section
variable {X : Cx} {CX : CXT} {k : Nat} {f C : Addr} {fd : FuncData} {ps : List Str} {sp : Sp} {dvs : List V} {ds : List Value} {E : XK} {x m : Str} {p pos apos : Pos} {e o : Expr} {es : List Expr} {ta : TE} {t : TA}
structure Mk (K : W.Frag) (C f : Addr) : Prop where
 makes : PySem.W.makesIn K C = true
 init : PySem.W.findIn K (.ref C) "__init__" = some (some (.ref f))
 fn : PySem.W.isFn K (.ref f) = true
 kp : PySem.W.keepIn K (.ref C) = true
end
section
variable {X : Cx} {CX : CXT} {k : Nat} {f C : Addr} {fd : FuncData} {ps ks : List Str} {sp : Sp} {E : XK} {x m : Str} {p pos apos kpos : Pos} {e o : Expr} {es : List Expr} {kws : List Keyword} {te ta : TE} {t tk : TA} {nm : Option Str}
variable {g : List Value -> List Value -> List Value} {gV : List V -> List V -> List V}
end
structure aG (N P : List Str) (sc : Scope) : Prop where
 kind : sc.kind = .function
 co : sc.isCoroutine = false
 gen : sc.isGenerator = false
 nd : N.Nodup
 pre : N.take P.length = P
 par : ∀ x ∈ P, sc.names.lookup x = some .local \/ sc.names.lookup x = some .cell
 nofree : ∀ y ∈ sc.names, y.2 ≠ .free
theorem tI {kindOf : Str -> Option NameKind} {x : Str} : ∀ {binds : List (Str × Value)} {m : Str -> Option Value}, (∀ v, (x, v) ∉ binds) -> bindL kindOf binds m x = m x
 | [], _, _ => rfl
 | (n, v) :: r, m, h => by
  unfold bindL
  rw [tI fun w hw => h w (List.mem_cons_of_mem _ hw)]
  split
  ·have : x ≠ n := by rintro rfl; exact h v List.mem_cons_self
   simp [this]
  ·rfl
theorem sZ {kindOf : Str -> Option NameKind} {x : Str} : ∀ {binds : List (Str × Value)} {m : Str -> Option Value}, (∀ v, (x, v) ∉ binds) -> bindC kindOf binds m x = m x
 | [], _, _ => rfl
 | (n, v) :: r, m, h => by
  unfold bindC
  rw [sZ fun w hw => h w (List.mem_cons_of_mem _ hw)]
  split
  ·rfl
  ·have : x ≠ n := by rintro rfl; exact h v List.mem_cons_self
   simp [this]
theorem tR {kindOf : Str -> Option NameKind} {x : Str} {v : Value} : ∀ {P : List Str} {vs : List Value} {i : Nat} {m : Str -> Option Value}, P.Nodup -> P[i]? = some x -> vs[i]? = some v -> kindOf x = some .local ->
 bindL kindOf (P.zip vs) m x = some v
 | [], _, _, _, _, h, _, _ => by simp at h
 | _ :: _, [], _, _, _, _, h, _ => by simp at h
 | p :: P, w :: vs, 0, m, nd, h1, h2, hk => by
  simp at h1 h2; subst h1; subst h2
  show bindL kindOf ((p, w) :: P.zip vs) m p = _
  unfold bindL
  rw [tI fun v hv => (List.nodup_cons.mp nd).1 (List.of_mem_zip hv).1, if_pos hk]
  simp
 | p :: P, w :: vs, i + 1, m, nd, h1, h2, hk => by
  show bindL kindOf ((p, w) :: P.zip vs) m x = _
  unfold bindL
  exact tR (i := i) (List.nodup_cons.mp nd).2 (by simpa using h1) (by simpa using h2) hk
theorem sX {kindOf : Str -> Option NameKind} {x : Str} {v : Value} : ∀ {P : List Str} {vs : List Value} {i : Nat} {m : Str -> Option Value}, P.Nodup -> P[i]? = some x -> vs[i]? = some v -> kindOf x ≠ some .local ->
 bindC kindOf (P.zip vs) m x = some v
 | [], _, _, _, _, h, _, _ => by simp at h
 | _ :: _, [], _, _, _, _, h, _ => by simp at h
 | p :: P, w :: vs, 0, m, nd, h1, h2, hk => by
  simp at h1 h2; subst h1; subst h2
  show bindC kindOf ((p, w) :: P.zip vs) m p = _
  unfold bindC
  rw [sZ fun v hv => (List.nodup_cons.mp nd).1 (List.of_mem_zip hv).1, if_neg hk]
  simp
 | p :: P, w :: vs, i + 1, m, nd, h1, h2, hk => by
  show bindC kindOf ((p, w) :: P.zip vs) m x = _
  unfold bindC
  exact sX (i := i) (List.nodup_cons.mp nd).2 (by simpa using h1) (by simpa using h2) hk
def fo (N : List Str) (vs : List V) : St := vs.map some ++ List.replicate (N.length - vs.length) none
def cS (CX : CXT) (P : Program) (w : World) (K : W.Frag) (mg : Str -> Option Value) (base : Heap) (N : List Str) (qual : Str) (scope : Scope) (f : Addr) (cd : Value) (A : Around) (outer : List Env) (s : Shared) (H : Hp) (E : XK) : Cx where
 prog := P
 w := w
 K := K
 mg := mg
 base := base
 A := A.deeper (envOfC qual scope s.heap.objs.size f cd)
 N := N
 s₀ := s
 H₀ := H
 env := envOfC qual scope s.heap.objs.size f cd
 outer := outer
 stack := envOfC qual scope s.heap.objs.size f cd :: outer
 ex := []
 calm := true
 fn := fun _ => true
 pn := []
 xe := fun e s' => wpAny (model P w) (A.deeper (envOfC qual scope s.heap.objs.size f cd)) (leaving (envOfC qual scope s.heap.objs.size f cd) e) (fun _ s'' => CX outer H s E e s'') (fun e' s'' => CX outer H s E e' s'') s'
theorem v_ {sc : Scope} {n : Nat} {x : Str} (h : sc.names.lookup x = some .cell) : ∃ c, (cellsFrom n sc.names []).lookup x = some c := by
 have q := PySem.W.cellsFrom_some sc.names n [] (.inl h)
 exact Option.isSome_iff_exists.mp q
theorem tj {CX : CXT} {P : Program} {w : World} {K : W.Frag} {mg : Str -> Option Value} {base : Heap} {N ps : List Str} {qual : Str} {scope : Scope} {f : Addr} {cd : Value} {A : Around} {outer : List Env} {s s1 : Shared} {H : Hp} {E : XK} {us : List Value} {vs : List V}
 (S : aG N ps scope) (hd : A.handled = none) (e0 : Env0 P w K mg base A outer s H) (hl : vs.length = ps.length) (r : Vals vs us)
 (x : InCallC s s.heap.objs.size (bindL (envOfC qual scope s.heap.objs.size f cd).kindOf (ps.zip us) fun _ => none) (cellsFrom (s.heap.objs.size + 1) scope.names []) (bindC (envOfC qual scope s.heap.objs.size f cd).kindOf (ps.zip us) fun _ => none) s1) :
 Inv (cS CX P w K mg base N qual scope f cd A outer s H E) [] (fo N vs) H s1 := by
 have hpl : ps.length <= N.length := by have := congrArg List.length S.pre; rw [List.length_take] at this; omega
 obtain ⟨h1, tk, rfl, hk⟩ := x.done
 have noA : ∀ b : Addr, b ∉ (cS CX P w K mg base N qual scope f cd A outer s H E).ex := fun b z => absurd (show b ∈ ([] : List Addr) from z) (by simp)
 refine ⟨⟨e0.mod, S.kind, rfl, rfl, Nat.le_refl _, fun y z c h1 h2 => ?_, fun y hy => ?_, fun y c _ h => ?_, fun _ => hd, Around.frames_deeper e0.frames, .inr ⟨rfl, rfl⟩, fun b z => absurd z (noA b), e0.bs, e0.bsz, fun b _ _ => noA b, fun b z => absurd z (noA b), e0.funs, e0.frf⟩,
  rfl, e0.bare, Un.kept hk, ⟨_, x.toInCall.ns, fun i y v h1 h2 h3 => ?_⟩, fun y c h => ⟨_, x.cell y c h⟩, e0.hok.fresh (Nat.le_refl _), fun y c h => ?_, fun p hp => absurd (show p ∈ ([] : List (Addr × Obj)) from hp) (by simp), e0.hok.kept hk, ?_⟩
 ·exact name_of_addr x.apart (PySem.mem_of_lookup h1) (PySem.mem_of_lookup h2)
 ·have hy : scope.names.lookup y = some .cell \/ scope.names.lookup y = some .free := hy
  rcases hy with hy | hy
  ·exact v_ hy
  ·exact absurd rfl (S.nofree _ (PySem.mem_of_lookup hy))
 ·exact Nat.le_of_lt (x.above y c (PySem.mem_of_lookup h))
 ·have hi : i < vs.length := by
   unfold fo at h2
   by_cases hi : i < vs.length
   ·exact hi
   ·rw [List.getElem?_append_right (by simpa using hi)] at h2
    rw [List.getElem?_replicate] at h2
    split at h2 <;> cases h2
  have ha : vs[i]? = some v := by
   unfold fo at h2
   rw [List.getElem?_append_left (by simpa using hi), List.getElem?_map] at h2
   cases e : vs[i]? with
   | none => rw [e] at h2; cases h2
   | some a => rw [e] at h2; cases h2; rfl
  obtain ⟨u, hu, rv⟩ := r.get ha
  have hp : ps[i]? = some y := by
   rw [<- S.pre, List.getElem?_take_of_lt (by omega)]; exact h1
  have ndP : ps.Nodup := by rw [<- S.pre]; exact S.nd.sublist (List.take_sublist _ _)
  refine ⟨u, rv, ?_⟩
  rcases S.par y (List.mem_of_getElem? hp) with k | k
  ·exact .inl ⟨k, tR ndP hp hu k⟩
  ·obtain ⟨c, e⟩ := v_ (n := s.heap.objs.size + 1) k
   refine .inr ⟨.inl k, c, e, ?_⟩
   have q := x.cell y c e
   rw [sX ndP hp hu (by show scope.names.lookup y ≠ _; rw [k]; decide)] at q
   exact q
 ·exact e0.hok.fresh (Nat.le_of_lt (x.above y c (PySem.mem_of_lookup h)))
 ·unfold fo
  show _ = N.length
  rw [List.length_append, List.length_map, List.length_replicate]
  omega
theorem FN {CX : CXT} {P : Program} {w : World} {K : W.Frag} {mg : Str -> Option Value} {base : Heap} {k : Nat} {f : Addr} {name qual : Str} {params : Arguments} {body : List Stmt} {scope : Scope} {dV kV doc pm cdv ct oc : Value} {an od : Option Addr}
 {osl : Array (Option Value)} {N ps : List Str} {sp : Sp} (lk : K.lookup f = some ⟨oc, od, .func (PySem.W.fnOf name qual params body scope dV kV doc pm an cdv ct), osl⟩) (hcd : PySem.W.codeIn K cdv qual = true) (S : aG N ps scope)
 (len : ∀ vs H Q E, sp vs H Q E -> vs.length = ps.length)
 (hbody : ∀ (A : Around) (outer : List Env) (s : Shared) (H : Hp) (vs : List V) (Q : VK) (E : XK), Room k (A.deeper (envOfC qual scope s.heap.objs.size f cdv)) -> sp vs H Q E ->
  ∃ t, PSs (cS CX P w K mg base N qual scope f cdv A outer s H E) body t /\ t { nx := fun _ H' => Q .non H', rt := Q } (fo N vs) H) :
 bv P w K mg base CX (k + 1) f (PySem.W.fnOf name qual params body scope dV kV doc pm an cdv ct) ps sp := by
 refine ⟨len, fun A outer s H args us vs Q E hr e0 hb r hsp => ?_⟩
 have hl := len _ _ _ _ hsp
 have KX : K.In s.heap := e0.mod.kin.keeps fun b o e => (e0.bs b o e).1
 have lim : s.heap.NoLimit := e0.mod.nolimit.keeps fun b o e => (e0.bs b o e).1
 have hkind : ∀ y ∈ ps.zip us, scope.names.lookup y.1 = some .local \/ (scope.names.lookup y.1 = some .cell /\ ((cellsFrom (s.heap.objs.size + 1) scope.names []).lookup y.1).isSome = true) := fun ⟨n, v⟩ hy => by
  rcases S.par n (List.of_mem_zip hy).1 with q | q
  ·exact .inl q
  ·exact .inr ⟨q, PySem.W.cellsFrom_some _ _ _ (.inl q)⟩
 refine codeAny_call_function hr.depth (KX _ _ lk) rfl S.co S.gen rfl (PySem.W.codeRec_of KX hcd) (hb _ _ _ _ ?_)
 refine wpAny_newFunctionEnv_cells S.kind hkind fun env he s1 x => ?_
 subst he
 refine ⟨lim.keeps x.toInCall.keep, codeAny_func ?_⟩
 obtain ⟨t, ht, hq⟩ := hbody A outer s H vs Q E (hr.deeper _) hsp
 have I : Inv (cS CX P w K mg base N qual scope f cdv A outer s H E) [] (fo N vs) H s1 := tj S hr.hd e0 hl r x
 refine wpAny_mono (ht [] s1 (fo N vs) H _ I hq) (fun fl s' hs => ?_) fun e s' hs => hs
 have fin : ∀ {σ' : St} {H' : Hp} {v : V} {u : Value}, Inv (cS CX P w K mg base N qual scope f cdv A outer s H E) [] σ' H' s' -> RelV v u -> Q v H' -> CE outer P w H s Q u s' :=
  fun {σ' H' v u} J rv q => ⟨v, H', J.os, J.bare, J.base, J.hok, rv, q⟩
 cases fl with
 | ret u =>
  obtain ⟨v, σ', H', J, rv, q⟩ := hs
  exact fin J rv q
 | next =>
  obtain ⟨σ', H', J, q⟩ := hs
  exact fin (v := V.non) (u := Value.none) J rfl q
 | brk =>
  obtain ⟨_, _, _, q⟩ := hs
  exact False.elim q
 | cont =>
  obtain ⟨_, _, _, q⟩ := hs
  exact False.elim q
end L2
namespace L2
open PySem PySem.Spec PyProof.Rows
section
variable {X : Cx} {x : Str} {p pos : Pos} {e : Expr} {es : List Expr} {t : TA} {id T : String} {r : List V -> Hp -> VK -> Prop}
def tCB (r : List V -> Hp -> VK -> Prop) (t : TA) : TE := fun σ H Q => t σ H fun vs H1 => r vs H1 Q
theorem aE (hc : CallR X (.builtin id) r) (hg : Gl X x) (hm : X.mg x = none) (hv : bootBuiltins x = some (.builtin id)) (ha : PA X (e :: es) t) (hn : x ≠ "__name__" := by decide) (hdb : (x == ("__debug__" : Str)) = false := by decide)
 (he : starEach (e :: es) X.env = (false, eval e X.env) :: starEach es X.env := by rfl) (hpl : (backTo pos (starEach es X.env)).any (·.1) = false := by rfl) : PE X (.Call (.Name x p) (e :: es) [] pos) (tCB r t) := by
 intro pins s σ H Q I h
 refine wpAny_Call_Name_kw (nZ I hg hm hv ?_ hn hdb)
 exact PyProof.Rows.callWith_builtin1 (thn (ha pos pins s σ H _ I h) fun us s1 ⟨vs, H1, I1, r1, q1⟩ => hc pins s1 σ H1 vs us Q I1 r1 q1) he hpl
theorem eY (hc : CallR X (.type T) r) (hg : Gl X x) (hm : X.mg x = none) (hv : bootBuiltins x = some (.type T)) (ha : PA X (e :: es) t) (hn : x ≠ "__name__" := by decide) (hdb : (x == ("__debug__" : Str)) = false := by decide)
 (he : starEach (e :: es) X.env = (false, eval e X.env) :: starEach es X.env := by rfl) (hpl : (backTo pos (starEach es X.env)).any (·.1) = false := by rfl) : PE X (.Call (.Name x p) (e :: es) [] pos) (tCB r t) := by
 intro pins s σ H Q I h
 refine wpAny_Call_Name_kw (nZ I hg hm hv ?_ hn hdb)
 exact PyProof.Rows.callWith_type1 (thn (ha pos pins s σ H _ I h) fun us s1 ⟨vs, H1, I1, r1, q1⟩ => hc pins s1 σ H1 vs us Q I1 r1 q1) he hpl
end
end L2
namespace HT
open PySem PyProof.Rows
section
open PySem.SeqAt
open PySem.AutoSeq1 (wpAny_loadPart')
open PySem.MeetsSeq PySem.MeetsSeq2 PySem.MeetsSeq3
end
section
variable {prog : Program} {w : World} {A : Around} {E : Value -> Shared -> Prop} {s : Shared}
theorem cat_tup {t b : Addr} {vs ws : List Value} {Q : Value -> Shared -> Prop} (ht : IsTup s.heap t vs.toArray) (hb : IsTup s.heap b ws.toArray) (hv : vs ≠ [])
 (h1 : ws = [] -> Q (.ref t) s) (h2 : ws ≠ [] -> Q (.ref s.heap.objs.size) { s with heap := s.heap.push { cls := .type "tuple", data := .seq (vs ++ ws).toArray } })
 (hsz : vs.length + ws.length <= sizeLine) : wpAny (model prog w) A (binaryOp .Add (.ref t) (.ref b)) Q E s := by
 obtain ⟨⟨cls, dd, data, sl⟩, ho, hc, n, hd⟩ := id ht
 obtain ⟨⟨cls2, dd2, data2, sl2⟩, ho2, hc2, n2, hd2⟩ := id hb
 simp only at hc hd hc2 hd2
 subst hc hd hc2 hd2
 have e : vs.toArray ++ ws.toArray = (vs ++ ws).toArray := by simp
 by_cases hw : ws = []
 ·exact concat_meets ⟨_, ho, rfl⟩ ⟨_, ho2, rfl⟩ noFill_tuple_add seq_tuple_add PySem.F.slot_tuple_add PySem.F.entry_tuple_add (PySem.F.args_tuple_add_2 _ _)
   (tuple_addW1 t b vs.toArray ws.toArray n n2 dd dd2 sl sl2 (by simpa using hv) (by simp [hw])) ⟨ho, ho2, h1 hw⟩
 ·refine concat_meets ⟨_, ho, rfl⟩ ⟨_, ho2, rfl⟩ noFill_tuple_add seq_tuple_add PySem.F.slot_tuple_add PySem.F.entry_tuple_add (PySem.F.args_tuple_add_2 _ _)
   (tuple_addW2 t b vs.toArray ws.toArray n n2 dd dd2 sl sl2 (by simpa using hv) (by simpa using hw) (by rw [List.size_toArray, List.size_toArray]; exact hsz)) ⟨ho, ho2, ?_⟩
  rw [e]
  exact h2 hw
def sIx (n d : Nat) : Option Int -> Nat
 | none => d
 | some v => if v < 0 then (v + (n : Int)).toNat else min v.toNat n
theorem sIx_none (n d : Nat) : sIx n d none = d := rfl
theorem sIx_nat (n d k : Nat) : sIx n d (some (k : Int)) = min k n := by
 show (if (k : Int) < 0 then ((k : Int) + (n : Int)).toNat else min (k : Int).toNat n) = min k n
 rw [if_neg (by omega), Int.toNat_natCast]
theorem Ez (n d : Nat) (hd : d <= n) (o : Option Int) : sIx n d o <= n := by
 cases o with
 | none => exact hd
 | some v =>
  show (if v < 0 then (v + (n : Int)).toNat else min v.toNat n) <= n
  by_cases hv : v < 0
  ·rw [if_pos hv]; omega
  ·rw [if_neg hv]; exact Nat.min_le_right _ _
theorem yu (v : Int) (n d : Nat) : (if v < 0 then max (v + (n : Int)) 0 else min v (n : Int)) = ((sIx n d (some v) : Nat) : Int) := by
 show (if v < 0 then max (v + (n : Int)) 0 else min v (n : Int)) = (((if v < 0 then (v + (n : Int)).toNat else min v.toNat n) : Nat) : Int)
 by_cases hv : v < 0
 ·simp only [if_pos hv]; omega
 ·simp only [if_neg hv]; omega
theorem xM (lo hi : Option Int) (n : Nat) : Builtin.Slice.sliceAdjust lo hi 1 (n : Int) = (((sIx n 0 lo : Nat) : Int), ((sIx n n hi : Nat) : Int)) := by
 have h1 : ¬ ((1 : Int) < 0) := by omega
 unfold Builtin.Slice.sliceAdjust
 simp only [h1, if_false]
 refine Prod.ext ?_ ?_
 ·cases lo with
  | none => rfl
  | some v => exact yu v n 0
 ·cases hi with
  | none => rfl
  | some v => exact yu v n n
theorem xN (i j : Nat) : Builtin.Slice.slicePlaces (i : Int) (j : Int) 1 = j - i := by
 unfold Builtin.Slice.slicePlaces
 have h1 : (1 : Int) > 0 := by omega
 simp only [h1, if_true, Int.ediv_one]
 split <;> omega
theorem rY {v : Value} {o : Option Int} {Q : Option Int -> Shared -> Prop} (p : IsPart v o) (h : Q o s) : wpAny (model prog w) A (Builtin.Slice.slicePartIndex v) Q E s := by
 cases p with
 | none => exact slicePart_none h
 | int i t => exact slicePart_int h
theorem oM {sl : Addr} {vl vu : Value} {lo hi : Option Int} {n : Nat} {Q : Int × Int × Nat -> Shared -> Prop} (hs : s.heap.IsSliceOf sl vl vu .none) (pl : IsPart vl lo) (pu : IsPart vu hi)
 (h : Q (((sIx n 0 lo : Nat) : Int), 1, sIx n n hi - sIx n 0 lo) s) : wpAny (model prog w) A (Builtin.Slice.sliceApplied (.ref sl) (pure (n : Int))) Q E s := by
 obtain ⟨os, hos, hcs, hds⟩ := id hs
 unfold Builtin.Slice.sliceApplied Builtin.Slice.sliceFields
 refine wpAny_bind (wpAny_bind (wpAny_field hos hds (x := vl) rfl (wpAny_bind (wpAny_field hos hds (x := vu) rfl (wpAny_bind (wpAny_field hos hds (x := .none) rfl (wpAny_pure ?_)))))))
 refine wpAny_bind (slicePart_none ?_)
 show wpAny _ _ (if ((1 : Int) == 0) = true then _ else _) _ _ s
 rw [if_neg (by decide)]
 refine wpAny_bind (rY pl (wpAny_bind (rY pu (wpAny_bind (wpAny_pure ?_)))))
 show wpAny _ _ (match Builtin.Slice.sliceAdjust lo hi 1 (n : Int) with | (lo, hi) => pure (lo, (1 : Int), Builtin.Slice.slicePlaces lo hi 1)) _ _ s
 rw [xM lo hi n]
 show wpAny _ _ (pure (((sIx n 0 lo : Nat) : Int), (1 : Int), Builtin.Slice.slicePlaces ((sIx n 0 lo : Nat) : Int) ((sIx n n hi : Nat) : Int) 1)) _ _ s
 rw [xN]
 exact wpAny_pure h
theorem AE (xs : Array Value) (i k : Nat) : ((List.range k).filterMap fun (m : Nat) => xs[((i : Int) + (m : Int) * 1).toNat]?).toArray = ((xs.toList.drop i).take k).toArray := by
 have e : (fun (m : Nat) => xs[((i : Int) + (m : Int) * 1).toNat]?) = fun m => xs[i + m]? := by
  funext m
  have : ((i : Int) + (m : Int) * 1).toNat = i + m := by omega
  rw [this]
 rw [e]
 have := pick_run xs i k
 rw [List.filterMap_map] at this
 have e2 : ((fun x => xs[x]?) ∘ fun x => i + x) = fun m => xs[i + m]? := rfl
 rw [e2] at this
 rw [this]
theorem getItem_tuple_cut {t sl : Addr} {items : Array Value} {vl vu : Value} {lo hi : Option Int} {Q : Value -> Shared -> Prop} (ht : IsTup s.heap t items) (hs : s.heap.IsSliceOf sl vl vu .none) (pl : IsPart vl lo) (pu : IsPart vu hi)
 (hw : ¬ (sIx items.size 0 lo = 0 /\ sIx items.size items.size hi = items.size))
 (h : Q (.ref s.heap.objs.size) { s with heap := s.heap.push { cls := .type "tuple", data := .seq ((items.toList.drop (sIx items.size 0 lo)).take (sIx items.size items.size hi - sIx items.size 0 lo)).toArray } })
 (hsz : items.size <= sizeLine) : wpAny (model prog w) A (getItem (.ref t) (.ref sl)) Q E s := by
 have htake : sizeOk (.seq ((items.toList.drop (sIx items.size 0 lo)).take (sIx items.size items.size hi - sIx items.size 0 lo)).toArray) := by
  show ((items.toList.drop (sIx items.size 0 lo)).take (sIx items.size items.size hi - sIx items.size 0 lo)).toArray.size <= sizeLine
  rw [List.size_toArray, List.length_take, List.length_drop, Array.length_toList]
  omega
 have hj : sIx items.size items.size hi <= items.size := Ez _ _ (Nat.le_refl _) hi
 obtain ⟨os, hos, hcs, hds⟩ := id hs
 have hTs : s.TypeIs (.ref sl) "slice" := ⟨os, hos, hcs⟩
 unfold getItem
 try with_reducible refine wpAny_holding ?_
 first | refine wpAny_bind (wpAny_pure ?_) | skip
 refine wpAny_bind (wpAny_sequenceKey ht.typeIs (by decide) ?_)
 refine wpAny_bind (wpAny_callSpecial?_slot (name := Str.ofString "__getitem__") ht.typeIs PyProof.Rows.slot_tuple_getitem
  (wpAny_call_entry PyProof.Rows.slot_tuple_getitem ht.typeIs entry_tuple_getitem ?_ (args_tuple_getitem _ _)))
 show wpAny _ _ (Builtin.Tuple.tupleItemsOf (.ref t) >>= _) _ _ s
 refine wpAny_bind (tupleItemsOf_ ht ?_)
 refine wpAny_bind (wpAny_typeOf hTs ?_)
 rw [if_pos (by decide)]
 refine wpAny_bind (oM hs pl pu ?_)
 have hno : ¬ ((((sIx items.size 0 lo : Nat) : Int) == 0 && (1 : Int) == 1 && (sIx items.size items.size hi - sIx items.size 0 lo) == items.size) = true) := by
  intro q
  rw [Bool.and_eq_true, Bool.and_eq_true] at q
  have q1 : ((sIx items.size 0 lo : Nat) : Int) = 0 := eq_of_beq q.1.1
  have q2 : sIx items.size items.size hi - sIx items.size 0 lo = items.size := eq_of_beq q.2
  exact hw ⟨by omega, by omega⟩
 show wpAny _ _ (if (((sIx items.size 0 lo : Nat) : Int) == 0 && (1 : Int) == 1 && (sIx items.size items.size hi - sIx items.size 0 lo) == items.size) = true then _ else _) _ _ s
 rw [if_neg hno, AE]
 first
  | exact wpAny_bind (m := Builtin.Tuple.tupleExact _) (wpAny_newObj_type (wpAny_pure ⟨_, rfl, wpAny_pure h⟩) htake)
  | exact wpAny_bind (m := Builtin.Tuple.tupleExact _) (wpAny_newObj_type (wpAny_bind (wpAny_pure (wpAny_pure ⟨_, rfl, wpAny_pure h⟩))) htake)
  | exact wpAny_bind (wpAny_bind (m := Builtin.Tuple.tupleExact _) (wpAny_newObj_type (wpAny_pure (wpAny_pure ⟨_, rfl, wpAny_pure h⟩)) htake))
  | exact wpAny_bind (wpAny_bind (m := Builtin.Tuple.tupleExact _) (wpAny_newObj_type (wpAny_pure ⟨_, rfl, wpAny_pure h⟩) htake))
end
end HT
namespace L2
open PySem PySem.Spec PyProof.Rows
abbrev TO := St -> Hp -> (Option Int -> Hp -> Prop) -> Prop
def PO (X : Cx) (e : Option Expr) (t : TO) : Prop :=
 ∀ (pins : List (Addr × Obj)) (s : Shared) (σ : St) (H : Hp) (Q : Option Int -> Hp -> Prop), Inv X pins σ H s -> t σ H Q ->
  wpAny (model X.prog X.w) X.A (evalPart e X.env) (fun u s' => ∃ o H', Inv X pins σ H' s' /\ IsPart u o /\ Q o H') X.xe s
def yp : TO := fun _ H Q => Q none H
def Dm (t : TE) : TO := fun σ H Q => t σ H fun x H1 => ∃ i, x = .int i /\ Q (some i) H1
theorem rQ {ns : List Int} : ∀ {us : List Value}, Vals (ns.map V.int) us -> IntsAre us ns := by
 induction ns with
 | nil => intro us r; rw [List.map_nil] at r; cases r; exact .nil
 | cons n ns ih =>
  intro us r
  rw [List.map_cons] at r
  cases r with
  | cons r1 r2 =>
   obtain ⟨t, e⟩ := r1
   subst e
   exact .cons n t (ih r2)
section
variable {X : Cx} {e : Expr} {te : TE} {lo hi : Option Expr} {tl th : TO} {pos p2 : Pos}
theorem iV : PO X none yp := by
 intro pins s σ H Q I h
 rw [evalPart_none]
 exact wpAny_pure ⟨none, H, I, .none, h⟩
theorem dZ (h : PE X e te) : PO X (some e) (Dm te) := by
 intro pins s σ H Q I hw
 rw [evalPart_some]
 refine thn (h pins s σ H _ I hw) fun u s1 ⟨x, H1, I1, r1, q1⟩ => ?_
 obtain ⟨i, rfl, q⟩ := q1
 obtain ⟨t, rfl⟩ := r1
 exact ⟨some i, H1, I1, .int i t, q⟩
def SlR (X : Cx) (r : V -> Option Int -> Option Int -> Hp -> VK -> Prop) : Prop :=
 ∀ (pins : List (Addr × Obj)) (s : Shared) (σ : St) (H : Hp) (x : V) (v vl vu : Value) (lo hi : Option Int) (sl : Addr) (Q : VK), Inv X pins σ H s -> RelV x v -> s.heap.IsSliceOf sl vl vu .none -> IsPart vl lo -> IsPart vu hi -> r x lo hi H Q ->
  ∃ T id, typeLookup (.type T) "__getitem__" = pure (some (.builtin id)) /\ s.TypeIs v T /\ wpAny (model X.prog X.w) X.A (getItem v (.ref sl)) (EP X pins σ Q) X.xe s
def tSl (r : V -> Option Int -> Option Int -> Hp -> VK -> Prop) (te : TE) (tl th : TO) : TE := fun σ H Q => te σ H fun x H1 => tl σ H1 fun l H2 => th σ H2 fun u H3 => r x l u H3 Q
theorem d6 {r : V -> Option Int -> Option Int -> Hp -> VK -> Prop} (hr : SlR X r) (he : PE X e te) (hl : PO X lo tl) (hu : PO X hi th) : PE X (.Subscript e (.Slice lo hi none p2) pos) (tSl r te tl th) := by
 intro pins s σ H Q I h
 refine Subscript_ (thn (he pins s σ H _ I h) fun v s1 ⟨x, H1, I1, r1, q1⟩ => ?_)
 refine wpAny_Slice (thn (hl pins s1 σ H1 _ I1 q1) fun vl s2 ⟨l, H2, I2, pl, q2⟩ => thn (hu pins s2 σ H2 _ I2 q2) fun vu s3 ⟨u, H3, I3, pu, q3⟩ => ?_)
 rw [evalPart_none]
 refine wpAny_pure ?_
 have I4 : Inv X pins σ H3 { s3 with heap := s3.heap.push { cls := .type "slice", data := .fields #[vl, vu, .none] } } := I3.kept (t' := s3.toks) fun b ob q => Heap.get?_push_of_some _ q
 obtain ⟨T, id, hT, ht, hg⟩ := hr pins { s3 with heap := s3.heap.push { cls := .type "slice", data := .fields #[vl, vu, .none] } } σ H3 x v vl vu l u s3.heap.objs.size Q I4 r1 (Heap.IsSliceOf.new ..) pl pu q3
 show wpAny (model X.prog X.w) X.A (subscriptTail e (.Slice lo hi none p2) v (.ref s3.heap.objs.size)) (EP X pins σ Q) X.xe { s3 with heap := s3.heap.push { cls := .type "slice", data := .fields #[vl, vu, .none] } }
 exact tail_any (ops := [.ref s3.heap.objs.size, v]) ht hT hg (by with_unfolding_all rfl)
def fX (xs : List V) (lo hi : Option Int) : List V := (xs.drop (HT.sIx xs.length 0 lo)).take (HT.sIx xs.length xs.length hi - HT.sIx xs.length 0 lo)
theorem pR (xs : List V) (lo hi : Option Int) : (fX xs lo hi).length <= xs.length := by
 unfold fX
 rw [List.length_take, List.length_drop]
 omega
def Ga (K : W.Frag) : V -> Option Int -> Option Int -> Hp -> VK -> Prop := fun x lo hi H Q => ∃ a xs, x = .ref a /\ SqT K H a xs /\
 ¬ (HT.sIx xs.length 0 lo = 0 /\ HT.sIx xs.length xs.length hi = xs.length) /\ ∀ p, H p = none -> Q (.ref p) (upd H p (.tup (fX xs lo hi)))
theorem D_ : SlR X (Ga X.K) := by
 intro pins s σ H x v vl vu lo hi sl Q I rx hs pl pu h
 obtain ⟨a, xs, rfl, hx, hw, q⟩ := h
 cases rx
 obtain ⟨its, r, ht, hz⟩ := I.tuple hx
 have hlen : its.toArray.size = xs.length := by rw [List.size_toArray]; exact r.length.symm
 refine ⟨"tuple", _, PyProof.Rows.slot_tuple_getitem.lookup, ht.typeIs, ?_⟩
 refine HT.getItem_tuple_cut ht hs pl pu (by rw [hlen]; exact hw) ?_ (by rw [hlen]; exact hz)
 rw [hlen]
 refine ⟨.ref s.heap.objs.size, _, I.laid (t' := s.toks) (o := .tup (fX xs lo hi)) (fun b ob q => Heap.get?_push_of_some _ q) (Nat.le_refl _) ?_, rfl, q _ (I.hok.fresh (Nat.le_refl _))⟩
 exact ⟨Nat.le_trans (pR xs lo hi) hz, _, (r.drop (HT.sIx xs.length 0 lo)).take (HT.sIx xs.length xs.length hi - HT.sIx xs.length 0 lo), IsTup.new _ _⟩
def FT (K : W.Frag) : R2 := fun x y H Q => ∃ a b xs ys, x = .ref a /\ y = .ref b /\ SqT K H a xs /\ SqT K H b ys /\ xs ≠ [] /\ xs.length + ys.length <= sizeLine /\
 (ys = [] -> Q (.ref a) H) /\ (ys ≠ [] -> ∀ p, H p = none -> Q (.ref p) (upd H p (.tup (xs ++ ys))))
theorem Vals.nil_iff {xs : List V} {us : List Value} (r : Vals xs us) : us = [] ↔ xs = [] := by
 cases r with
 | nil => simp
 | cons _ _ => simp
theorem CC : OpR X (binaryOp .Add) (FT X.K) := by
 intro pins s σ H x y v u Q I rx ry h
 obtain ⟨a, b, xs, ys, rfl, rfl, ha, hb, hx, hz, q1, q2⟩ := h
 cases rx
 cases ry
 obtain ⟨its, r1, p1, _⟩ := I.tuple ha
 obtain ⟨its2, r2, p2, _⟩ := I.tuple hb
 refine HT.cat_tup p1 p2 (fun z => hx (r1.nil_iff.mp z)) (fun z => ⟨.ref a, H, I, rfl, q1 (r2.nil_iff.mp z)⟩) (fun z => ?_) (by rw [<- r1.length, <- r2.length]; exact hz)
 refine ⟨.ref s.heap.objs.size, _, I.laid (t' := s.toks) (o := .tup (xs ++ ys)) (fun b ob q => Heap.get?_push_of_some _ q) (Nat.le_refl _) ?_, rfl, q2 (fun w => z (r2.nil_iff.mpr w)) _ (I.hok.fresh (Nat.le_refl _))⟩
 exact ⟨by rw [List.length_append]; exact hz, _, r1.append r2, IsTup.new _ _⟩
end
end L2
namespace L2
open PySem PySem.Spec PyProof.Rows
def ixN (n : Nat) (i : Int) : Option Nat := if 0 <= i then (if i < n then some i.toNat else none) else if -(n : Int) <= i then some (i + n).toNat else none
def atI {α : Type} (xs : List α) (i : Int) : Option α := (ixN xs.length i).bind fun j => xs[j]?
theorem yA {n : Nat} {i : Int} {j : Nat} (h : ixN n i = some j) : seqIndex? i n = some j /\ j < n /\ -(n : Int) <= i /\ i < n := by
 unfold ixN at h
 by_cases h0 : 0 <= i
 ·rw [if_pos h0] at h
  by_cases h1 : i < n
  ·rw [if_pos h1] at h
   have e : i.toNat = j := Option.some.inj h
   exact ⟨by rw [seqIndex_of h0 h1, e], by omega, by omega, h1⟩
  ·rw [if_neg h1] at h; cases h
 ·rw [if_neg h0] at h
  by_cases h1 : -(n : Int) <= i
  ·rw [if_pos h1] at h
   have e : (i + n).toNat = j := Option.some.inj h
   exact ⟨by rw [seqIndex_neg (by omega) h1, e], by omega, h1, by omega⟩
  ·rw [if_neg h1] at h; cases h
theorem ug {α : Type} {xs : List α} {i : Int} {v : α} (h : atI xs i = some v) : ∃ j, seqIndex? i xs.length = some j /\ xs[j]? = some v /\ j < xs.length /\ -(xs.length : Int) <= i /\ i < xs.length := by
 unfold atI at h
 cases e : ixN xs.length i with
 | none => rw [e] at h; cases h
 | some j =>
  rw [e] at h
  obtain ⟨h1, h2, h3, h4⟩ := yA e
  exact ⟨j, h1, h, h2, h3, h4⟩
theorem aH {α : Type} {xs : List α} {j : Nat} {v : α} (h : xs[j]? = some v) : atI xs (j : Int) = some v := by
 have hj : j < xs.length := (List.getElem?_eq_some_iff.mp h).1
 have e : ixN xs.length (j : Int) = some j := by
  unfold ixN
  rw [if_pos (by omega), if_pos (by omega)]; simp
 unfold atI; rw [e]; exact h
theorem vY {α : Type} (xs : List α) (v : α) : atI (xs ++ [v]) (-1) = some v := by
 have hl : (xs ++ [v]).length = xs.length + 1 := by simp
 have e : ixN (xs ++ [v]).length (-1) = some xs.length := by
  unfold ixN
  rw [hl, if_neg (by decide), if_pos (by omega)]
  congr 1
  omega
 unfold atI
 rw [e]
 show (xs ++ [v])[xs.length]? = some v
 simp
def yX (b : Expr) : Prop := ∀ o i, subscripted b false o i = operate [o, i] (getItem o i)
def IxR (X : Cx) (r : R2) : Prop :=
 ∀ (value slice : Expr) (pins : List (Addr × Obj)) (s : Shared) (σ : St) (H : Hp) (x y : V) (v u : Value) (Q : VK), Inv X pins σ H s -> RelV x v -> RelV y u -> r x y H Q ->
  subscripted slice false v u = operate [v, u] (getItem v u) -> wpAny (model X.prog X.w) X.A (subscriptTail value slice v u) (EP X pins σ Q) X.xe s
def MtR (X : Cx) (id : String) (r : V -> List V -> Hp -> VK -> Prop) : Prop :=
 ∀ (pins : List (Addr × Obj)) (s : Shared) (σ : St) (H : Hp) (x : V) (xs : List V) (v : Value) (us : List Value) (Q : VK), Inv X pins σ H s -> RelV x v -> Vals xs us -> r x xs H Q ->
  wpAny (model X.prog X.w) X.A (call (.builtin id) (v :: us)) (EP X pins σ Q) X.xe s
section
variable {X : Cx} {a b : Expr} {ta tb : TE} {pos : Pos}
theorem IxR.or {r r' : R2} (h : IxR X r) (h' : IxR X r') : IxR X (fun x y H Q => r x y H Q \/ r' x y H Q) := by
 intro value slice pins s σ H x y v u Q I rx ry q hs
 rcases q with q | q
 ·exact h value slice pins s σ H x y v u Q I rx ry q hs
 ·exact h' value slice pins s σ H x y v u Q I rx ry q hs
theorem aP {r : R2} (hr : IxR X r) (ha : PE X a ta) (hb : PE X b tb) (hs : yX b) : PE X (.Subscript a b pos) (tOp r ta tb) := by
 intro pins s σ H Q I h
 exact Subscript_ (EN ha hb I h fun v u s2 x y H2 I2 rx ry q => hr a b pins s2 σ H2 x y v u Q I2 rx ry q (hs _ _))
def F8 (K : W.Frag) : R2 := fun x y H Q => ∃ p xs i v, x = .ref p /\ y = .int i /\ SqL K H p xs /\ atI xs i = some v /\ Q v H
def Gf (K : W.Frag) : R2 := fun x y H Q => ∃ p xs i v, x = .ref p /\ y = .int i /\ SqT K H p xs /\ atI xs i = some v /\ Q v H
def Gj : R2 := fun x y H Q => ∃ z i c, x = .str z /\ y = .int i /\ z.length <= sizeLine /\ atI z.cps.toList i = some c /\ Q (.str ⟨#[c]⟩) H
theorem xZ : IxR X (F8 X.K) := by
 intro value slice pins s σ H x y v u Q I rx ry h hs
 obtain ⟨p, xs, i, z, rfl, rfl, hq, he, q⟩ := h
 cases rx
 obtain ⟨t, rfl⟩ := ry
 obtain ⟨its, r, pl, hz⟩ := I.list hq
 obtain ⟨j, h1, h2, h3, h4, h5⟩ := ug he
 obtain ⟨w, ew, rw'⟩ := r.get h2
 have hl := r.length
 have hn := oh
 have fin : EP X pins σ Q w s := ⟨z, H, I, rw', q⟩
 by_cases h0 : 0 <= i
 ·have hj : i.toNat = j := by
   rw [seqIndex_of h0 h5] at h1
   exact Option.some.inj h1
  exact item_listR pl.isList h0 (by omega) (by rw [hj]; simpa using ew) fin hs
 ·have hj : (i + (its.toArray.size : Int)).toNat = j := by
   rw [seqIndex_neg (by omega) h4] at h1
   rw [List.size_toArray, <- hl]
   exact Option.some.inj h1
  exact subscriptTail_builtinR (x := w) pl.isList.typeIs slot_list_getitem.lookup
   (wpAny_getItem_list_neg (Q := fun r s' => r = w /\ EP X pins σ Q r s') pl.isList (by omega) (by rw [List.size_toArray] <;> omega) (by omega) (by rw [hj]; simpa using ew) ⟨rfl, fin⟩) hs
theorem ET : IxR X (Gf X.K) := by
 intro value slice pins s σ H x y v u Q I rx ry h hs
 obtain ⟨p, xs, i, z, rfl, rfl, hq, he, q⟩ := h
 cases rx
 obtain ⟨t, rfl⟩ := ry
 obtain ⟨its, r, pl, hz⟩ := I.tuple hq
 obtain ⟨j, h1, h2, h3, h4, h5⟩ := ug he
 obtain ⟨w, ew, rw'⟩ := r.get h2
 have hl := r.length
 have hn := oh
 have fin : EP X pins σ Q w s := ⟨z, H, I, rw', q⟩
 exact subscriptTail_builtinR (x := w) pl.typeIs slot_tuple_getitem.lookup
  (getItem_tuple (j := j) (Q := fun r s' => r = w /\ EP X pins σ Q r s') pl (by omega) (by omega) (by rw [List.size_toArray, <- hl]; exact h1) (by simpa using ew) ⟨rfl, fin⟩) hs
theorem Fc : IxR X Gj := by
 intro value slice pins s σ H x y v u Q I rx ry h hs
 obtain ⟨z, i, c, rfl, rfl, hz, he, q⟩ := h
 obtain ⟨t, rfl⟩ := rx
 obtain ⟨t', rfl⟩ := ry
 obtain ⟨j, h1, h2, h3, h4, h5⟩ := ug he
 have hl : z.cps.toList.length = z.length := by simp [Str.length]
 rw [hl] at h1 h4 h5
 have hn := oh
 exact tail_any (typeIs_str s z t) slot_str_getitem.lookup (getItem_str (c := c) (by
  have e1 : decide (i < -(2 ^ 63 : Int)) = false := decide_eq_false (by omega)
  have e2 : decide (i ≥ 2 ^ 63) = false := decide_eq_false (by omega)
  rw [e1, e2, Bool.or_false]) (by rw [h1]; simpa using h2) ⟨.str ⟨#[c]⟩, H, I.tok _, ⟨_, rfl⟩, q⟩) hs
def rIx (K : W.Frag) : R2 := fun x y H Q => F8 K x y H Q \/ Gf K x y H Q \/ Gj x y H Q
theorem Eh : IxR X (rIx X.K) := xZ.or (ET.or Fc)
theorem xR (its : List Value) (n j : Nat) (u : Value) : Obj.mapSeq (·.setIfInBounds j u) { cls := .type "list", data := .seq its.toArray n } = { cls := .type "list", data := .seq (its.set j u).toArray n } := by
 simp [Obj.mapSeq]
theorem Inv.lst {pins : List (Addr × Obj)} {σ : St} {H : Hp} {s : Shared} {p : Addr} {xs : List V} (I : Inv X pins σ H s) (h : H p = some (.lst xs)) :
 ∃ (its : List Value) (n : Nat), Vals xs its /\ s.heap.get? p = some { cls := .type "list", data := .seq its.toArray n } /\ xs.length <= sizeLine := by
 obtain ⟨z, its, n, r, e⟩ := I.hok p _ h
 exact ⟨its, n, r, e, z⟩
theorem Inv.lstUpd {pins : List (Addr × Obj)} {σ : St} {H : Hp} {s : Shared} {p : Addr} {xs ys : List V} {its its' : List Value} {n n' : Nat} {f : Obj -> Obj} (I : Inv X pins σ H s) (h : H p = some (.lst xs))
 (ho : s.heap.get? p = some { cls := .type "list", data := .seq its.toArray n }) (hf : f { cls := .type "list", data := .seq its.toArray n } = { cls := .type "list", data := .seq its'.toArray n' }) (r : Vals ys its') (hz : ys.length <= sizeLine) (t : Nat) :
 Inv X pins σ (upd H p (.lst ys)) { s with heap := s.heap.update p f, toks := t } := by
 have e : (s.heap.update p f).get? p = some { cls := .type "list", data := .seq its'.toArray n' } := by
  rw [Heap.get?_update_self f ho (by rw [hf] <;> rfl), hf]
 refine I.write (x := p) (e := p) (by rw [h]; trivial) (.inl rfl) (fun b u hb q => (Heap.get?_update_other _ _ (Ne.symm hb)).trans q) ⟨_, e⟩ ?_
 exact ⟨hz, its', n', r, e⟩
def De : V -> V -> V -> Hp -> (Hp -> Prop) -> Prop := fun o i v H Q => ∃ p xs k j, o = .ref p /\ i = .int k /\ H p = some (.lst xs) /\ ixN xs.length k = some j /\ Q (upd H p (.lst (xs.set j v)))
theorem vx : F2 X De := by
 intro pins s σ H o i v ov iv u Q I ro ri rv h
 obtain ⟨p, xs, k, j, rfl, rfl, hp, hj, q⟩ := h
 cases ro
 obtain ⟨t, rfl⟩ := ri
 obtain ⟨its, n, r, ho, hz⟩ := I.lst hp
 obtain ⟨h1, h2, h3, h4⟩ := yA hj
 have hl := r.length
 have hn := oh
 have I' : Inv X pins σ (upd H p (.lst (xs.set j v))) { s with heap := s.heap.update p (Obj.mapSeq (·.setIfInBounds j u)) } :=
  I.lstUpd hp ho (xR its n j u) (r.set rv j) (by rw [List.length_set]; exact hz) s.toks
 by_cases h0 : 0 <= k
 ·have hk : k.toNat = j := by
   rw [seqIndex_of h0 h4] at h1
   exact Option.some.inj h1
  exact PySem.W.ki_setAt ho h0 (by omega) (by rw [List.size_toArray, <- hl]; exact h4) (by rw [hk]; exact ⟨_, I', q⟩)
 ·have hk : (k + (its.toArray.size : Int)).toNat = j := by
   rw [seqIndex_neg (by omega) h3] at h1
   rw [List.size_toArray, <- hl]
   exact Option.some.inj h1
  exact PySem.W.ki_setBack ho (by omega) (by rw [List.size_toArray, <- hl]; exact h3) (by omega) (by rw [hk]; exact ⟨_, I', q⟩)
theorem uz (lo hi : Option Int) (n : Nat) : (sliceBounds lo hi none n).1 = ((HT.sIx n 0 lo : Nat) : Int) /\ (sliceBounds lo hi none n).2.1 = ((HT.sIx n n hi : Nat) : Int) /\ (sliceBounds lo hi none n).2.2 = 1 := by
 refine ⟨?_, ?_, rfl⟩
 ·cases lo with
  | none => simp [sliceBounds, HT.sIx]
  | some i =>
   simp only [sliceBounds, HT.sIx, Option.getD_none, show (1 : Int) > 0 by decide, if_true]
   by_cases h : i < 0
   ·simp only [h, if_true] <;> omega
   ·simp only [h, if_false] <;> omega
 ·cases hi with
  | none => simp [sliceBounds, HT.sIx]
  | some i =>
   simp only [sliceBounds, HT.sIx, Option.getD_none, show (1 : Int) > 0 by decide, if_true]
   by_cases h : i < 0
   ·simp only [h, if_true] <;> omega
   ·simp only [h, if_false] <;> omega
theorem sE (its : List Value) (lo hi : Option Int) : slicePick its.toArray lo hi none = ((its.drop (HT.sIx its.length 0 lo)).take (HT.sIx its.length its.length hi - HT.sIx its.length 0 lo)).toArray := by
 obtain ⟨h1, h2, h3⟩ := uz lo hi its.toArray.size
 unfold slicePick
 rw [h1, h2, h3]
 simp only [sliceRange_one, pick_run, List.size_toArray] <;> rfl
def Gd (K : W.Frag) : V -> Option Int -> Option Int -> Hp -> VK -> Prop := fun x lo hi H Q => ∃ a xs, x = .ref a /\ SqL K H a xs /\ ∀ p, H p = none -> Q (.ref p) (upd H p (.lst (fX xs lo hi)))
theorem Ck : SlR X (Gd X.K) := by
 intro pins s σ H x v vl vu lo hi sl Q I rx hs pl pu h
 obtain ⟨a, xs, rfl, hx, q⟩ := h
 cases rx
 obtain ⟨its, r, ht, hz⟩ := I.list hx
 have hlen := r.length
 refine ⟨"list", _, slot_list_getitem.lookup, ht.isList.typeIs, ?_⟩
 refine wpAny_getItem_list_slice ht.isList hs pl pu .none (by simp) ?_ (by rw [List.size_toArray] <;> omega)
 rw [sE, <- hlen]
 refine ⟨.ref s.heap.objs.size, _, I.laid (t' := s.toks) (o := .lst (fX xs lo hi)) (fun b ob q => Heap.get?_push_of_some _ q) (Nat.le_refl _) ?_, rfl, q _ (I.hok.fresh (Nat.le_refl _))⟩
 exact ⟨Nat.le_trans (pR xs lo hi) hz, _, 0, (r.drop (HT.sIx xs.length 0 lo)).take (HT.sIx xs.length xs.length hi - HT.sIx xs.length 0 lo), Heap.get?_push_size _ rfl⟩
def cC : V -> Bool
 | .non => true
 | .bl _ => true
 | .int _ => true
 | .str _ => true
 | _ => false
def eqV : V -> V -> Bool
 | .non, .non => true
 | .bl a, .bl b => a == b
 | .bl a, .int b => (if a then 1 else 0) == b
 | .int a, .bl b => a == (if b then 1 else 0)
 | .int a, .int b => a == b
 | .str a, .str b => a == b
 | _, _ => false
theorem Ax {A : Around} {s : Shared} {y x : V} {u v : Value} (ry : RelV y u) (rx : RelV x v) (fy : cC y = true) (fx : cC x = true) : SeqAt.EqAt A s u v (eqV y x) := by
 cases y with
 | non =>
  cases ry
  cases x with
  | non => cases rx; exact SeqAt.EqAt.same _
  | bl b => cases rx; exact SeqAt.EqAt.none_bool b
  | int b => obtain ⟨t, rfl⟩ := rx; exact SeqAt.EqAt.none_int b t
  | str b => obtain ⟨t, rfl⟩ := rx; exact SeqAt.EqAt.none_str b t
  | _ => exact absurd (show false = true from fx) Bool.false_ne_true
 | bl a =>
  cases ry
  cases x with
  | non => cases rx; exact SeqAt.EqAt.bool_none a
  | bl b => cases rx; exact SeqAt.EqAt.bool_bool a b
  | int b => obtain ⟨t, rfl⟩ := rx; exact SeqAt.EqAt.bool_int a b t
  | str b => obtain ⟨t, rfl⟩ := rx; exact SeqAt.EqAt.bool_str a b t
  | _ => exact absurd (show false = true from fx) Bool.false_ne_true
 | int a =>
  obtain ⟨t', rfl⟩ := ry
  cases x with
  | non => cases rx; exact SeqAt.EqAt.int_none a t'
  | bl b => cases rx; exact SeqAt.EqAt.int_bool a t' b
  | int b => obtain ⟨t, rfl⟩ := rx; exact SeqAt.EqAt.int_int a t' b t
  | str b => obtain ⟨t, rfl⟩ := rx; exact SeqAt.EqAt.int_str a t' b t
  | _ => exact absurd (show false = true from fx) Bool.false_ne_true
 | str a =>
  obtain ⟨t', rfl⟩ := ry
  cases x with
  | non => cases rx; exact SeqAt.EqAt.str_none a t'
  | bl b => cases rx; exact SeqAt.EqAt.str_bool a t' b
  | int b => obtain ⟨t, rfl⟩ := rx; exact SeqAt.EqAt.str_int a t' b t
  | str b => obtain ⟨t, rfl⟩ := rx; exact SeqAt.EqAt.str_str a t' b t
  | _ => exact absurd (show false = true from fx) Bool.false_ne_true
 | _ => exact absurd (show false = true from fy) Bool.false_ne_true
theorem CallR.or {f : Value} {r r' : List V -> Hp -> VK -> Prop} (h : CallR X f r) (h' : CallR X f r') : CallR X f (fun xs H Q => r xs H Q \/ r' xs H Q) := by
 intro pins s σ H xs us Q I rs q
 rcases q with q | q
 ·exact h pins s σ H xs us Q I rs q
 ·exact h' pins s σ H xs us Q I rs q
theorem uv : CallR X (.type "list") (fun xs H Q => ∃ p ys, xs = [.ref p] /\ (SqL X.K H p ys \/ SqT X.K H p ys) /\ ∀ l, H l = none -> Q (.ref l) (upd H l (.lst ys))) := by
 intro pins s σ H xs us Q I r h
 obtain ⟨p, ys, rfl, hq, q⟩ := h
 obtain ⟨u, rfl, rx⟩ := gi r
 cases rx
 have fin : ∀ (its : List Value), Vals ys its -> ys.length <= sizeLine -> ∀ (h' : Heap) (c' : Nat), (∀ b o', s.heap.get? b = some o' -> h'.get? b = some o') ->
  h'.get? s.heap.objs.size = some { cls := .type "list", dict := none, data := .seq its.toArray c', slots := #[] } -> EP X pins σ Q (.ref s.heap.objs.size) { s with heap := h' } := fun its r' hz h' c' kp e =>
  ⟨.ref s.heap.objs.size, _, I.laid (t' := s.toks) kp (Nat.le_refl _) (show ObjOk X.prog X.w _ h' _ (.lst ys) from ⟨hz, its, c', r', e⟩), rfl, q _ (I.hok.fresh (Nat.le_refl _))⟩
 rcases hq with hq | hq
 ·obtain ⟨its, r', pl, hz⟩ := I.list hq
  have hlen := r'.length
  obtain ⟨o, ho, hc, n, hd⟩ := pl.isList
  exact call_list_seq p (.inl rfl) ho hc hd (fun h' c' kp e => fin its r' hz h' c' kp e) (by simp only [List.size_toArray] <;> omega)
 ·obtain ⟨its, r', pl, hz⟩ := I.tuple hq
  have hlen := r'.length
  obtain ⟨o, ho, hc, n, hd⟩ := pl
  exact call_list_seq p (.inr rfl) ho hc hd (fun h' c' kp e => fin its r' hz h' c' kp e) (by simp only [List.size_toArray] <;> omega)
theorem sC : CallR X (.type "tuple") (fun xs H Q => ∃ p ys, xs = [.ref p] /\ ((SqL X.K H p ys /\ ∀ l, H l = none -> Q (.ref l) (upd H l (.tup ys))) \/ (SqT X.K H p ys /\ Q (.ref p) H))) := by
 intro pins s σ H xs us Q I r h
 obtain ⟨p, ys, rfl, h⟩ := h
 obtain ⟨u, rfl, rx⟩ := gi r
 cases rx
 rcases h with ⟨hq, q⟩ | ⟨hq, q⟩
 ·obtain ⟨its, r', pl, hz⟩ := I.list hq
  have hlen := r'.length
  refine call_tuple_list pl.isList (fun h' kp => ?_) (by simp only [List.size_toArray] <;> omega)
  have I1 : Inv X pins σ H { s with heap := h' } := I.kept (t' := s.toks) kp
  have I2 : Inv X pins σ (upd H h'.objs.size (.tup ys)) { s with heap := h'.push { cls := .type "tuple", data := .seq its.toArray } } :=
   I1.laid (t' := s.toks) (fun b o e => Heap.get?_push_of_some _ e) (Nat.le_refl _) (show ObjOk X.prog X.w _ _ _ (.tup ys) from ⟨hz, its, r', IsTup.new _ _⟩)
  exact ⟨.ref h'.objs.size, _, I2, rfl, q _ (I1.hok.fresh (Nat.le_refl _))⟩
 ·obtain ⟨its, r', pl, hz⟩ := I.tuple hq
  exact call_tuple_same pl ⟨.ref p, H, I, rfl, q⟩
def tyV (K : W.Frag) (T : String) (x : V) (H : Hp) : Prop := match x with
 | .str _ => T = "str"
 | .int _ => T = "int"
 | .ref p => (T = "list" /\ ∃ xs, SqL K H p xs) \/ (T = "tuple" /\ ∃ o, K.lookup p = some o /\ o.cls = .type "tuple" /\ o.dict = none) \/
  (T = "dict" /\ ((∃ kvs, H p = some (.dK kvs)) \/ ∃ kvs, H p = some (.dT kvs))) \/ (T = "set" /\ ∃ S n, H p = some (.set S n))
 | _ => False
theorem AV {pins : List (Addr × Obj)} {σ : St} {H : Hp} {s : Shared} {T : String} {x : V} {v : Value} (I : Inv X pins σ H s) (r : RelV x v) (ty : tyV X.K T x H) :
 s.TypeIs v T /\ ∀ a, v = .ref a -> ∃ ob, s.heap.get? a = some ob /\ ob.dict = none := by
 cases x with
 | str z =>
  obtain ⟨t, rfl⟩ := r
  cases (show T = "str" from ty)
  exact ⟨typeIs_str s z t, fun _ e => nomatch e⟩
 | int i =>
  obtain ⟨t, rfl⟩ := r
  cases (show T = "int" from ty)
  exact ⟨typeIs_int s i t, fun _ e => nomatch e⟩
 | ref p =>
  cases r
  rcases ty with ⟨rfl, xs, hq⟩ | ⟨rfl, o, hk, hc, hd⟩ | ⟨rfl, hk⟩ | ⟨rfl, S, n, hk⟩
  ·obtain ⟨its, _, pl, _⟩ := I.list hq
   refine ⟨pl.isList.typeIs, fun a e => ?_⟩
   cases e
   obtain ⟨o, n, e, c, hd, _⟩ := pl
   exact ⟨o, e, hd⟩
  ·refine ⟨⟨o, I.kIn p o hk, hc⟩, fun a e => ?_⟩
   cases e
   exact ⟨o, I.kIn _ o hk, hd⟩
  ·have z : ∃ o, s.heap.get? p = some o /\ o.ExactDict := by
    rcases hk with ⟨kvs, hk⟩ | ⟨kvs, hk⟩
    ·obtain ⟨_, _, _, _, o, _, _, e, ex, _⟩ := I.hok p _ hk
     exact ⟨o, e, ex⟩
    ·obtain ⟨_, _, _, _, o, _, _, e, ex, _⟩ := I.hok p _ hk
     exact ⟨o, e, ex⟩
   obtain ⟨o, e, ex⟩ := z
   refine ⟨⟨o, e, ex.1⟩, fun a e2 => ?_⟩
   cases e2
   exact ⟨o, e, ex.2.1⟩
  ·obtain ⟨o, _, _, _, e, ex, _⟩ := I.hok p _ hk
   refine ⟨⟨o, e, ex.1⟩, fun a e2 => ?_⟩
   cases e2
   exact ⟨o, e, ex.2.1⟩
 | _ => exact False.elim ty
def DY (K : W.Frag) (T : String) (r : V -> List V -> Hp -> VK -> Prop) (to : TE) : TE := fun σ H Q => to σ H fun x H1 => tyV K T x H1 /\ r x [] H1 Q
def tBM (K : W.Frag) (T : String) (r : V -> List V -> Hp -> VK -> Prop) (to : TE) (t : TA) : TE := fun σ H Q => to σ H fun x H1 => tyV K T x H1 /\ t σ H1 fun xs H2 => r x xs H2 Q
variable {o e : Expr} {es : List Expr} {to : TE} {t : TA} {name : Str} {apos cpos : Pos} {T id : String} {r : V -> List V -> Hp -> VK -> Prop}
theorem Eb (pa : PlainAttrs T) (slot : Slot T name id) (hty : typeOf (.builtin id) = pure (.type "method_descriptor")) (hm : MtR X id r) (ho : PE X o to)
 (hbase : attributeBase o name X.env (eval o X.env) = eval o X.env := by rfl) (hline : (apos.endLine == cpos.line) = true := by rfl) : PE X (.Call (.Attribute o name apos) [] [] cpos) (DY X.K T r to) := by
 intro pins s σ H Q I h
 refine wpAny_Call_method0_late hbase hline (thn (ho pins s σ H _ I h) fun v s1 ⟨x, H1, I1, r1, ty, q1⟩ => ?_)
 obtain ⟨h1, h2⟩ := AV I1 r1 ty
 exact ⟨T, id, pa, slot, hty, h1, h2, Calls.callWith_builtin rfl (PySem.evalArgs_none (hm pins s1 σ H1 x [] v [] Q I1 r1 .nil q1))⟩
theorem FK (pa : PlainAttrs T) (slot : Slot T name id) (hty : typeOf (.builtin id) = pure (.type "method_descriptor")) (hm : MtR X id r) (ho : PE X o to) (ha : PA X (e :: es) t)
 (hbase : attributeBase o name X.env (eval o X.env) = eval o X.env := by rfl)
 (hfew : ((backTo cpos (starEach (e :: es) X.env)).all (fun x => !x.1) && (backToKw cpos (keywordEach [] X.env)).all (fun x => x.1.isSome)
  && decide ((e :: es).length + ([] : List Keyword).length + (if ([] : List Keyword).isEmpty then 0 else 1) < 30)) = true := by rfl)
 (hline : (apos.endLine == cpos.line) = true := by rfl) (hs : starEach (e :: es) X.env = (false, eval e X.env) :: starEach es X.env := by rfl) (hplain : (backTo cpos (starEach es X.env)).any (·.1) = false := by rfl) :
 PE X (.Call (.Attribute o name apos) (e :: es) [] cpos) (tBM X.K T r to t) := by
 intro pins s σ H Q I h
 refine wpAny_Call_method_late hbase hfew hline rfl (thn (ho pins s σ H _ I h) fun v s1 ⟨x, H1, I1, r1, ty, q1⟩ => ?_)
 obtain ⟨h1, h2⟩ := AV I1 r1 ty
 refine ⟨T, id, pa, slot, hty, h1, h2, ?_⟩
 have hA := ha cpos pins s1 σ H1 _ I1 q1
 rw [hs] at hA ⊢
 refine Calls.callWith_builtin (by show (false || (backTo cpos (starEach es X.env)).any (·.1)) = false; rw [hplain] <;> rfl) (Calls.evalArgs_plain ?_)
 exact thn hA fun us s2 ⟨vs, H2, I2, r2, q2⟩ => hm pins s2 σ H2 x vs v us Q I2 r1 r2 q2
end
end L2
namespace L2
open PySem PySem.Spec PyProof.Rows
def MtM (X : Cx) (id : String) (r : V -> List V -> Hp -> VK -> Prop) : Prop :=
 ∀ (pins : List (Addr × Obj)) (s : Shared) (σ : St) (H : Hp) (x : V) (xs : List V) (v : Value) (us : List Value) (Q : VK), Inv X pins σ H s -> RelV x v -> Vals xs us -> r x xs H Q ->
  wpAny (model X.prog X.w) X.A (call (.builtin id) (v :: us)) (EP X pins σ Q) X.xe s
theorem Vals.one : ∀ {x : V} {us : List Value}, Vals [x] us -> ∃ u, us = [u] /\ RelV x u
 | _, _, .cons r .nil => ⟨_, rfl, r⟩
theorem Vals.zero : ∀ {us : List Value}, Vals [] us -> us = []
 | _, .nil => rfl
theorem Vals.dropLast {xs : List V} {us : List Value} (h : Vals xs us) : Vals xs.dropLast us.dropLast := by
 induction h with
 | nil => exact .nil
 | cons r t ih =>
  cases t with
  | nil => exact .nil
  | cons q t' => exact .cons r ih
theorem Vals.rep {xs : List V} {us : List Value} (h : Vals xs us) : ∀ k : Nat, Vals (List.replicate k xs).flatten (List.replicate k us).flatten
 | 0 => .nil
 | k + 1 => by
  rw [List.replicate_succ, List.replicate_succ, List.flatten_cons, List.flatten_cons]
  exact Vals.append h (Vals.rep h k)
theorem xA {α : Type} (l : List α) : l.eraseIdx (l.length - 1) = l.dropLast := by
 induction l with
 | nil => rfl
 | cons a r ih =>
  cases r with
  | nil => rfl
  | cons b r =>
   have e : (a :: b :: r).length - 1 = ((b :: r).length - 1) + 1 := by
    have h1 : (a :: b :: r).length = r.length + 2 := rfl
    have h2 : (b :: r).length = r.length + 1 := rfl
    omega
   rw [e, List.eraseIdx_cons_succ, ih]
   all_goals rfl
theorem sI (its : List Value) : ∀ (k : Nat) (acc : List Value),
 List.foldl (fun x1 x2 => x1 ++ x2) acc.toArray (List.replicate k its.toArray) = (acc ++ (List.replicate k its).flatten).toArray
 | 0, acc => by simp
 | k + 1, acc => by
  have e : acc.toArray ++ its.toArray = (acc ++ its).toArray := by simp
  have e2 : (acc ++ its) ++ (List.replicate k its).flatten = acc ++ (List.replicate (k + 1) its).flatten := by
   rw [List.replicate_succ, List.flatten_cons, List.append_assoc]
  rw [<- e2, <- sI its k (acc ++ its), <- e, List.replicate_succ, List.foldl_cons]
section
variable {X : Cx} {pins : List (Addr × Obj)} {σ : St} {H : Hp} {s : Shared} {l b : Addr} {xs ys zs : List V}
theorem Inv.lset {its its' : List Value} {n : Nat} {f : Array Value -> Array Value} {t' : Nat} (I : Inv X pins σ H s) (hH : H l = some (.lst xs))
 (e : s.heap.get? l = some { cls := .type "list", data := .seq its.toArray n }) (hf : f its.toArray = its'.toArray) (hv : Vals ys its') (hz : ys.length <= sizeLine) :
 Inv X pins σ (upd H l (.lst ys)) { s with heap := s.heap.update l (Obj.mapSeq f), toks := t' } := by
 have q := PySem.IsL.update e f
 rw [hf] at q
 refine I.write (x := l) (e := l) (by rw [hH]; exact trivial) (.inl rfl) (fun b' u hb hu => (Heap.get?_update_other s.heap (Obj.mapSeq f) (Ne.symm hb)).trans hu) ⟨_, q⟩ ?_
 exact ⟨hz, its', _, hv, q⟩
theorem Inv.lnew {its : List Value} {t' : Nat} (I : Inv X pins σ H s) (hv : Vals ys its) (hz : ys.length <= sizeLine) :
 Inv X pins σ (upd H s.heap.objs.size (.lst ys)) { s with heap := s.heap.push { cls := .type "list", data := .seq its.toArray }, toks := t' } :=
 I.laid (fun _ _ q => Heap.get?_push_of_some _ q) (Nat.le_refl _) ⟨hz, its, 0, hv, Heap.get?_push_size _ rfl⟩
theorem Inv.fresh (I : Inv X pins σ H s) : H s.heap.objs.size = none := I.hok.fresh (Nat.le_refl _)
theorem Inv.lstM (I : Inv X pins σ H s) (hH : H l = some (.lst xs)) : xs.length <= sizeLine /\ ∃ (its : List Value) (n : Nat), Vals xs its /\ xs.length = its.length /\ s.heap.get? l = some { cls := .type "list", data := .seq its.toArray n } := by
 obtain ⟨z, its, n, r, e⟩ := I.hok l _ hH
 exact ⟨z, its, n, r, r.length, e⟩
theorem vk {n : Nat} (h : n <= sizeLine) : Builtin.List.listTooLong n = false := by
 unfold Builtin.List.listTooLong
 exact decide_eq_false (by omega)
end
section
variable {X : Cx}
def yB : V -> List V -> Hp -> VK -> Prop := fun x vs H Q => ∃ l xs y, x = .ref l /\ vs = [y] /\ H l = some (.lst xs) /\ xs.length < sizeLine /\ Q .non (upd H l (.lst (xs ++ [y])))
theorem eF : MtM X "list.append" yB := by
 intro pins s σ H x vs v us Q I rx rv h
 obtain ⟨l, xs, y, rfl, rfl, hH, hz, q⟩ := h
 cases rx
 obtain ⟨u, rfl, ru⟩ := rv.one
 obtain ⟨z, its, n, r, hl, e⟩ := I.lstM hH
 refine call_meets F.slot_list_append ⟨_, e, rfl⟩ F.entry_list_append (F.args_list_append_2 _ _) (PySem.list_append l its.toArray n u (by rw [List.size_toArray]; omega)) ⟨e, ?_⟩
 refine ⟨.non, _, I.lset (its' := its ++ [u]) hH e (by simp) (r.append (.cons ru .nil)) ?_, rfl, q⟩
 rw [List.length_append, List.length_singleton]
 omega
def CO : V -> List V -> Hp -> VK -> Prop := fun x vs H Q => ∃ l b xs zs, x = .ref l /\ vs = [.ref b] /\ H l = some (.lst xs) /\ H b = some (.lst zs) /\ xs.length + zs.length <= sizeLine /\ Q .non (upd H l (.lst (xs ++ zs)))
theorem Fg : MtM X "list.extend" CO := by
 intro pins s σ H x vs v us Q I rx rv h
 obtain ⟨l, b, xs, zs, rfl, rfl, hH, hB, hz, q⟩ := h
 cases rx
 obtain ⟨u, rfl, ru⟩ := rv.one
 cases ru
 obtain ⟨z, its, n, r, hl, e⟩ := I.lstM hH
 obtain ⟨z2, its2, n2, r2, hl2, e2⟩ := I.lstM hB
 have hsz : its.toArray.size + its2.toArray.size <= sizeLine := by rw [List.size_toArray, List.size_toArray]; omega
 have hlong : ¬ (!its.toArray.isEmpty && Builtin.List.listTooLong (its.toArray.size + its2.toArray.size)) = true := by
  rw [vk hsz, Bool.and_false]
  exact Bool.false_ne_true
 refine call_meets F.slot_list_extend ⟨_, e, rfl⟩ F.entry_list_extend (F.args_list_extend_2 _ _)
  (AutoSeq1.list_extend_list_list_0 l its.toArray n b its2.toArray n2 hlong (by rw [List.size_toArray]; omega) (by omega)) ⟨e, e2, ?_⟩
 refine ⟨.non, _, I.lset (its' := its ++ its2) hH e (by simp) (r.append r2) ?_, rfl, q⟩
 rw [List.length_append]
 omega
def Gz : V -> List V -> Hp -> VK -> Prop := fun x vs H Q => ∃ l xs y, x = .ref l /\ vs = [] /\ H l = some (.lst xs) /\ xs[xs.length - 1]? = some y /\ Q y (upd H l (.lst xs.dropLast))
theorem GB : MtM X "list.pop" Gz := by
 intro pins s σ H x vs v us Q I rx rv h
 obtain ⟨l, xs, y, rfl, rfl, hH, hy, q⟩ := h
 cases rx
 have hus := rv.zero
 subst hus
 obtain ⟨z, its, n, r, hl, e⟩ := I.lstM hH
 obtain ⟨u, hu, ru⟩ := r.get hy
 have hy' : its.toArray[its.toArray.size - 1]? = some u := by
  show its.toArray[its.length - 1]? = some u
  rw [<- Array.getElem?_toList, <- hl]
  exact hu
 refine call_meets F.slot_list_pop ⟨_, e, rfl⟩ F.entry_list_pop (F.args_list_pop_1 _) (MeetsSeq.list_pop_last l its.toArray n u hy' (by rw [List.size_toArray]; omega)) ⟨e, ?_⟩
 refine ⟨y, _, I.lset (its' := its.dropLast) hH e ?_ r.dropLast ?_, ru, q⟩
 ·show its.toArray.eraseIdxIfInBounds (its.toArray.size - 1) = its.dropLast.toArray
  rw [List.size_toArray, List.eraseIdxIfInBounds_toArray, xA]
 ·rw [List.length_dropLast]
  omega
def BJ : V -> List V -> Hp -> VK -> Prop := fun x vs H Q => ∃ l xs, x = .ref l /\ vs = [] /\ H l = some (.lst xs) /\ Q .non (upd H l (.lst []))
theorem AJ : MtM X "list.clear" BJ := by
 intro pins s σ H x vs v us Q I rx rv h
 obtain ⟨l, xs, rfl, rfl, hH, q⟩ := h
 cases rx
 have hus := rv.zero
 subst hus
 obtain ⟨z, its, n, r, hl, e⟩ := I.lstM hH
 refine call_meets F.slot_list_clear ⟨_, e, rfl⟩ F.entry_list_clear (F.args_list_clear_1 _) (AutoSeq1.list_clear_list_0 l its.toArray n (by rw [List.size_toArray]; omega)) ⟨e, ?_⟩
 exact ⟨.non, _, I.lset (its' := []) (ys := []) hH e rfl .nil (Nat.zero_le _), rfl, q⟩
def GL : R2 := fun x y H Q => ∃ l b xs zs, x = .ref l /\ y = .ref b /\ H l = some (.lst xs) /\ H b = some (.lst zs) /\ xs.length + zs.length <= sizeLine /\ ∀ p, H p = none -> Q (.ref p) (upd H p (.lst (xs ++ zs)))
theorem EU : OpR X (binaryOp .Add) GL := by
 intro pins s σ H x y v u Q I rx ry h
 obtain ⟨l, b, xs, zs, rfl, rfl, hH, hB, hz, q⟩ := h
 cases rx
 cases ry
 obtain ⟨z, its, n, r, hl, e⟩ := I.lstM hH
 obtain ⟨z2, its2, n2, r2, hl2, e2⟩ := I.lstM hB
 refine PySem.P.add_list e e2 ?_ (by rw [List.size_toArray, List.size_toArray]; omega)
 have ea : its.toArray ++ its2.toArray = (its ++ its2).toArray := by simp
 rw [ea]
 exact ⟨.ref _, _, I.lnew (t' := s.toks) (r.append r2) (by rw [List.length_append]; omega), rfl, q _ I.fresh⟩
def Gr : R2 := fun x y H Q => ∃ l k xs, x = .ref l /\ y = .int k /\ H l = some (.lst xs) /\ -(2 ^ 63) <= k /\ k < 2 ^ 63 /\ xs.length * k.toNat <= sizeLine /\
 ∀ p, H p = none -> Q (.ref p) (upd H p (.lst (List.replicate k.toNat xs).flatten))
theorem CS {α : Type} (xs : List α) (k : Nat) : (List.replicate k xs).flatten.length = k * xs.length := by
 induction k with
 | zero => simp
 | succ k ih => rw [List.replicate_succ, List.flatten_cons, List.length_append, ih, Nat.succ_mul, Nat.add_comm]
theorem Fd : OpR X (binaryOp .Mult) Gr := by
 intro pins s σ H x y v u Q I rx ry h
 obtain ⟨l, k, xs, rfl, rfl, hH, h1, h2, hz, q⟩ := h
 cases rx
 obtain ⟨t, rfl⟩ := ry
 obtain ⟨z, its, n, r, hl, e⟩ := I.lstM hH
 have hlen : its.toArray.size * k.toNat <= sizeLine := by rw [List.size_toArray, <- hl]; exact hz
 have hcap : ¬ its.toArray.size * k.toNat > (2 ^ 63 - 1) / 8 := by
  have : (sizeLine : Nat) <= (2 ^ 63 - 1) / 8 := by decide
  omega
 have hfit : ¬ (!Builtin.List.listFitsIndex k) = true := by
  rw [fitsIndex_both h1 h2]
  exact Bool.false_ne_true
 have hlong : ¬ Builtin.List.listTooLong (its.toArray.size * k.toNat) = true := by
  rw [vk hlen]
  exact Bool.false_ne_true
 have hnew : List.foldl (fun x1 x2 => x1 ++ x2) #[] (List.replicate (if its.toArray.isEmpty = true then 0 else k.toNat) its.toArray) = (List.replicate k.toNat its).flatten.toArray := by
  have f0 : ∀ m : Nat, List.foldl (fun x1 x2 => x1 ++ x2) #[] (List.replicate m its.toArray) = (List.replicate m its).flatten.toArray := fun m => by
   have := sI its m []
   rw [List.nil_append] at this
   exact this
  rw [f0]
  cases its with
  | nil => simp
  | cons a r' => rw [if_neg (by simp)]
 refine wpAny_binaryOp_repeat_ref (T := "list") (U := "int") (by decide) ⟨_, e, rfl⟩ (fun s' => typeIs_int s' k t) noFill_list_mul F.fills_int_mul F.slot_int_rmul repeat_list F.slot_int_index.lookup
  (call_meets F.slot_int_rmul (typeIs_int s k t) F.entry_int_rmul (F.args_int_rmul_2 _ _) (int___rmul___int_list k t l its.toArray n)
   ⟨e, rfl, ⟨_, e, rfl⟩, call_meets F.slot_list_mul ⟨_, e, rfl⟩ F.entry_list_mul (F.args_list_mul_2 _ _) (AutoListH.list___mul___list_int_3 l its.toArray n k t hfit hcap hlong) ⟨e, ?_⟩⟩)
 rw [hnew]
 exact ⟨.ref _, _, I.lnew (t' := s.toks) (r.rep k.toNat) (by rw [CS, Nat.mul_comm]; exact hz), rfl, q _ I.fresh⟩
end
section
variable {prog : Program} {w : World} {A : Around} {E : Value -> Shared -> Prop} {s : Shared}
end
section
variable {X : Cx}
end
end L2
namespace Att
open PySem PySem.W PySem.Calls PyProof.Rows
theorem qt {P : Params} {h : Heap} : ∀ (ns : List Int) (vs : List Value), WellAll P h vs (ns.map WData.int) -> IntsAre vs ns := by
 intro ns
 induction ns with
 | nil =>
  intro vs w
  rw [List.map_nil] at w
  cases w
  exact .nil
 | cons n ns ih =>
  intro vs w
  rw [List.map_cons] at w
  cases w with
  | cons a b =>
   cases a
   exact .cons _ _ (ih _ b)
theorem zd {l : OpenLaw} {n : Nat} (hn : l.most = some n) {P : Params} {h : Heap} {args : List WData} {vals : List Value}
 (hpre : l.row.toRowW.claim.pre args = true) (hwl : WellAll P h vals args) :
 ∃ a vs ns, vals = [Value.ref a] /\ args = [WData.list (ns.map WData.int)] /\ h.get? a = some { cls := .type "list", data := .seq vs.toArray } /\ IntsAre vs ns /\ ns.length <= n := by
 have hsh : WShape.hasAll [] args [.list .int] = true := (pre_splitW hpre).1
 have hc : l.pre.holds [] { args := args } = true := (pre_splitW hpre).2
 obtain ⟨d, r, rfl, h1, h2⟩ := hasAllW_cons hsh
 obtain rfl := hasAllW_nil h2
 obtain ⟨xs, rfl, h3⟩ := hasW_list h1
 obtain ⟨ns, rfl⟩ := items_int h3
 have hlen : ns.length <= n := by
  unfold OpenLaw.pre at hc
  have h4 : (WTm.not (.lt (.lit (.int (n : Int))) (.len (.arg 0)))).holds [] { args := [.list (ns.map .int)] } = true := by
   have h4 := (holds_andW hc).1
   rw [hn] at h4
   exact h4
  have h5 := condW_of h4 (w_not (w_lt w_lit (w_len_list (w_arg rfl))))
  rw [List.length_map] at h5
  refine Nat.le_of_not_lt fun q => ?_
  have q' : (n : Int) < ((ns.length : Nat) : Int) := by omega
  first
   | (rw [decide_eq_true q'] at h5; exact absurd h5 (by decide))
   | (simp at h5; omega)
 cases hwl with
 | cons w1 w2 =>
  cases w2
  cases w1 with
  | list ho hall => exact ⟨_, _, ns, rfl, rfl, ho, qt ns _ hall, hlen⟩
theorem zu (l : OpenLaw) (args : List WData) : l.row.toRowW.claim.post args (.bool true) args = true :=
 postW_of (r := l.row.toRowW) (X := (true == true))
  (show WShape.has [] (.bool true) .bool = true by first | rfl | decide | simp [WShape.has, WShape.arms, WShape.armsAll])
  (show (WTm.eq .res (.lit (.bool true))).value [] { args := args, res := some (.bool true), after := args } = some (.bool (true == true)) from w_eq_bool (w_res rfl) w_lit) rfl
theorem attach_call {l : OpenLaw} {n : Nat} {q : Program} {loose : List Str} {XP : (Str -> Option Value) -> Heap -> Prop} {YP : World -> Heap -> Prop} {d : DefRec}
 (hn : l.most = some n) (hdf : d.params.defaults = [])
 (call : ∀ (w : World) (s₀ s₁ : Shared) (mg mb : Str -> Option Value) (fa : Addr) (o : Obj) (pm cd doc : Value) (a : Addr) (vs : List Value) (ns : List Int),
  Ground q loose [] XP w s₀ mg mb s₁.heap -> YP w s₁.heap ->
  s₁.heap.get? fa = some o -> o.data = .func (docDef d.name d.params d.body d.scope pm cd doc) -> s₁.heap.CodeRec cd d.name -> mg d.name = some (.ref fa) ->
  s₁.heap.get? a = some { cls := .type "list", data := .seq vs.toArray } -> IntsAre vs ns -> ns.length <= n -> s₁.gens = #[] ->
  codeAny (model l.prog w) callerA (.call (.ref fa) ⟨[.ref a], []⟩) (fun r s' => r = .ok (.ret (.bool true)) /\ OldK s₁.heap s'.heap /\ s'.os = s₁.os /\ AllBare s'.gens) s₁) :
 WalkO q loose XP YP l.row.toRowW d [] (fun f vs => PySem.call f vs) := by
 intro w s₀ s₁ mg mb G Y fa o pm cd doc dV kV ho hd hcd hD hmg hg args vals as hpre hlay hrd hwl hlo
 obtain rfl : dV = .none := Dflts.none hD hdf
 obtain rfl : kV = .none := Dflts.noKw hD
 obtain ⟨a, vs, ns, rfl, rfl, hobj, hints, hlen⟩ := zd hn hpre hwl
 refine enter_call (codeAny_mono (call w s₀ s₁ mg mb fa o pm cd doc a vs ns G Y ho (fd_plain hd) hcd hmg hobj hints hlen hg) fun r s' hq => ?_)
 obtain ⟨rfl, h2, h3, h4⟩ := hq
 exact ⟨.inl ⟨.bool true, .bool true, [], rfl, fun _ => rfl, .bool true, zu l _, fun _ => ⟨List.Pairwise.nil, fun _ hm => (nomatch hm)⟩⟩, h2, h3, h4⟩
section
variable {prog : Program} {w : World} {A : Around} {E : Value -> Shared -> Prop} {s : Shared} {K : Frag}
end
end Att
namespace L2
open PySem PySem.Spec PyProof.Rows
theorem sN : ∀ {vs : List Value} {ns : List Int}, IntsAre vs ns -> Vals (ns.map V.int) vs
 | _, _, .nil => .nil
 | _, _, .cons n t h => .cons ⟨t, rfl⟩ (sN h)
def zM (H : Hp) : Prop := ∀ b, H b = none \/ ∃ o xs, H b = some (.frz o (.lst xs))
theorem AO {P : Program} {w : World} {K : W.Frag} {mg mb : Str -> Option Value} {CX : CXT} {k : Nat} {fa a : Addr} {fd : FuncData} {x : Str} {sp : Sp} {s₁ : Shared} {vs : List Value} {ns : List Int}
 (KX : K.In s₁.heap) (hns : s₁.heap.Ns mainGlobals mg) (hb : s₁.heap.Ns builtinsNs mb) (hbb : ∀ x : Str, x ≠ "__name__" -> mb x = bootBuiltins x) (hlim : s₁.heap.NoLimit) (hg : s₁.gens = #[])
 (ha : s₁.heap.get? a = some { cls := .type "list", data := .seq vs.toArray }) (hi : IntsAre vs ns) (hl : ns.length <= sizeLine) (hr : Room k callerA)
 (F : ∀ base : Heap, K.In base -> base.Ns mainGlobals mg -> bv P w K mg base CX k fa fd [x] sp) (hbind : ∀ (s : Shared) (u : Value), BindsTo s fd ⟨[u], []⟩ [(x, u)])
 (hsp : ∀ H : Hp, zM H -> SqL K H a (ns.map V.int) -> sp [.ref a] H (fun v _ => v = .bl true) fun _ _ _ => False)
 (hCX : ∀ H e s', CX [] H s₁ (fun _ _ _ => False) e s' -> False) :
 codeAny (model P w) callerA (.call (.ref fa) ⟨[.ref a], []⟩) (fun r s' => r = .ok (.ret (.bool true)) /\ OldK s₁.heap s'.heap /\ s'.os = s₁.os /\ AllBare s'.gens) s₁ := by
 have rv := sN hi
 have lenV := hi.length
 have core : ∀ H : Hp, zM H -> SqL K H a (ns.map V.int) -> HOk P w H s₁.heap -> (∀ b, H b ≠ none -> b = a) -> (H a ≠ none -> K.lookup a = none) ->
  codeAny (model P w) callerA (.call (.ref fa) ⟨[.ref a], []⟩) (fun r s' => r = .ok (.ret (.bool true)) /\ OldK s₁.heap s'.heap /\ s'.os = s₁.os /\ AllBare s'.gens) s₁ := by
  intro H hO hS hok hA hK
  have base_of : ∀ {b : Addr} {o : Obj}, s₁.heap.get? b = some o -> H b = none -> (uR s₁.heap H).get? b = some o := fun e n => zT e n
  have noA : ∀ {b : Addr} {o : Obj} {es : Array DictEntry} {ep : Nat}, s₁.heap.get? b = some o -> o.data = .dict es ep -> H b = none := fun {b o es ep} e d => by
   cases q : H b with
   | none => rfl
   | some u =>
    have e' : b = a := hA b (by rw [q]; simp)
    subst e'
    rw [ha] at e; cases e
    have d' : Data.seq vs.toArray _ = Data.dict es ep := d
    cases d'
  have nsK : ∀ {b : Addr} {m : Str -> Option Value}, s₁.heap.Ns b m -> (uR s₁.heap H).Ns b m := fun {b m} ⟨o, es, ep, e, d, r⟩ => ⟨o, es, ep, base_of e (noA e d), d, r⟩
  have hKb : K.In (uR s₁.heap H) := fun b o e => base_of (KX b o e) (by
   cases q : H b with
   | none => rfl
   | some u =>
    have e' : b = a := hA b (by rw [q]; simp)
    subst e'
    rw [hK (by rw [q]; simp)] at e; cases e)
  have hM : Mod K mg (uR s₁.heap H) := ⟨hKb, nsK hns, ⟨mb, nsK hb, hbb⟩, let ⟨mc, h1, h2⟩ := hlim; ⟨mc, nsK h1, h2⟩⟩
  have e0 : Env0 P w K mg (uR s₁.heap H) callerA [] s₁ H := ⟨rfl, hM, fun b o e => CZ e, Nat.le_of_eq (zC _ _), trivial, fun b hb => absurd (show b ∈ ([] : List Addr) from hb) (by simp), hok, .of_eq hg⟩
  refine codeAny_mono ((F _ hKb (nsK hns)).run callerA [] s₁ H ⟨[.ref a], []⟩ [.ref a] [.ref a] _ _ hr e0 (hbind s₁ (.ref a)) (.cons rfl .nil) (hsp H hO hS)) fun r s' h => ?_
  cases r with
  | error e => exact (hCX H e s' h).elim
  | ok fl =>
   cases fl with
   | next => exact False.elim h
   | brk => exact False.elim h
   | cont => exact False.elim h
   | ret u =>
    obtain ⟨v, H', os, bare, un, hok', r', q⟩ := h
    have q' : v = .bl true := q
    subst q'
    obtain rfl : u = Value.bool true := r'
    refine ⟨rfl, OldK.of_keep fun b o e => ?_, os, bare⟩
    cases q : H b with
    | none => exact un.keep b o e q (by intro z; exact absurd (show b ∈ ([] : List Addr) from z) (by simp)) (by simp)
    | some u =>
     rcases hO b with z | ⟨ob, xs, z⟩
     ·rw [q] at z; cases z
     ·have z2 := un.frzs b ob _ z
      obtain ⟨e1, _⟩ := hok b _ z
      obtain ⟨e2, _⟩ := hok' b _ z2
      rw [e] at e1; cases e1
      exact e2
 cases hk : K.lookup a with
 | some o =>
  have e := KX a o hk
  rw [ha] at e
  cases e
  refine core (fun _ => none) (fun _ => .inl rfl) (.inr ⟨_, vs.toArray, _, hk, rfl, rfl, rfl, by rw [List.size_toArray, lenV]; exact hl, by simpa using rv⟩) (fun b u z => by have z' : (none : Option HO) = some u := z; cases z') (fun b z => absurd rfl z) fun z => absurd rfl z
 | none =>
  refine core (fun b => if b = a then some (.frz { cls := .type "list", data := .seq vs.toArray } (.lst (ns.map V.int))) else none) (fun b => ?_) (.inl (.inr ⟨{ cls := .type "list", data := .seq vs.toArray }, if_pos rfl⟩)) (fun b u z => ?_) (fun b z => ?_) fun _ => hk
  ·by_cases hb : b = a
   ·exact .inr ⟨_, _, if_pos hb⟩
   ·exact .inl (if_neg hb)
  ·by_cases hb : b = a
   ·have z' := (if_pos hb).symm.trans z
    cases z'
    subst hb
    exact ⟨ha, by rw [List.length_map]; exact hl, vs, _, rv, ha⟩
   ·have z' := (if_neg hb).symm.trans z
    cases z'
  ·by_cases hb : b = a
   ·exact hb
   ·exact absurd (if_neg hb) z
end L2
namespace L2
open PySem PySem.Spec PyProof.Rows
theorem Cj {l : PySem.W.OpenLaw} {n k : Nat} {q : Program} {loose : List Str} {XP : (Str -> Option Value) -> Heap -> Prop} {YP : World -> Heap -> Prop} {d : DefRec} {K : Params -> W.Frag} {CX : World -> CXT} {sp : World -> Sp} {x : Str}
 (hn : l.most = some n) (hn2 : n <= sizeLine) (hdf : d.params.defaults = []) (hr : Room k callerA)
 (hY : ∀ (w : World) (h : Heap), YP w h -> (K w.params).In h)
 (F : ∀ (w : World) (mg : Str -> Option Value) (fa : Addr) (h : Heap), (K w.params).In h -> h.Ns mainGlobals mg -> mg d.name = some (.ref fa) ->
  ∃ fd : FuncData, (∀ (s : Shared) (u : Value), BindsTo s fd ⟨[u], []⟩ [(x, u)]) /\
   ∀ base : Heap, (K w.params).In base -> base.Ns mainGlobals mg -> bv l.prog w (K w.params) mg base (CX w) k fa fd [x] (sp w))
 (hsp : ∀ (w : World) (H : Hp) (a : Addr) (ns : List Int), ns.length <= n -> zM H -> SqL (K w.params) H a (ns.map V.int) -> sp w [.ref a] H (fun v _ => v = .bl true) fun _ _ _ => False)
 (hCX : ∀ (w : World) (H : Hp) (s : Shared) (e : Value) (s' : Shared), CX w [] H s (fun _ _ _ => False) e s' -> False) :
 PySem.W.WalkO q loose XP YP l.row.toRowW d [] (fun f vs => PySem.call f vs) := by
 refine Att.attach_call hn hdf fun w s₀ s₁ mg mb fa o pm cd doc a vs ns G Y ho hd hcd hmg hobj hints hlen hg => ?_
 have KX := hY w _ Y
 obtain ⟨fd, hb, hF⟩ := F w mg fa _ KX G.T.g hmg
 exact AO KX G.T.g G.T.b G.T.builtins G.T.nolimit hg hobj hints (Nat.le_trans hlen hn2) hr hF hb (fun H hO hS => hsp w H a ns hlen hO hS) fun H e s' => hCX w H s₁ e s'
end L2
namespace L2
open PySem PySem.Spec PyProof.Rows
abbrev CX0 : CXT := fun _ _ _ _ _ _ => False
structure Fun (K : W.Frag) (x qual : Str) (st : Stmt) (f : Addr) (fd : FuncData) : Prop where
 ex : ∃ (oc : Value) (od : Option Addr) (kV doc pm : Value) (an : Option Addr) (cdv ct : Value) (osl : Array (Option Value)),
  fd = PySem.W.fnOf x qual (aF st) (av st) (af st) .none kV doc pm an cdv ct /\ K.lookup f = some ⟨oc, od, .func fd, osl⟩ /\ PySem.W.codeIn K cdv qual = true
 kp : PySem.W.keepIn K (.ref f) = true
section
variable {P : Program} {w : World} {K : W.Frag} {mg : Str -> Option Value} {base : Heap}
theorem Fun.binds {x qual : Str} {st : Stmt} {f : Addr} {fd : FuncData} {ps : List Str} (F : Fun K x qual st f fd)
 (h : ∀ (kV doc pm : Value) (an : Option Addr) (cdv ct : Value) (us : List Value), us.length = ps.length -> bindArgs (PySem.W.fnOf x qual (aF st) (av st) (af st) .none kV doc pm an cdv ct) ⟨us, []⟩ = pure (ps.zip us)) : Binds K fd ps [] := by
 obtain ⟨oc, od, kV, doc, pm, an, cdv, ct, osl, rfl, lk, hcd⟩ := F.ex
 exact .all (h kV doc pm an cdv ct)
theorem xy {x qual : Str} {st : Stmt} {f : Addr} {oc : Value} {od an : Option Addr} {osl : Array (Option Value)} {kV doc pm cdv ct : Value} (l : K.lookup f = some ⟨oc, od, .func (PySem.W.fnOf x qual (aF st) (av st) (af st) .none kV doc pm an cdv ct), osl⟩)
 (c : PySem.W.codeIn K cdv qual = true) (k : PySem.W.keepIn K (.ref f) = true) : Fun K x qual st f (PySem.W.fnOf x qual (aF st) (av st) (af st) .none kV doc pm an cdv ct) := ⟨⟨oc, od, kV, doc, pm, an, cdv, ct, osl, rfl, l, c⟩, k⟩
end
section
variable {X : Cx}
end
theorem An {A B : Prop} (h : B) : if false = true then A else B := by
 rw [if_neg Bool.false_ne_true]
 exact h
theorem F6 {A B : Prop} (h : A) : if true = true then A else B := by
 rw [if_pos rfl]
 exact h
def Same (H H' : Hp) : Prop := ∀ b o, H b = some o -> H' b = some o
theorem Same.refl (H : Hp) : Same H H := fun _ _ h => h
theorem Same.trans {H H1 H2 : Hp} (a : Same H H1) (b : Same H1 H2) : Same H H2 := fun c o h => b c o (a c o h)
theorem Same.free {H H' : Hp} (e : Same H H') {l : Addr} (h : H' l = Option.none) : H l = Option.none := by
 cases q : H l with
 | none => rfl
 | some o =>
  rw [e l o q] at h
  cases h
end L2
namespace L2
open PySem PySem.Spec PyProof.Rows
def n9 : HO -> Bool
 | .dT _ => false
 | .frz _ u => n9 u
 | _ => true
def NoT (H : Hp) : Prop := ∀ a o, H a = some o -> n9 o = true
def nM : HO -> Bool
 | .lst _ => true
 | .tup _ => true
 | .dK _ => true
 | .rng _ _ => true
 | _ => false
structure Gc (H G H' : Hp) : Prop where
 a : Same H G
 b : Same G H'
 c : ∀ p o, G p = some o -> H p = some o \/ nM o = true
section
variable {P : Program} {w : World} {H G H' : Hp} {h h' : Heap} {a : Addr} {o : HO}
theorem ObjOk.gc (n : n9 o = true) (x0 : ObjOk P w H h a o) (x : ObjOk P w H' h' a o) : ObjOk P w H h' a o := by
 induction o with
 | ins C dx fs => exact ⟨x0.1, x.2⟩
 | dT kvs => cases n
 | frz ob u ih => exact ⟨x.1, ih n x0.2 x.2⟩
 | _ => exact x
theorem ObjOk.plain (n : nM o = true) (x : ObjOk P w H' h' a o) : ObjOk P w H h' a o := by
 cases o with
 | lst xs => exact x
 | tup xs => exact x
 | dK kvs => exact x
 | rng lo hi => exact x
 | _ => cases n
theorem HOk.gc (n : NoT H) (x0 : HOk P w H h) (x : HOk P w H' h') (g : Gc H G H') : HOk P w G h' := fun a o e => by
 rcases g.c a o e with q | q
 ·refine (((x0 a o q).gc (n a o q) (x a o (g.b a o e)))).stay (fun _ _ _ z => z) (fun b z => g.a _ _ z) fun b xs z => g.a _ _ z
 ·exact (x a o (g.b a o e)).plain q
theorem Same.none_of (s : Same H H') {b : Addr} (e : H' b = none) : H b = none := s.free e
theorem Un.gc {fs ex : List Addr} (u : Un fs ex H H' h h') (g : Gc H G H') : Un fs ex H G h h' :=
 ⟨u.keep, u.slot, fun b o q n hx => g.b.free (u.free b o q n hx), u.there, fun b xs q => g.a _ _ q, fun b o x q => g.a _ _ q, fun b ps q => ⟨#[], by rw [Array.append_empty]; exact g.a _ _ q⟩⟩
theorem Gc.refl : Gc H H H := ⟨Same.refl H, Same.refl H, fun _ _ e => .inl e⟩
theorem Gc.none (s : Same H H') : Gc H H H' := ⟨Same.refl H, s, fun _ _ e => .inl e⟩
theorem ak {p : Addr} (o : HO) (hp : H p = Option.none) : Same H (upd H p o) := fun b u e => by rw [ay (au e hp)]; exact e
theorem Gc.one {p : Addr} (s : Same H H') (hp : H p = Option.none) (e : H' p = some o) (n : nM o = true) : Gc H (upd H p o) H' :=
 ⟨ak o hp, fun b u z => by
  by_cases hb : b = p
  ·subst hb; rw [ai] at z; cases z; exact e
  ·rw [ay hb] at z; exact s b u z, fun b u z => by
  by_cases hb : b = p
  ·subst hb; rw [ai] at z; cases z; exact .inr n
  ·rw [ay hb] at z; exact .inl z⟩
theorem NoT.upd {p : Addr} (n : NoT H) (d : n9 o = true) : NoT (upd H p o) := fun b u z => by
 by_cases hb : b = p
 ·subst hb; rw [ai] at z; cases z; exact d
 ·rw [ay hb] at z; exact n b u z
end
theorem Inv.gc {X : Cx} {pins pins' : List (Addr × Obj)} {σ σ' : St} {H G H' : Hp} {s s' : Shared} (n : NoT H) (I : Inv X pins σ H s) (J : Inv X pins' σ' H' s') (g : Gc H G H') : Inv X pins' σ' G s' :=
 ⟨J.ok, J.os, J.bare, ⟨J.base.keep, J.base.slot, fun b o q z hx => g.b.free (J.base.free b o q z hx), J.base.there, fun b xs q => g.a _ _ (I.base.tups b xs q), fun b o x q => g.a _ _ (I.base.frzs b o x q), fun b ps q => let ⟨m, e⟩ := I.base.tbls b ps q; ⟨m, g.a _ _ e⟩⟩,
  J.loc, J.cell, g.b.free J.free, fun x c e => g.b.free (J.freeC x c e), fun p hp => let ⟨e, z, r⟩ := J.pin p hp; ⟨e, g.b.free z, r⟩, HOk.gc n I.hok J.hok g, J.len⟩
def Fr (t : TT) : TT := fun σ H Q => NoT H /\ t σ H fun v H' => ∃ G, Gc H G H' /\ Q v G
theorem yZ {X : Cx} {e : Expr} {t : TT} (h : PT X e t) : PT X e (Fr t) := fun pins s σ H Q I ⟨n, q⟩ =>
 thn (h pins s σ H _ I q) fun u s1 ⟨H1, I1, G, g, q1⟩ => ⟨G, I.gc n I1 g, q1⟩
end L2
namespace L2
open PySem PySem.Spec PyProof.Rows
theorem ObjOk.at_ {P : Program} {w : World} {H : Hp} {h : Heap} {a : Addr} {o : HO} (x : ObjOk P w H h a o) : ∃ ob, h.get? a = some ob := by
 cases o with
 | lst xs => obtain ⟨_, _, _, _, e⟩ := x; exact ⟨_, e⟩
 | tup xs => obtain ⟨_, _, _, ob, e, _⟩ := x; exact ⟨_, e⟩
 | dK kvs => obtain ⟨_, _, _, _, o, _, _, e, _⟩ := x; exact ⟨_, e⟩
 | dT kvs => obtain ⟨_, _, _, _, o, _, _, e, _⟩ := x; exact ⟨_, e⟩
 | set S n => obtain ⟨o, _, _, _, e, _⟩ := x; exact ⟨_, e⟩
 | ins C dx fs => obtain ⟨_, _, _, e, _⟩ := x; exact ⟨_, e⟩
 | own y => obtain ⟨_, e⟩ := x; exact ⟨_, e⟩
 | xd fs => obtain ⟨_, ⟨_, _, _, e, _⟩, _⟩ := x; exact ⟨_, e⟩
 | rng lo hi => obtain ⟨_, _, _, e⟩ := x; exact ⟨_, e⟩
 | frz ob u => obtain ⟨e, _⟩ := x; exact ⟨_, e⟩
 | tbl ps => exact ⟨_, (show h.get? a = some _ from x)⟩
 | met f y => exact ⟨_, (show h.get? a = some _ from x)⟩
 | ext φ => obtain ⟨_, ⟨_, e⟩, _⟩ := x; exact ⟨_, e⟩
theorem HOk.none_of {P : Program} {w : World} {H : Hp} {h : Heap} {a : Addr} (x : HOk P w H h) (e : h.get? a = none) : H a = none := by
 cases q : H a with
 | none => rfl
 | some u =>
  obtain ⟨ob, z⟩ := (x a u q).at_
  rw [e] at z; cases z
def hid (h : Heap) (l : List Env) (rs : List Addr) : Heap := PySem.W.hideAll h (frs l ++ rs)
theorem lN {h : Heap} {l : List Env} {rs : List Addr} {b : Addr} {o : Obj} (e : h.get? b = some o) (h1 : b ∉ frs l) (h2 : b ∉ rs) : (hid h l rs).get? b = some o :=
 PySem.W.hideAll_get _ e fun z => (List.mem_append.mp z).elim h1 h2
theorem wX {h : Heap} {l : List Env} {rs : List Addr} {b : Addr} {o : Obj} (e : (hid h l rs).get? b = some o) : h.get? b = some o := PySem.W.of_hideAll _ e
theorem tX {h : Heap} {l : List Env} {rs : List Addr} {b : Addr} (e : b ∈ rs) : (hid h l rs).get? b = none := PySem.W.hideAll_none _ (List.mem_append_right _ e)
theorem kP {h base : Heap} {l : List Env} {rs : List Addr} (e : h.FunFrames base l) : h.FunFrames (hid h l rs) l :=
 PySem.W.funFrames_hide e fun _ he _ ha => List.mem_append_left _ (List.mem_filterMap.mpr ⟨_, he, ha⟩)
def Fly (l : List Env) (rs : List Addr) (e : Addr) (cls : Value) (h : Heap) : Prop := e ∈ rs /\ ∃ a0, Heap.FlyingW (hid h l rs) l e cls a0 h
def XE (P : Program) (w : World) : CXT := fun outer H s E ev s' => ∃ (e : Addr) (C : Value) (rs : List Addr) (H' : Hp), ev = .ref e /\ s'.os = s.os /\ AllBare s'.gens /\ Un (frs outer) [] H H' s.heap s'.heap /\
 HOk P w H' s'.heap /\ (∀ b ∈ rs, s.heap.get? b = none /\ H' b = none) /\ Fly outer rs e C s'.heap /\ E C none H'
section
variable {X : Cx} {pins : List (Addr × Obj)} {σ : St} {H : Hp} {s : Shared} {h' : Heap} {rs : List Addr}
theorem Inv.s0_none (I : Inv X pins σ H s) (hex : X.ex = []) {b : Addr} (e : s.heap.get? b = none) : X.s₀.heap.get? b = none := by
 cases q : X.s₀.heap.get? b with
 | none => rfl
 | some o =>
  obtain ⟨o', z⟩ := I.base.there b o q (by rw [hex]; simp)
  rw [e] at z; cases z
theorem Inv.noteUn (I : Inv X pins σ H s) (hex : X.ex = []) (hrs : ∀ b ∈ rs, X.s₀.heap.get? b = none)
 (stay : ∀ b o, s.heap.get? b = some o -> b ∉ frs X.stack -> b ∉ rs -> h'.get? b = some o) (up : s.heap.UpToSlots h') : Un X.fs [] X.H₀ H X.s₀.heap h' := by
 have B := I.base
 rw [hex] at B
 have nrs : ∀ b o, X.s₀.heap.get? b = some o -> b ∉ rs := fun b o e z => by rw [hrs b z] at e; cases e
 have nst : ∀ b o, X.s₀.heap.get? b = some o -> b ∉ X.fs -> b ∉ frs X.stack := fun b o e hb z => by
  rcases List.mem_cons.mp (I.stkSub b z) with q | q
  ·exact absurd (Nat.lt_of_lt_of_le (Heap.lt_size e) I.ok.above) (by rw [q]; exact Nat.lt_irrefl _)
  ·exact hb q
 refine ⟨fun b o q n hb hx => stay b o (B.keep b o q n hb hx) (nst b o q hb) (nrs b o q), fun b o q n hb hx => ?_, fun b o q n hx => B.free b o q n hx, fun b o q hx => ?_, B.tups, B.frzs, B.tbls⟩
 ·obtain ⟨sl, e1⟩ := B.slot b o q n hb hx
  obtain ⟨_, o', ho', hd⟩ := I.funs.mem hb
  rw [e1] at ho'; cases ho'
  obtain ⟨sl', e2⟩ := up b _ e1 hd
  exact ⟨sl', e2⟩
 ·obtain ⟨o', e1⟩ := B.there b o q hx
  by_cases hb : b ∈ frs X.stack
  ·obtain ⟨_, o2, ho2, hd⟩ := I.stack.mem hb
   obtain ⟨sl', e2⟩ := up b _ ho2 hd
   exact ⟨_, e2⟩
  ·exact ⟨o', stay b o' e1 hb (nrs b o q)⟩
theorem Inv.noteOk (I : Inv X pins σ H s) (hrs : ∀ b ∈ rs, H b = none) (stay : ∀ b o, s.heap.get? b = some o -> b ∉ frs X.stack -> b ∉ rs -> h'.get? b = some o) : HOk X.prog X.w H h' := fun a o e =>
 (I.hok a o e).stay (fun b u hb q => stay b u q (fun z => by
  have n := I.stkFree b z
  rcases hb with r | r
  ·rw [r, e] at n; cases n
  ·rw [r] at n; cases n) fun z => by
  have n := hrs b z
  rcases hb with r | r
  ·rw [r, e] at n; cases n
  ·rw [r] at n; cases n) (fun _ q => q) fun _ _ q => q
theorem yL {base : Heap} {l : List Env} {h h1 : Heap} {T : Addr} {oT : Obj} {ts : Array Value} (hl : h.FunFrames base l) (up : h.UpToSlots h1) (e : (hid h l rs).get? T = none) (hT : h1.get? T = some oT) (hd : oT.data = .fields ts) : h.get? T = none \/ T ∈ rs := by
 by_cases hr : T ∈ rs
 ·exact .inr hr
 ·refine .inl ?_
  cases q : h.get? T with
  | none => rfl
  | some o =>
   by_cases hf : T ∈ frs l
   ·obtain ⟨_, o2, ho2, hnf⟩ := hl.mem hf
    rw [q] at ho2; cases ho2
    obtain ⟨sl, e2⟩ := up T o q hnf
    rw [hT] at e2; cases e2
    exact absurd hd (hnf ts)
   ·rw [lN q hf hr] at e; cases e
end
section
variable {P : Program} {w : World} {K : W.Frag} {mg : Str -> Option Value} {base : Heap} {N : List Str} {qual : Str} {scope : Scope} {f : Addr} {cd : Value} {A : Around} {outer : List Env} {s₀ : Shared} {H₀ : Hp} {E : XK}
theorem wO {pins : List (Addr × Obj)} {σ : St} {H : Hp} {s : Shared} {h' : Heap} {e : Addr} {cls : Value} {args : List Value}
 (I : Inv (cS (XE P w) P w K mg base N qual scope f cd A outer s₀ H₀ E) pins σ H s) (hx : Heap.MadeExcOf s.heap h' e cls args) (q : E cls none H) :
 (cS (XE P w) P w K mg base N qual scope f cd A outer s₀ H₀ E).xe (.ref e) { s with heap := h' } := by
 show wpAny (model P w) (A.deeper (envOfC qual scope s₀.heap.objs.size f cd)) (leaving (envOfC qual scope s₀.heap.objs.size f cd) (.ref e)) (fun _ s'' => XE P w outer H₀ s₀ E (.ref e) s'') (fun e' s'' => XE P w outer H₀ s₀ E e' s'') { s with heap := h' }
 have hst : s.heap.FunFrames base (envOfC qual scope s₀.heap.objs.size f cd :: outer) := I.stack
 refine wpAny_leaves_madeW (base := hid s.heap (envOfC qual scope s₀.heap.objs.size f cd :: outer) []) (h := s.heap) I.ok.frames rfl (fun b o z => wX z) (kP hst) hx fun h'' t fl tup tn up => ?_
 obtain ⟨f1, f2, f3, oe, vs, T, oT, ts, he, hc, hd, h1, hnT, hTe, hT, hdT, h3⟩ := fl
 have up' : s.heap.UpToSlots h'' := (Heap.UpToSlots.of_keeps hx.keeps).trans up
 have nT : s.heap.get? T = none := (yL hst up' hnT hT hdT).elim id fun z => nomatch z
 have stay : ∀ b o, s.heap.get? b = some o -> b ∉ frs (envOfC qual scope s₀.heap.objs.size f cd :: outer) -> b ∉ [e, T] -> h''.get? b = some o := fun b o z hb _ => f1 b o (lN z hb fun y => nomatch y)
 have n0 : ∀ b ∈ [e, T], s.heap.get? b = none := fun b hb => by
  rcases List.mem_cons.mp hb with r | r
  ·rw [r]; exact hx.new
  ·rw [List.mem_singleton.mp r]; exact nT
 have n1 : ∀ b ∈ [e, T], s₀.heap.get? b = none := fun b hb => I.s0_none rfl (n0 b hb)
 have n2 : ∀ b ∈ [e, T], H b = none := fun b hb => I.hok.none_of (n0 b hb)
 refine ⟨e, cls, [e, T], H, rfl, I.os, I.bare, I.noteUn rfl n1 stay up', I.noteOk n2 stay, fun b hb => ⟨n1 b hb, n2 b hb⟩, ⟨.head _, .ref t, ?_⟩, q⟩
 exact ⟨fun b o z => wX z, tX (.head _), kP f3, oe, vs, T, oT, ts, he, hc, hd, h1, tX (.tail _ (.head _)), hTe, hT, hdT, h3⟩
abbrev XKs := St -> XK
def d7 (CX : CXT) (X : Cx) (E : XKs) : Prop := ∀ (pins : List (Addr × Obj)) (σ : St) (H : Hp) (s : Shared) (e : Value) (s' : Shared), Inv X pins σ H s -> CX X.stack H s (E σ) e s' -> X.xe e s'
def Bi (X : Cx) (E : XKs) : Prop := ∀ (pins : List (Addr × Obj)) (σ : St) (H : Hp) (s : Shared) (h' : Heap) (e : Addr) (cls : Value) (args : List Value), Inv X pins σ H s -> Heap.MadeExcOf s.heap h' e cls args -> E σ cls none H -> X.xe (.ref e) { s with heap := h' }
theorem fS : Bi (cS (XE P w) P w K mg base N qual scope f cd A outer s₀ H₀ E) (fun _ => E) := fun _ _ _ _ _ _ _ _ I hx q => wO I hx q
theorem aL : d7 (XE P w) (cS (XE P w) P w K mg base N qual scope f cd A outer s₀ H₀ E) (fun _ => E) := by
 intro pins σ H s ev s' I hq
 obtain ⟨e, C, rs, H', rfl, os, bare, un, hok, hrs, ⟨her, a0, fl⟩, q⟩ := hq
 have J : Inv (cS (XE P w) P w K mg base N qual scope f cd A outer s₀ H₀ E) pins σ H' s' := I.call' os un hok bare (fun b z => nomatch z)
 show wpAny (model P w) (A.deeper (envOfC qual scope s₀.heap.objs.size f cd)) (leaving (envOfC qual scope s₀.heap.objs.size f cd) (.ref e)) (fun _ s'' => XE P w outer H₀ s₀ E (.ref e) s'') (fun e' s'' => XE P w outer H₀ s₀ E e' s'') s'
 have hst : s'.heap.FunFrames base (envOfC qual scope s₀.heap.objs.size f cd :: outer) := J.stack
 refine wpAny_leaves_onW (base := hid s'.heap (envOfC qual scope s₀.heap.objs.size f cd :: outer) rs) I.ok.frames rfl fl fun h'' fl' up => ?_
 obtain ⟨f1, f2, f3, oe, vs, T, oT, ts, he, hc, hd, h1, hnT, hTe, hT, hdT, h3⟩ := fl'
 have nT := yL hst up hnT hT hdT
 have stay : ∀ b o, s'.heap.get? b = some o -> b ∉ frs (envOfC qual scope s₀.heap.objs.size f cd :: outer) -> b ∉ T :: rs -> h''.get? b = some o := fun b o z hb hr => f1 b o (lN z hb fun y => hr (.tail _ y))
 have n1 : ∀ b ∈ T :: rs, s₀.heap.get? b = none := fun b hb => by
  rcases List.mem_cons.mp hb with r | r
  ·rw [r]
   rcases nT with z | z
   ·exact J.s0_none rfl z
   ·exact I.s0_none rfl (hrs T z).1
  ·exact I.s0_none rfl (hrs b r).1
 have n2 : ∀ b ∈ T :: rs, H' b = none := fun b hb => by
  rcases List.mem_cons.mp hb with r | r
  ·rw [r]
   rcases nT with z | z
   ·exact hok.none_of z
   ·exact (hrs T z).2
  ·exact (hrs b r).2
 refine ⟨e, C, T :: rs, H', rfl, J.os, J.bare, J.noteUn rfl n1 stay up, J.noteOk n2 stay, fun b hb => ⟨n1 b hb, n2 b hb⟩, ⟨.tail _ her, a0, ?_⟩, q⟩
 exact ⟨fun b o z => wX z, tX (.tail _ her), kP f3, oe, vs, T, oT, ts, he, hc, hd, h1, tX (.head _), hTe, hT, hdT, h3⟩
end
def xG (sp : Sp) (dvs : List V) (E : XKs) (t : TA) : TE := fun σ H Q => t σ H fun vs H1 => sp (vs ++ dvs) H1 Q (E σ)
section
variable {X : Cx} {CX : CXT} {k : Nat} {f C : Addr} {fd : FuncData} {ps : List Str} {sp : Sp} {dvs : List V} {ds : List Value} {E : XKs} {x m : Str} {p pos apos : Pos} {e o : Expr} {es : List Expr} {ta : TE} {t : TA}
theorem uf {pins : List (Addr × Obj)} {σ : St} {H : Hp} {s : Shared} {Q : VK} {us : List Value} {vs : List V} (F : bv X.prog X.w X.K X.mg X.base CX k f fd ps sp) (hr : Room k X.A) (hb : Binds X.K fd ps ds) (hd : Vals dvs ds) (hx : d7 CX X E)
 (I : Inv X pins σ H s) (r : Vals vs us) (h : sp (vs ++ dvs) H Q (E σ)) : wpAny (model X.prog X.w) X.A (call (.ref f) us) (EP X pins σ Q) X.xe s := by
 have r2 : Vals (vs ++ dvs) (us ++ ds) := r.append hd
 have hl : (us ++ ds).length = ps.length := by rw [<- r2.length]; exact F.len _ _ _ _ h
 refine wpAny_call (codeAny_mono (F.run X.A X.stack s H ⟨us, []⟩ (us ++ ds) (vs ++ dvs) Q (E σ) hr I.env0 (hb s us I.kIn hl) r2 h) fun r s' hq => ?_)
 cases r with
 | error e => exact hx pins σ H s e s' I hq
 | ok fl =>
  cases fl with
  | ret u => exact I.after hq
  | next => exact False.elim hq
  | brk => exact False.elim hq
  | cont => exact False.elim hq
theorem ar (F : bv X.prog X.w X.K X.mg X.base CX k f fd ps sp) (hr : Room k X.A) (hg : Gl X x) (hm : X.mg x = some (.ref f)) (hk : PySem.W.keepIn X.K (.ref f) = true) (hb : Binds X.K fd ps ds) (hd : Vals dvs ds) (hx : d7 CX X E)
 (ha : PA X (e :: es) t) (hdb : (x == ("__debug__" : Str)) = false := by decide) (he : starEach (e :: es) X.env = (false, eval e X.env) :: starEach es X.env := by rfl) (hpl : (backTo pos (starEach es X.env)).any (·.1) = false := by rfl) :
 PE X (.Call (.Name x p) (e :: es) [] pos) (xG sp dvs E t) := by
 intro pins s σ H Q I h
 refine wpAny_Call_Name_kw (iS I hg hm ?_ hdb)
 refine PySem.W.callWith_K (h₀ := X.base) I.ok.mod.kin hk (thn (ha pos pins s σ H _ I h) fun us s1 ⟨vs, H1, I1, r, q⟩ => ⟨I1.kIn, ?_⟩) he hpl
 exact uf F hr hb hd hx I1 r q
end
section
variable {P : Program} {w : World} {K : W.Frag} {mg : Str -> Option Value} {base : Heap}
theorem Fun.okX {x qual : Str} {st : Stmt} {f : Addr} {fd : FuncData} {N ps : List Str} {k : Nat} {sp : Sp} (F : Fun K x qual st f fd) (S : aG N ps (af st)) (len : ∀ vs H Q E, sp vs H Q E -> vs.length = ps.length)
 (hbody : ∀ (cdv : Value) (A : Around) (outer : List Env) (s : Shared) (H : Hp) (vs : List V) (Q : VK) (E : XK), Room k (A.deeper (envOfC qual (af st) s.heap.objs.size f cdv)) -> sp vs H Q E ->
  ∃ t, PSs (cS (XE P w) P w K mg base N qual (af st) f cdv A outer s H E) (av st) t /\ t { nx := fun _ H' => Q .non H', rt := Q } (fo N vs) H) : bv P w K mg base (XE P w) (k + 1) f fd ps sp := by
 obtain ⟨oc, od, kV, doc, pm, an, cdv, ct, osl, rfl, lk, hcd⟩ := F.ex
 exact FN lk hcd S len fun A outer s H vs Q E hr hsp => hbody cdv A outer s H vs Q E hr hsp
end
theorem CL {K : W.Frag} {h : Heap} {C : Addr} {bmB : List Value} {newId : String} (X : K.In h) (q : PySem.W.excIn K C bmB newId = true) :
 ∃ bm N nm qn bs hdct sn sub ab col dd k0 k1 k2 k3 k5 mN, h.get? C = some (excClassObj nm qn C N bs bm hdct sn sub ab col dd k0 k1 k2 k3 k5 newId) /\ h.Ns N mN /\ mN "__init__" = none /\ OwnTail h bmB bm := by
 unfold PySem.W.excIn at q
 split at q
 ·rename_i dd cd sl ho
  split at q
  ·rename_i C' bm k0 k1 k2 k3 n k5 hm hs
   simp only [Bool.and_eq_true, beq_iff_eq, Bool.not_eq_true'] at q
   obtain ⟨⟨⟨⟨⟨rfl, rfl⟩, hdel⟩, ht⟩, hok⟩, hni⟩ := q
   obtain ⟨nm, bs, mro, ns, qn, hd, sn, sub, ab, col, del⟩ := cd
   dsimp only at hm hdel hok hni
   subst hm hdel
   have hsl : sl = #[k0, k1, k2, k3, some (.builtin n), k5] := by
    obtain ⟨l⟩ := sl
    simp only at hs
    rw [hs]
   subst hsl
   exact ⟨bm, ns, nm, qn, bs, hd, sn, sub, ab, col, dd, k0, k1, k2, k3, k5, _, X _ _ ho, .of_isNs (PySem.W.isNs_of_in X hok), PySem.W.nsMap_none_of_in X hok hni, PySem.W.tail_of_in X ht⟩
  ·cases q
 ·cases q
def AW (C : Addr) (E : XKs) (t : TA) : TS := fun _ σ H => t σ H fun vs H1 => vs.length <= sizeLine /\ E σ (.ref C) none H1
theorem d4 {X : Cx} {x : Str} {C : Addr} {bmB : List Value} {B newId initId : String} {E : XKs} {e : Expr} {es : List Expr} {t : TA} {np cpos pos : Pos} (O : PySem.W.excIn X.K C bmB newId = true) (FB : ExcBaseFacts B newId initId bmB)
 (hc : X.calm = true) (hg : Gl X x) (hm : X.mg x = some (.ref C)) (hx : Bi X E) (ha : PA X (e :: es) t) (hdb : (x == ("__debug__" : Str)) = false := by decide)
 (he : starEach (e :: es) X.env = (false, eval e X.env) :: starEach es X.env := by rfl) (hpl : (backTo cpos (starEach es X.env)).any (·.1) = false := by rfl) :
 PS X (.Raise (some (.Call (.Name x np) (e :: es) [] cpos)) none pos) (AW C E t) := by
 intro pins s σ H D I h
 obtain ⟨tl, N, nm, q, bs, hdct, sn, sub, ab, col, dd, k0, k1, k2, k3, k5, mN, hC, hN, hni, T⟩ := CL I.mod.kin O
 refine wpAny_Raise_call_subT (C := C) (nm := nm) (q := q) (N := N) (bs := bs) (bm := tl) (hdct := hdct) (sn := sn) (sub := sub) (ab := ab) (col := col) (dd := dd) (k0 := k0) (k1 := k1) (k2 := k2) (k3 := k3) (k5 := k5)
  FB (mN := mN) (T.hasType FB.hasBase) (I.ok.hd hc) (by rw [he]; show (false || (backTo cpos (starEach es X.env)).any (·.1)) = false; rw [hpl]; rfl) hni (iS I hg hm ⟨rfl, ?_⟩ hdb)
 have hA := ha cpos pins s σ H _ I h
 rw [he] at hA ⊢
 refine Calls.evalArgs_plain (thn hA fun us s1 ⟨vs, H1, I1, r, hz, q1⟩ => ⟨rfl, by rw [<- r.length]; exact hz, I1.bk _ _ hC, hN.keeps I1.bk, T.keeps I1.bk, fun h' e' hm' => ?_⟩)
 exact hx pins σ H1 s1 h' e' (.ref C) us I1 hm' q1
end L2
namespace L2
open PySem PySem.Spec PyProof.Rows
section
variable {X : Cx} {pins : List (Addr × Obj)} {σ : St} {H : Hp} {s : Shared} {h' : Heap} {rs : List Addr}
theorem Inv.noted {t' : Nat} (I : Inv X pins σ H s) (hrs : ∀ b ∈ rs, X.s₀.heap.get? b = none /\ H b = none) (hpin : ∀ p ∈ X.pn ++ pins, p.1 ∉ rs)
 (stay : ∀ b o, s.heap.get? b = some o -> b ∉ frs X.stack -> b ∉ rs -> h'.get? b = some o) (up : s.heap.UpToSlots h') : Inv X pins σ H { s with heap := h', toks := t' } := by
 have B := I.base
 have cellK : ∀ c v, s.heap.IsCell c v -> h'.IsCell c v := fun c v ⟨o, ho, hd⟩ => by
  obtain ⟨sl, e⟩ := up c o ho fun vs q => by rw [hd] at q; cases q
  exact ⟨_, e, hd⟩
 have nrs : ∀ b o, X.s₀.heap.get? b = some o -> b ∉ rs := fun b o e z => by rw [(hrs b z).1] at e; cases e
 have nst : ∀ b o, X.s₀.heap.get? b = some o -> b ∉ X.fs -> b ∉ frs X.stack := fun b o e hb z => by
  rcases List.mem_cons.mp (I.stkSub b z) with q | q
  ·exact absurd (Nat.lt_of_lt_of_le (Heap.lt_size e) I.ok.above) (by rw [q]; exact Nat.lt_irrefl _)
  ·exact hb q
 refine ⟨I.ok, I.os, I.bare, ⟨fun b o q n hb hx => stay b o (B.keep b o q n hb hx) (nst b o q hb) (nrs b o q), fun b o q n hb hx => ?_, fun b o q n hx => B.free b o q n hx, fun b o q hx => ?_, B.tups, B.frzs, B.tbls⟩, ?_, fun x c e => ?_, I.free, I.freeC, fun p hp => ?_, I.noteOk (fun b hb => (hrs b hb).2) stay, I.len⟩
 ·obtain ⟨sl, e1⟩ := B.slot b o q n hb hx
  obtain ⟨_, o', ho', hd⟩ := I.funs.mem hb
  rw [e1] at ho'; cases ho'
  obtain ⟨sl', e2⟩ := up b _ e1 hd
  exact ⟨sl', e2⟩
 ·obtain ⟨o', e1⟩ := B.there b o q hx
  by_cases hb : b ∈ frs X.stack
  ·obtain ⟨_, o2, ho2, hd⟩ := I.stack.mem hb
   obtain ⟨sl', e2⟩ := up b _ ho2 hd
   exact ⟨_, e2⟩
  ·exact ⟨o', stay b o' e1 hb (nrs b o q)⟩
 ·obtain ⟨m, hn, hl⟩ := I.loc
  refine ⟨m, up.ns hn, fun i x v e1 e2 e3 => ?_⟩
  obtain ⟨u, r, l⟩ := hl i x v e1 e2 e3
  refine ⟨u, r, ?_⟩
  rcases l with l | ⟨k, c, e, z⟩
  ·exact .inl l
  ·exact .inr ⟨k, c, e, cellK c _ z⟩
 ·obtain ⟨v, z⟩ := I.cell x c e
  exact ⟨v, cellK c v z⟩
 ·obtain ⟨e, n, ne, nf, d⟩ := I.pin p hp
  exact ⟨stay p.1 p.2 e (fun z => (List.mem_cons.mp (I.stkSub _ z)).elim ne nf) (hpin p hp), n, ne, nf, d⟩
theorem Inv.track {a : Addr} {o : HO} (I : Inv X pins σ H s) (hn : H a = none) (h0 : X.s₀.heap.get? a = none) (hL : a ≠ X.env.locals) (hc : ∀ x c, X.env.cells.lookup x = some c -> c ≠ a) (hp : ∀ p ∈ X.pn ++ pins, p.1 ≠ a)
 (new : ObjOk X.prog X.w (upd H a o) s.heap a o) : Inv X pins σ (upd H a o) s := by
 have B := I.base
 refine ⟨I.ok, I.os, I.bare, ⟨B.keep, B.slot, fun b ob q n hx => ?_, B.there, fun b xs q => ?_, fun b ob xs q => ?_, fun b ps q => ?_⟩, I.loc, I.cell, ?_, fun x c e => ?_, fun p hp' => ?_, fun b u e => ?_, I.len⟩
 ·have : b ≠ a := fun z => by rw [z, h0] at q; cases q
  rw [ay this]; exact B.free b ob q n hx
 ·have e := B.tups b xs q
  rw [ay (au e hn)]; exact e
 ·have e := B.frzs b ob xs q
  rw [ay (au e hn)]; exact e
 ·obtain ⟨m, e⟩ := B.tbls b ps q
  exact ⟨m, by rw [ay (au e hn)]; exact e⟩
 ·rw [ay (Ne.symm hL)]; exact I.free
 ·rw [ay (hc x c e)]; exact I.freeC x c e
 ·obtain ⟨e, n, ne, nf, d⟩ := I.pin p hp'
  exact ⟨e, by rw [ay (hp p hp')]; exact n, ne, nf, d⟩
 ·by_cases hb : b = a
  ·subst hb
   rw [ai] at e
   cases e
   exact new
  ·rw [ay hb] at e
   refine (I.hok b u e).stay (fun c v _ q => q) (fun c q => ?_) fun c xs q => ?_
   ·rw [ay (au q hn)]; exact q
   ·rw [ay (au q hn)]; exact q
theorem Cx.Ok.re (ok : X.Ok) (A' : Around) (hf : A'.frames = X.A.frames) (cm : Bool) (hh : cm = true -> A'.handled = none) (pn : List (Addr × Obj)) (xe : Value -> Shared -> Prop) : ({ X with A := A', calm := cm, pn := pn, xe := xe } : Cx).Ok :=
 ⟨ok.mod, ok.kind, ok.glob, ok.blt, ok.above, ok.inj, ok.has, ok.cab, hh, hf.trans ok.frames, ok.stk, ok.exf, ok.bs, ok.bsz, ok.noex, ok.exfs, ok.funs, ok.frf⟩
theorem Inv.toPn (I : Inv X pins σ H s) (xe : Value -> Shared -> Prop) : Inv { X with pn := X.pn ++ pins, xe := xe } [] σ H s :=
 ⟨I.ok.re X.A rfl X.calm I.ok.hd _ _, I.os, I.bare, I.base, I.loc, I.cell, I.free, I.freeC, fun p hp => I.pin p (by rw [List.append_nil] at hp; exact hp), I.hok, I.len⟩
theorem Inv.ofPn {xe : Value -> Shared -> Prop} {pins' : List (Addr × Obj)} (ok : X.Ok) (I : Inv { X with pn := X.pn ++ pins, xe := xe } pins' σ H s) : Inv X pins σ H s :=
 ⟨ok, I.os, I.bare, I.base, I.loc, I.cell, I.free, I.freeC, fun p hp => I.pin p (List.mem_append_left _ hp), I.hok, I.len⟩
abbrev Cx.caught (X : Cx) (e : Addr) : Cx := { X with A := X.A.mark (some (.ref e)), calm := false, pn := X.pn, xe := fun _ _ => False }
theorem Inv.toCaught (I : Inv X pins σ H s) (e : Addr) : Inv (X.caught e) pins σ H s :=
 ⟨I.ok.re (X.A.mark (some (.ref e))) rfl false (fun z => nomatch z) _ _, I.os, I.bare, I.base, I.loc, I.cell, I.free, I.freeC, I.pin, I.hok, I.len⟩
theorem Inv.ofCaught {e : Addr} (ok : X.Ok) (I : Inv (X.caught e) pins σ H s) : Inv X pins σ H s :=
 ⟨ok, I.os, I.bare, I.base, I.loc, I.cell, I.free, I.freeC, I.pin, I.hok, I.len⟩
theorem jZ {M : Model} {A : Around} {E : Value -> Shared -> Prop} {i : Nat} {n : Str} {pos : Pos} {Q : Unit -> Shared -> Prop} (I : Inv X pins σ H s) (hN : X.N.Nodup) (hi : X.N[i]? = some n) (hk : X.env.kindOf n = some .local)
 (h : ∀ s', Inv X pins (σ.set i none) H s' -> Q () s') : wpAny M A (do bindName X.env n .none; unbindBehindTheSuite X.env n pos) Q E s := by
 obtain ⟨m, hn, hl⟩ := id I.loc
 have hcls : (X.env.scope.kind == .class || (X.env.scope.kind == .module && X.env.locals != X.env.globals)) = false := by rw [I.ok.kind]; rfl
 have cne := I.cne
 refine wpAny_nameGoes_keeps hk hn hcls fun h' v hn' hs => ?_
 obtain ⟨oL, _, _, hoL, _⟩ := id hn
 refine h _ ⟨I.ok, I.os, I.bare, ⟨fun b o e n hb hx => ?_, fun b o e n hb hx => ?_, I.base.free, fun b o e hx => ?_, I.base.tups, I.base.frzs, I.base.tbls⟩, ⟨_, hn', fun j y v' e1 e2 e3 => ?_⟩, fun y c e => ?_, I.free, I.freeC, fun p hp => ?_, fun b ob e => ?_, by simpa using I.len⟩
 ·exact (hs.2 b (Nat.ne_of_lt (Nat.lt_of_lt_of_le (Heap.lt_size e) I.ok.above))).trans (I.base.keep b o e n hb hx)
 ·obtain ⟨sl, e1⟩ := I.base.slot b o e n hb hx
  exact ⟨sl, (hs.2 b (Nat.ne_of_lt (Nat.lt_of_lt_of_le (Heap.lt_size e) I.ok.above))).trans e1⟩
 ·obtain ⟨o', e1⟩ := I.base.there b o e hx
  exact ⟨o', (hs.2 b (Nat.ne_of_lt (Nat.lt_of_lt_of_le (Heap.lt_size e) I.ok.above))).trans e1⟩
 ·by_cases hj : j = i
  ·subst hj
   rw [List.getElem?_set] at e2
   simp at e2
  ·rw [List.getElem?_set_ne (Ne.symm hj)] at e2
   obtain ⟨u', r', q⟩ := hl j y v' e1 e2 e3
   refine ⟨u', r', ?_⟩
   rcases q with ⟨k, e⟩ | ⟨k, c, e, z⟩
   ·refine .inl ⟨k, ?_⟩
    have : y ≠ n := fun e => hj (rl hN e1 (e ▸ hi))
    simp [this, e]
   ·exact .inr ⟨k, c, e, z.sameBut hs (cne y c e)⟩
 ·obtain ⟨w', z⟩ := I.cell y c e
  exact ⟨w', z.sameBut hs (cne y c e)⟩
 ·obtain ⟨e, n, ne, nf, d⟩ := I.pin p hp
  exact ⟨(hs.2 p.1 ne).trans e, n, ne, nf, d⟩
 ·refine (I.hok b ob e).stay (fun c w' hc q => (hs.2 c ?_).trans q) (fun _ q => q) fun _ _ q => q
  rintro rfl
  rcases hc with rfl | hc
  ·rw [I.free] at e; cases e
  ·rw [I.free] at hc; cases hc
end
theorem t6 {M : Model} {A : Around} {E : Value -> Shared -> Prop} {s : Shared} {K : W.Frag} {e C D : Addr} {oe : Obj} {Q : Bool -> Shared -> Prop} (X : K.In s.heap) (he : s.heap.get? e = some oe) (hcls : oe.cls = .ref C)
 (hx : PySem.W.exmOne K (.ref C) (.ref D) = some true) (h : Q true s) : wpAny M A (excMatches (.ref e) (.ref D)) Q E s :=
 (PySem.W.exm_one (M := M) X (hcls ▸ (PySem.W.Looks.ld he).andThen .now) hx).here h
def h9 (C : Value) (e : Addr) : HO := HO.ext fun h => ∃ o vs, h.get? e = some o /\ o.cls = C /\ o.data = .fields vs
def E_ (K : W.Frag) (CH : Addr) (i : Nat) (tb : XKs -> TS) (th : TS) : TS := fun D σ H =>
 tb (fun σ' C _ H' => ∃ Ce, C = .ref Ce /\ PySem.W.exmOne K (.ref Ce) (.ref CH) = some true /\ ∀ e, H' e = none ->
  th { nx := fun σ2 H2 => D.nx (σ2.set i none) H2, rt := D.rt, bk := fun σ2 H2 => D.bk (σ2.set i none) H2, ct := fun σ2 H2 => D.ct (σ2.set i none) H2 } (σ'.set i (some (.ref e))) (upd H' e (h9 (.ref Ce) e))) D σ H
theorem E1 {X : Cx} {CH : Addr} {i : Nat} {n x : Str} {np hpos pos : Pos} {body suite : List Stmt} {b₀ : Stmt} {tb : XKs -> TS} {th : TS} (hN : X.N.Nodup) (hi : X.N[i]? = some n) (hk : X.env.kindOf n = some .local)
 (hg : Gl X x) (hm : X.mg x = some (.ref CH))
 (hex : X.ex = []) (hst : X.stack = X.env :: X.outer) (hfr : X.env.frame = some X.env.locals)
 (hb : ∀ (pn : List (Addr × Obj)) (Ee : Value -> Shared -> Prop) (Ex : XKs), d7 (XE X.prog X.w) { X with pn := pn, xe := Ee } Ex -> PSs { X with pn := pn, xe := Ee } body (tb Ex))
 (hh : ∀ e : Addr, PSs (X.caught e) (b₀ :: suite) th) (hdb : (x == ("__debug__" : Str)) = false := by decide) :
 PS X (.Try body [.ExceptHandler (some (.Name x np)) (some n) (b₀ :: suite) hpos] [] [] pos) (E_ X.K CH i tb th) := by
 intro pins s σ H D I h
 refine wpAny_Try_except ?_
 have ok := I.ok
 refine wpAny_mono (hb (X.pn ++ pins) _ _ ?hP [] s σ H D (I.toPn _) h) (fun f s1 hf => ?_) (fun _ _ z => z)
 case hP =>
  intro pins' σ' H1 s1 ev s1' I1 hq
  obtain ⟨e, C, rs, H', rfl, os, bare, un, hok, hrs, ⟨her, a0, fl⟩, ⟨Ce, rfl, hmro, hth⟩⟩ := hq
  have J1 := I1.call' os un hok bare (fun b z => nomatch z)
  have J : Inv X pins σ' H' s1' := J1.ofPn ok
  have I0 : Inv X pins σ' H1 s1 := I1.ofPn ok
  have hn0 : ∀ b ∈ rs, X.s₀.heap.get? b = none /\ H' b = none := fun b hb => by
   refine ⟨?_, (hrs b hb).2⟩
   cases q : X.s₀.heap.get? b with
   | none => rfl
   | some o =>
    obtain ⟨o', z⟩ := I0.base.there b o q (by rw [hex]; simp)
    rw [(hrs b hb).1] at z; cases z
  have hpin : ∀ p ∈ X.pn ++ pins, p.1 ∉ rs := fun p hp z => by
   have := (I0.pin p hp).1
   rw [(hrs _ z).1] at this; cases this
  have hstk : s1'.heap.FunFrames X.base (X.env :: X.outer) := by rw [<- hst]; exact J.stack
  rw [show X.stack = X.env :: X.outer from hst] at fl
  have hfrm : X.A.frames = some (X.env :: X.outer) := by rw [<- hst]; exact ok.frames
  show wpAny (model X.prog X.w) X.A (noteFrame (.ref e) X.env) _ _ s1'
  refine wpAny_looks_onW (base := hid s1'.heap (X.env :: X.outer) rs) hfrm hfr fl fun h₄ held up4 => ?_
  refine wpAny_landsW held fun h₅ fl5 up5 => ?_
  have nin : ∀ b, b ∉ frs X.stack -> b ∉ frs (X.env :: X.outer) := fun b hb => by rw [<- hst]; exact hb
  have stay5 : ∀ b o, s1'.heap.get? b = some o -> b ∉ frs X.stack -> b ∉ rs -> h₅.get? b = some o := fun b o z hb hr => fl5.1 b o (lN z (nin b hb) hr)
  have I5 : Inv X pins σ' H' { s1' with heap := h₅, toks := s1'.toks } := J.noted hn0 hpin stay5 (up4.trans up5)
  obtain ⟨ob, hob, hobc⟩ := fl5.there
  refine wpAny_handleBy_cons (codeAny_handlers_test (iS (X := X.caught e) (I5.toCaught e) hg hm (t6 I5.kIn hob hobc hmro ?_) hdb)) (by intro q; cases q)
  refine codeAny_handlers_suite_as (lands_againW fl5 fun h₆ fl6 up6 => ?_)
  have stay6 : ∀ b o, s1'.heap.get? b = some o -> b ∉ frs X.stack -> b ∉ rs -> h₆.get? b = some o := fun b o z hb hr => fl6.1 b o (lN z (nin b hb) hr)
  have I6 : Inv X pins σ' H' { s1' with heap := h₆, toks := s1'.toks } := J.noted hn0 hpin stay6 ((up4.trans up5).trans up6)
  have e1 : s1.heap.get? e = none := (hrs e her).1
  obtain ⟨oe, vs, hoe, hoec, hoed, _⟩ := fl6.first
  have I6' : Inv X pins σ' (upd H' e (h9 (.ref Ce) e)) { s1' with heap := h₆, toks := s1'.toks } := by
   refine I6.track (hrs e her).2 (hn0 e her).1 ?_ ?_ (fun p hp z => hpin p hp (by rw [z]; exact her)) ?_
   ·intro z
    obtain ⟨m, ⟨oL, _, _, hoL, _⟩, _⟩ := I0.loc
    rw [<- z, e1] at hoL; cases hoL
   ·intro x c hc z
    obtain ⟨v, o, ho, _⟩ := I0.cell x c hc
    rw [z, e1] at ho; cases ho
   ·exact ⟨⟨oe, vs, hoe, hoec, hoed⟩, ⟨oe, hoe⟩, fun h1 h2 ⟨o, ws, a1, a2, a3⟩ k => ⟨o, ws, k o a1, a2, a3⟩⟩
  refine rH (X := X.caught e) (I6'.toCaught e) hN hi (Or.inl hk) (v := .ref e) rfl (fun s7 I7 => ?_) (.inr hk)
  refine wpAny_mono (hh e pins s7 _ _ _ I7 (hth e (hrs e her).2)) (fun f s8 hf => ?_) (fun _ _ z => z.elim)
  show wpAny (model X.prog X.w) X.A (do bindName X.env n .none; unbindBehindTheSuite X.env n hpos) (fun _ s₃ => SP X pins D f s₃) X.xe s8
  cases f with
  | next =>
   obtain ⟨σ2, H2, J2, q⟩ := hf
   exact jZ (J2.ofCaught ok) hN hi hk fun s9 I9 => ⟨_, _, I9, q⟩
  | brk =>
   obtain ⟨σ2, H2, J2, q⟩ := hf
   exact jZ (J2.ofCaught ok) hN hi hk fun s9 I9 => ⟨_, _, I9, q⟩
  | cont =>
   obtain ⟨σ2, H2, J2, q⟩ := hf
   exact jZ (J2.ofCaught ok) hN hi hk fun s9 I9 => ⟨_, _, I9, q⟩
  | ret u =>
   obtain ⟨v, σ2, H2, J2, r, q⟩ := hf
   exact jZ (J2.ofCaught ok) hN hi hk fun s9 I9 => ⟨v, _, _, I9, r, q⟩
 cases f with
 | next =>
  obtain ⟨σ', H', J, q⟩ := hf
  exact wpAny_execs_nil ⟨σ', H', J.ofPn ok, q⟩
 | brk =>
  obtain ⟨σ', H', J, q⟩ := hf
  exact ⟨σ', H', J.ofPn ok, q⟩
 | cont =>
  obtain ⟨σ', H', J, q⟩ := hf
  exact ⟨σ', H', J.ofPn ok, q⟩
 | ret u =>
  obtain ⟨v, σ', H', J, r, q⟩ := hf
  exact ⟨v, σ', H', J.ofPn ok, r, q⟩
end L2
namespace L2
open PySem PySem.Spec PyProof.Rows PySem.W
inductive za : V -> Value -> Prop where
 | ty (n : String) : za (.ty n) (.type n)
 | own (a : Addr) : za (.ref a) (.ref a)
section
variable {X : Cx}
theorem vQ : CallR X (.builtin "isinstance") (fun xs H Q => ∃ x c t u b, xs = [x, c] /\ za c u /\ lc X.K H x t /\ PySem.W.kitOne X.K t u = some b /\ Q (.bl b) H) := by
 intro pins s σ H xs us Q I r h
 obtain ⟨x, c, t, u, b, rfl, rc, ty, e, q⟩ := h
 obtain ⟨ux, uc, rfl, rx, rc'⟩ := yk r
 have ec : uc = u := by
  cases rc with
  | ty n => exact rc'
  | own a => exact rc'
 subst ec
 exact zh I rx ty e fun tk => ⟨.bl b, H, I.tok _, rfl, q⟩
end
structure dh (K : Frag) (C : Addr) : Prop where
 l1 : findIn K (.ref C) "__getattribute__" = some (some (.builtin "BaseException.__getattribute__"))
 l2 : findIn K (.ref C) "__getattr__" = some none
 l3 : findIn K (.ref C) "__class__" = some (some (.builtin "object.__class__"))
 c1 : (clsIn K C).isSome = true
 m1 : mroIn K C (.type "object") = some true
 m2 : mroIn K C (.type "BaseException") = some true
section
variable {prog : Program} {w : World} {A : Around} {E : Value -> Shared -> Prop} {K : Frag} {e C : Addr} {o : Obj} {s : Shared}
open Builtin Builtin.ObjectAttr Builtin.Getset_descriptor PySem.Calls in
theorem sj {R : Result -> Shared -> Prop} {tp : Value} (X : K.In s.heap) (Z : dh K C) (hx : s.heap.get? e = some o) (hc : o.cls = .ref C)
 (h : R (.ok (.ret (.ref C))) s) : codeAny (model prog w) A (.call (.builtin "getset_descriptor.__get__") ⟨[.builtin "object.__class__", .ref e, tp], []⟩) R s := by
 obtain ⟨hh, g, dr, t, os⟩ := s
 have L0 : Looks (model prog w) hh (typeOf (.ref e)) (.ref C) := hc ▸ (Looks.ld hx).andThen .now
 have L1 := looks_mroIn (M := model prog w) X Z.m1
 refine codeAny_call_builtin KF.slot_gs.plain KF.entry_gs (KF.slot_gs.check _ _ _ _ _ _ _ _ KF.type_class (KF.args_gs _ _ _) ?_)
 unfold Builtin.«getset_descriptor.__get__» descrGet
 rw [dga_obj]
 refine wpAny_bind (wpAny_pure ?_)
 unfold descrGetter descrCheckInstance descrNameAndClass isInstance
 simp only [KF.owner_class]
 repeat lk
 refine ⟨Code.quiet_builtin _ (by decide +kernel), codeAny_builtin KF.entry_class ?_⟩
 unfold Builtin.«object.__class__» shownTypeOf
 repeat lk
 exact h
theorem uq {M : Model} {nameV : Value} {Q : Unit -> Shared -> Prop} (X : K.In s.heap) (Z : dh K C) (hx : s.heap.get? e = some o) (hc : o.cls = .ref C) (hq : Q () s) :
 wpAny M A (checkBuiltinCall "BaseException.__getattribute__" ⟨[.ref e, nameV], []⟩) Q E s := by
 have hk : builtinKind "BaseException.__getattribute__" = some .slot := by decide +kernel
 have hsplit : splitId "BaseException.__getattribute__" = some ("BaseException", "__getattribute__") := by decide +kernel
 have ha := F.args_bexc_ga (.ref e) nameV
 obtain ⟨hh, g, dr, t, os⟩ := s
 have L0 : Looks M hh (typeOf (.ref e)) (.ref C) := hc ▸ (Looks.ld hx).andThen .now
 have L1 := looks_mroIn (M := M) X Z.m2
 have LI : Looks M hh (isInstance (.ref e) (.type "BaseException")) true := L0.andThen L1
 simp only [checkBuiltinCall, hk, hsplit]
 refine wpAny_bind (LI.at ?_)
 repeat (first | assumption | wp_step)
theorem tW {tk : Tok} {Q : Fin -> Shared -> Prop} (X : K.In s.heap) (Z : dh K C) (hx : s.heap.get? e = some o) (hc : o.cls = .ref C) (hq : Q (.done (.ret (.ref C))) s) :
 wpAny (model prog w) A (Builtin.«object.__getattribute__» ⟨[.ref e, .str "__class__" tk], []⟩) Q E s := by
 obtain ⟨hh, g, dr, t, os⟩ := s
 have L0 : Looks (model prog w) hh (typeOf (.ref e)) (.ref C) := hc ▸ (Looks.ld hx).andThen .now
 have L3 := looks_findIn (M := model prog w) X Z.l3
 have f5 := KF.type_class
 have f6 := F.slot_gs_get.lookup
 have f7 := F.slot_gs_set.lookup
 repeat (any_goals (first | assumption | with_reducible refine L0.at ?_ | with_reducible refine L3.at ?_ | wp_step))
 refine sj X Z hx hc ?_
 repeat (any_goals (first | assumption | wp_step))
theorem rf {Q : Option Value -> Shared -> Prop} (X : K.In s.heap) (Z : dh K C) (hx : s.heap.get? e = some o) (hc : o.cls = .ref C) (h : Q (some (.ref C)) { s with toks := s.toks + 1 }) :
 wpAny (model prog w) A (getAttr? (.ref e) "__class__") Q E s := by
 obtain ⟨hh, g, dr, t, os⟩ := s
 have L0 : Looks (model prog w) hh (typeOf (.ref e)) (.ref C) := hc ▸ (Looks.ld hx).andThen .now
 have L1 := looks_findIn (M := model prog w) X Z.l1
 have L2 := looks_findIn (M := model prog w) X Z.l2
 have f3 := F.excAttr_ValueError.ga.bind (.ref e)
 have hx2 : (Value.builtin "BaseException.__getattribute__" == Value.builtin "object.__getattribute__") = false := by decide +kernel
 have hx0 : ∀ ex : Bool, (ex && onTheHeap (Value.builtin "BaseException.__getattribute__")) = false := fun ex => by cases ex <;> rfl
 have hx1 : (onTheHeap (Value.ref C) && Value.builtin "BaseException.__getattribute__" == Value.builtin "object.__getattribute__") = false := by rw [hx2]; rfl
 unfold getAttr?
 repeat (any_goals (first | assumption | with_reducible refine L0.at ?_ | with_reducible refine L1.at ?_ | with_reducible refine L2.at ?_ | wp_step))
 refine codeAny_call_builtin F.excAttr_ValueError.ga.plain F.entry_bexc_ga (uq X Z hx hc (tW X Z hx hc ?_))
 repeat (any_goals (first | assumption | wp_step))
theorem As (Z : dh K C) : KitX K (.ref e) (.ref C) (fun h => ∃ o, h.get? e = some o /\ o.cls = .ref C) where
 ty := fun M h _ ⟨o, h1, h2⟩ => h2 ▸ (Looks.ld h1).andThen .now
 it := fun M h X _ => by
  have c1 := Z.c1
  unfold clsIn at c1
  split at c1
  ·rename_i c' d' cd' sl' ho
   intro A' Q' E' s' k q
   unfold isType loadHead
   exact wpAny_bind (wpAny_loadPart (k _ _ (X _ _ ho)) (wpAny_pure q))
  ·cases c1
 ne := fun h tp dd its n sl X htp => by
  refine Bool.eq_false_iff.mpr fun q => ?_
  have e' : C = tp := Value.ref.inj (beq_iff_eq.mp q)
  subst e'
  have c1 := Z.c1
  unfold clsIn at c1
  split at c1
  ·rename_i c' d' cd' sl' ho
   have z := (X _ _ ho).symm.trans htp
   cases z
  ·cases c1
 ca := fun X ⟨o, h1, h2⟩ k => rf X Z h1 h2 k
end
section
variable {X : Cx}
theorem u_ : CallR X (.builtin "isinstance") (fun xs H Q => ∃ e c C u b, xs = [.ref e, c] /\ za c u /\ H e = some (h9 (.ref C) e) /\ dh X.K C /\ PySem.W.kitOne X.K (.ref C) u = some b /\ Q (.bl b) H) := by
 intro pins s σ H xs us Q I r h
 obtain ⟨e, c, C, u, b, rfl, rc, he, Z, k, q⟩ := h
 obtain ⟨ux, uc, rfl, rx, rc'⟩ := yk r
 have ec : uc = u := by
  cases rc with
  | ty n => exact rc'
  | own a => exact rc'
 subst ec
 cases (show ux = Value.ref e from rx)
 obtain ⟨⟨o, vs, h1, h2, _⟩, _, _⟩ := (show ObjOk X.prog X.w H s.heap e (h9 (.ref C) e) from I.hok e _ he)
 exact kia_one (As Z) I.kIn ⟨o, h1, h2⟩ k (fun z => nomatch z) fun tk => ⟨.bl b, H, I.tok _, rfl, q⟩
theorem tV (hc : X.calm = true) : CallR X (.builtin "sum") (fun xs H Q => ∃ (p : Addr) (ns : List Int), xs = [.ref p] /\ SqT X.K H p (ns.map V.int) /\ Q (.int ns.sum) H) := by
 intro pins s σ H xs us Q I r h
 obtain ⟨p, ns, rfl, hq, q⟩ := h
 obtain ⟨u, rfl, rx⟩ := gi r
 cases (show u = Value.ref p from rx)
 obtain ⟨its, r', pl, hz⟩ := I.tuple hq
 have hi := rQ r'
 obtain ⟨ys, hy⟩ := hi.allInts.items
 have hn : numsOf its.toArray.toList = ns := by rw [show its.toArray.toList = its from rfl, hi.numsOf]
 rw [hy] at pl hn
 rw [nums_intItems] at hn
 refine ktm_sumG (I.ok.hd hc) pl fun h' tk t' hk => ?_
 rw [preSum_eq, List.take_of_length_le (by simp), hn]
 exact ⟨.int ns.sum, H, I.kept hk, ⟨_, rfl⟩, q⟩
end
end L2
namespace L2
open PySem PySem.Spec PyProof.Rows
section
variable {X : Cx} {a b : Expr} {ta : TE}
def D5 (xs ys : List V) : Bool := (List.range (min xs.length ys.length)).all (fun j => eqV (xs.getD j .non) (ys.getD j .non)) && xs.length == ys.length
def Ci (K : W.Frag) (neg : Bool) : R2 := fun x y H Q => ∃ p p' xs ys, x = .ref p /\ y = .ref p' /\ SqT K H p xs /\ SqT K H p' ys /\ xs.all cC = true /\ ys.all cC = true /\ Q (.bl (neg ^^ D5 xs ys)) H
theorem qK {A : Around} {s : Shared} {xs ys : List V} {us vs : List Value} (r : Vals xs us) (r' : Vals ys vs) (fx : xs.all cC = true) (fy : ys.all cC = true) (j : Nat) (h1 : j < us.toArray.size) (h2 : j < vs.toArray.size) :
 SeqAt.EqAt A s us.toArray[j] vs.toArray[j] (eqV (xs.getD j .non) (ys.getD j .non)) := by
 have e1 : us[j]? = some us.toArray[j] := by simp at h1; simp [h1]
 have e2 : vs[j]? = some vs.toArray[j] := by simp at h2; simp [h2]
 have l1 : j < xs.length := by rw [r.length]; simpa using h1
 have l2 : j < ys.length := by rw [r'.length]; simpa using h2
 have g1 : xs[j]? = some (xs.getD j .non) := by simp [List.getD, l1]
 have g2 : ys[j]? = some (ys.getD j .non) := by simp [List.getD, l2]
 obtain ⟨u, hu, ru⟩ := r.get g1
 obtain ⟨v, hv, rv⟩ := r'.get g2
 rw [e1] at hu
 rw [e2] at hv
 rw [Option.some.inj hu, Option.some.inj hv]
 exact Ax ru rv (List.all_eq_true.mp fx _ (List.mem_of_getElem? g1)) (List.all_eq_true.mp fy _ (List.mem_of_getElem? g2))
theorem E9 (hu : X.A.units < cLine) : OpR X (compareOp .Eq) (Ci X.K false) := by
 intro pins s σ H x y v u Q I rx ry h
 obtain ⟨p, p', xs, ys, rfl, rfl, hx, hy, fx, fy, q⟩ := h
 cases (show v = Value.ref p from rx)
 cases (show u = Value.ref p' from ry)
 obtain ⟨its, r, pl, hz⟩ := I.tuple hx
 obtain ⟨its', r', pl', hz'⟩ := I.tuple hy
 refine SeqAt.eq_tupleAt pl pl' hu (fun j h1 h2 => qK r r' fx fy j h1 h2) ⟨.bl _, H, I, rfl, ?_⟩
 rw [List.size_toArray, List.size_toArray, <- r.length, <- r'.length]
 simpa [D5] using q
theorem DM (hu : X.A.units < cLine) : OpR X (compareOp .NotEq) (Ci X.K true) := by
 intro pins s σ H x y v u Q I rx ry h
 obtain ⟨p, p', xs, ys, rfl, rfl, hx, hy, fx, fy, q⟩ := h
 cases (show v = Value.ref p from rx)
 cases (show u = Value.ref p' from ry)
 obtain ⟨its, r, pl, hz⟩ := I.tuple hx
 obtain ⟨its', r', pl', hz'⟩ := I.tuple hy
 refine SeqAt.RcNeAt.tuples pl pl' hu (fun j h1 h2 => qK r r' fx fy j h1 h2) X.prog X.w X.xe _ ⟨.bl _, H, I, rfl, ?_⟩
 rw [List.size_toArray, List.size_toArray, <- r.length, <- r'.length]
 simpa [D5] using q
theorem DI (hu : X.A.units < cLine) : OpR X (compareOp .Eq) (fun x y H Q => rEq x y H Q \/ Ci X.K false x y H Q) := FY.or (E9 hu)
theorem EW (hu : X.A.units < cLine) : OpR X (compareOp .NotEq) (fun x y H Q => rNe x y H Q \/ Ci X.K true x y H Q) := FO.or (DM hu)
theorem zi : CallR X (.builtin "isinstance") (fun xs H Q => (∃ x c t u b, xs = [x, c] /\ za c u /\ lc X.K H x t /\ PySem.W.kitOne X.K t u = some b /\ Q (.bl b) H) \/
 ∃ e c C u b, xs = [.ref e, c] /\ za c u /\ H e = some (h9 (.ref C) e) /\ dh X.K C /\ PySem.W.kitOne X.K (.ref C) u = some b /\ Q (.bl b) H) := vQ.or u_
end
end L2
namespace L2
open PySem PySem.Spec PyProof.Rows
abbrev T (l : List Nat) : V := .str ⟨⟨l⟩⟩
def cs (x : Str) : List Nat := x.cps.toList
theorem EA (x : Str) : V.str x = T (cs x) := rfl
section
variable {X : Cx} {e a b c : Expr} {pos : Pos}
theorem PE.imp {t t' : TE} (h : PE X e t) (i : ∀ σ H Q, t' σ H Q -> t σ H Q) : PE X e t' := fun pins s σ H Q I q => h pins s σ H Q I (i σ H Q q)
theorem OpR.imp {f : Value -> Value -> Sem Value} {r r' : R2} (h : OpR X f r) (i : ∀ x y H Q, r' x y H Q -> r x y H Q) : OpR X f r' := fun pins s σ H x y v u Q I rx ry q => h pins s σ H x y v u Q I rx ry (i _ _ _ _ q)
theorem UnR.imp {f : Value -> Sem Value} {r r' : V -> Hp -> VK -> Prop} (h : UnR X f r) (i : ∀ x H Q, r' x H Q -> r x H Q) : UnR X f r' := fun pins s σ H x v Q I rx q => h pins s σ H x v Q I rx (i _ _ _ q)
theorem CallR.imp {f : Value} {r r' : List V -> Hp -> VK -> Prop} (h : CallR X f r) (i : ∀ x H Q, r' x H Q -> r x H Q) : CallR X f r' := fun pins s σ H x v Q I rx q => h pins s σ H x v Q I rx (i _ _ _ q)
theorem IxR.imp {r r' : R2} (h : IxR X r) (i : ∀ x y H Q, r' x y H Q -> r x y H Q) : IxR X r' := fun va sl pins s σ H x y v u Q I rx ry q hs => h va sl pins s σ H x y v u Q I rx ry (i _ _ _ _ q) hs
def jd (i : Nat) : TE := fun σ H Q => match σ[i]? with
 | some (some v) => Q v H
 | _ => False
theorem fv (i : Nat) {x : Str} (hN : X.N[i]? = some x := by rfl) (hv : Vis X.env.scope x := by first | exact Or.inl rfl | exact Or.inr (Or.inl rfl) | exact Or.inr (Or.inr rfl)) (hd : (x == ("__debug__" : Str)) = false := by decide)
 (hcd : (x == ("__classdict__" : Str)) = false := by decide) : PE X (.Name x pos) (jd i) := (DV hN hv hd hcd).imp fun σ H Q h => by
 unfold jd at h
 split at h
 ·exact ⟨_, by assumption, h⟩
 ·exact h.elim
theorem aB {x : Str} {j} (l : List Nat) (h : x = ⟨⟨l⟩⟩ := by decide +kernel) : PE X (.Constant (.str x) j pos) (tC (T l)) := h ▸ DC
def B5 : R2
 | .int i, .int j, H, Q => Q (.int (i + j)) H
 | .str i, .str j, H, Q => (cs i).length + (cs j).length <= sizeLine /\ Q (T (cs i ++ cs j)) H
 | _, _, _, _ => False
theorem DA (i j : Str) : V.str (i ++ j) = T (cs i ++ cs j) := by
 show V.str ⟨i.cps ++ j.cps⟩ = V.str ⟨⟨i.cps.toList ++ j.cps.toList⟩⟩
 congr 1
 congr 1
 exact (Array.ext' (by simp))
theorem aO : OpR X (binaryOp .Add) B5 := (D9.or xI).imp fun x y H Q h => by
 unfold B5 at h
 split at h
 ·exact .inl ⟨_, _, rfl, rfl, h⟩
 ·refine .inr ⟨_, _, rfl, rfl, by simpa [cs, Str.length] using h.1, ?_⟩
  rw [DA]; exact h.2
 ·exact h.elim
def gI (g : Int -> Int -> V) : R2
 | .int i, .int j, H, Q => Q (g i j) H
 | _, _, _, _ => False
def gIC (C : Int -> Int -> Prop) (g : Int -> Int -> V) : R2
 | .int i, .int j, H, Q => C i j /\ Q (g i j) H
 | _, _, _, _ => False
theorem Dz {g : Int -> Int -> V} : ∀ x y H Q, gI g x y H Q -> rI0 g x y H Q := fun x y H Q h => by
 unfold gI at h; split at h
 ·exact ⟨_, _, rfl, rfl, h⟩
 ·exact h.elim
theorem uC {C : Int -> Int -> Prop} {g : Int -> Int -> V} : ∀ x y H Q, gIC C g x y H Q -> rI C g x y H Q := fun x y H Q h => by
 unfold gIC at h; split at h
 ·exact ⟨_, _, rfl, rfl, h.1, h.2⟩
 ·exact h.elim
theorem gv : OpR X (binaryOp .Sub) (gI fun i j => .int (i - j)) := D4.imp Dz
theorem dD : OpR X (binaryOp .Mult) (gIC CMul fun i j => .int (i * j)) := Ei.imp uC
theorem aW : OpR X (binaryOp .Mod) (gIC (fun _ j => 0 < j) fun i j => .int (i % j)) := DH.imp uC
theorem aY : OpR X (binaryOp .FloorDiv) (gIC Ea fun i j => .int (i / j)) := Cb.imp uC
theorem um : OpR X (binaryOp .Pow) (gIC Ev fun i j => .int (i ^ j.toNat)) := DL.imp uC
def D6 : V -> Hp -> VK -> Prop
 | .int i, H, Q => Q (.int (-i)) H
 | _, _, _ => False
theorem kW : UnR X (unaryOp .USub) D6 := E7.imp fun x H Q h => by
 unfold D6 at h; split at h
 ·exact ⟨_, rfl, h⟩
 ·exact h.elim
def leN (a b : List Nat) : Bool := !decide (b < a)
theorem zm : OpR X (compareOp .LtE) (fun x y H Q => ∃ i j, x = .str i /\ y = .str j /\ Q (.bl (leN (cs i) (cs j))) H) := by
 intro pins s σ H x y v u Q I rx ry h
 obtain ⟨i, j, rfl, rfl, q⟩ := h
 obtain ⟨t, rfl⟩ := rx
 obtain ⟨t', rfl⟩ := ry
 exact PySem.P.le_str ⟨.bl _, H, I, rfl, q⟩
def gLe : R2
 | .int i, .int j, H, Q => Q (.bl (decide (i <= j))) H
 | .str i, .str j, H, Q => Q (.bl (leN (cs i) (cs j))) H
 | _, _, _, _ => False
theorem mB : OpR X (compareOp .LtE) gLe := (Gi.or zm).imp fun x y H Q h => by
 unfold gLe at h; split at h
 ·exact .inl ⟨_, _, rfl, rfl, h⟩
 ·exact .inr ⟨_, _, rfl, rfl, h⟩
 ·exact h.elim
def gLt : R2
 | .int i, .int j, H, Q => Q (.bl (decide (i < j))) H
 | .str i, .str j, H, Q => Q (.bl (decide (cs i < cs j))) H
 | _, _, _, _ => False
theorem y8 : OpR X (compareOp .Lt) gLt := (F1.or zJ).imp fun x y H Q h => by
 unfold gLt at h; split at h
 ·exact .inl ⟨_, _, rfl, rfl, h⟩
 ·exact .inr ⟨_, _, rfl, rfl, h⟩
 ·exact h.elim
theorem yG : OpR X (compareOp .Gt) (gI fun i j => .bl (decide (j < i))) := Ft.imp Dz
def eqS : V -> V -> Option Bool
 | .int i, .int j => some (decide (i = j))
 | .bl i, .bl j => some (decide (i = j))
 | .str i, .str j => some (decide (cs i = cs j))
 | .non, .non => some true
 | .non, .int _ => some false | .int _, .non => some false | .non, .bl _ => some false | .bl _, .non => some false | .non, .str _ => some false | .str _, .non => some false
 | .int _, .str _ => some false | .str _, .int _ => some false | .bl _, .str _ => some false | .str _, .bl _ => some false
 | _, _ => none
theorem xa (i j : Str) : V.str i = V.str j ↔ cs i = cs j := by
 constructor
 ·intro h; injection h with h; rw [h]
 ·intro h
  congr 1
  obtain ⟨⟨a⟩⟩ := i
  obtain ⟨⟨b⟩⟩ := j
  have h' : a = b := h
  rw [h']
theorem vf {x y : V} {k : Bool} (h : eqS x y = some k) : D8 x y = true /\ decide (x = y) = k := by
 unfold eqS at h
 split at h <;> (first | cases h) <;> refine ⟨rfl, ?_⟩
 case h_1 i j => exact decide_eq_decide.mpr (by simp)
 case h_2 i j => exact decide_eq_decide.mpr (by simp)
 case h_3 i j => exact decide_eq_decide.mpr (xa i j)
 all_goals simp
variable {ta tb tc : TE} {rest : List Expr}
def kB (Q : Bool -> Hp -> Prop) : VK := fun x H => match x with
 | .bl k => Q k H
 | _ => False
def fi (t : TE) : TT := fun σ H Q => t σ H (kB Q)
theorem mQ {Q : Bool -> Hp -> Prop} {x : V} {H : Hp} (h : kB Q x H) : ∃ k, x = .bl k /\ Q k H := by
 unfold kB at h
 split at h
 ·exact ⟨_, rfl, h⟩
 ·exact h.elim
theorem aU {op : CmpOp} {r : R2} (ho : OpR X (compareOp op) r) (ha : PE X a ta) (hb : PE X b tb) (hm : behindInMarks op b = false) : PT X (.Compare a [op] [b] pos) (fi (tOp r ta tb)) := by
 intro pins s σ H Q I h
 refine wpAny_isTrue_Compare1 (thn (ha pins s σ H _ I h) fun v s1 ⟨x, H1, I1, r1, q1⟩ => thn (hb pins s1 σ H1 _ I1 q1) fun u s2 ⟨y, H2, I2, r2, q2⟩ =>
  thn (ho pins s2 σ H2 x y v u _ I2 r1 r2 q2) fun c s3 ⟨z, H3, I3, r3, q3⟩ => ?_) hm
 obtain ⟨k, e, q3⟩ := mQ q3
 subst e
 cases r3
 exact wpAny_truthy_bool ⟨H3, I3, q3⟩
theorem xX {op : CmpOp} {t : TE} (h : PC X op a b t) (h1 : behindInMarks op b = false := by first | exact vW _ (by decide) (by decide) | rfl) : PT X (.Compare a [op] [b] pos) (fi t) := by
 intro pins s σ H Q I hw
 refine wpAny_isTrue_Compare1 (thn (h pins s σ H _ I hw) fun v s1 h1 => thn h1 fun u s2 h2 => thn h2 fun c s3 ⟨x, H1, I1, r1, q1⟩ => ?_) h1
 obtain ⟨d, rfl, q⟩ := mQ q1
 cases r1
 exact wpAny_truthy_bool ⟨H1, I1, q⟩
theorem bA {t : TE} (h : PE X e t) (he : ∀ whole, isTrue e X.env whole = (do let v <- whole; standAt e.pos; holding [v] (truthy v)) := by intro _; rfl) : PT X e (fi t) := by
 intro pins s σ H Q I hw
 refine isTrue_plain (thn (h pins s σ H _ I hw) fun v s1 ⟨x, H1, I1, r1, q1⟩ => ?_) (he _)
 obtain ⟨d, rfl, q⟩ := mQ q1
 cases r1
 exact wpAny_truthy_bool ⟨H1, I1, q⟩
def xp (r r' : R2) (ta tb tc : TE) : TE := fun σ H Q => ta σ H fun x H1 => tb σ H1 fun y H2 => r x y H2 (kB fun k H3 => if k = true then tc σ H3 fun w' H4 => r' y w' H4 Q else Q (.bl false) H3)
theorem rV {op op' : CmpOp} {r r' : R2} (ho : OpR X (compareOp op) r) (ho' : OpR X (compareOp op') r') (ha : PE X a ta) (hb : PE X b tb) (hc : PE X c tc)
 (hm : lastMarks [op, op'] [b, c] = false := by with_unfolding_all rfl) : PE X (.Compare a [op, op'] [b, c] pos) (xp r r' ta tb tc) := by
 intro pins s σ H Q I h
 refine Compare_chain (thn (ha pins s σ H _ I h) fun v s1 ⟨x, H1, I1, r1, q1⟩ => chain_link (thn (hb pins s1 σ H1 _ I1 q1) fun u s2 ⟨y, H2, I2, r2, q2⟩ =>
  thn (ho pins s2 σ H2 x y v u _ I2 r1 r2 q2) fun d s3 ⟨z, H3, I3, r3, q3⟩ => ?_)) hm
 obtain ⟨k, e, q3⟩ := mQ q3
 subst e
 cases r3
 refine wpAny_truthy_bool ?_
 cases k with
 | false => exact ite_ff ⟨.bl false, H3, I3, rfl, q3⟩
 | true => exact ite_tt (chain_last (thn (hc pins s3 σ H3 _ I3 q3) fun w' s4 ⟨z', H4, I4, r4, q4⟩ => ho' pins s4 σ H4 y z' u w' Q I4 r2 r4 q4))
theorem AB {op op' : CmpOp} {r r' : R2} (ho : OpR X (compareOp op) r) (ho' : OpR X (compareOp op') r') (ha : PE X a ta) (hb : PE X b tb) (hc : PE X c tc)
 (hm : lastMarks [op, op'] [b, c] = false := by with_unfolding_all rfl) : PT X (.Compare a [op, op'] [b, c] pos) (fi (xp r r' ta tb tc)) := by
 intro pins s σ H Q I h
 refine isTrue_chain (thn (ha pins s σ H _ I h) fun v s1 ⟨x, H1, I1, r1, q1⟩ => test_link (thn (hb pins s1 σ H1 _ I1 q1) fun u s2 ⟨y, H2, I2, r2, q2⟩ =>
  thn (ho pins s2 σ H2 x y v u _ I2 r1 r2 q2) fun d s3 ⟨z, H3, I3, r3, q3⟩ => ?_)) hm
 obtain ⟨k, e, q3⟩ := mQ q3
 subst e
 cases r3
 refine wpAny_truthy_bool ?_
 cases k with
 | false => exact ite_ff ⟨H3, I3, q3⟩
 | true =>
  refine ite_tt (test_last (thn (hc pins s3 σ H3 _ I3 q3) fun w' s4 ⟨z', H4, I4, r4, q4⟩ => thn (ho' pins s4 σ H4 y z' u w' _ I4 r2 r4 q4) fun d' s5 ⟨z2, H5, I5, r5, q5⟩ => ?_))
  obtain ⟨k2, e2, q5⟩ := mQ q5
  subst e2
  cases r5
  exact wpAny_truthy_bool ⟨H5, I5, q5⟩
def FR (ta tb : TE) : TE := fun σ H Q => ta σ H (kB fun c H1 => if c = true then tb σ H1 Q else Q (.bl false) H1)
def fOr (ta tb : TE) : TE := fun σ H Q => ta σ H (kB fun c H1 => if c = true then Q (.bl true) H1 else tb σ H1 Q)
def Fm (ta : TE) : TE := fun σ H Q => ta σ H (kB fun c H1 => Q (.bl (!c)) H1)
theorem d8 (ha : PE X a ta) (hb : PE X (.BoolOp .And (b :: rest) pos) tb) : PE X (.BoolOp .And (a :: b :: rest) pos) (FR ta tb) := by
 intro pins s σ H Q I h
 refine BoolOp_and (thn (ha pins s σ H _ I h) fun v s1 ⟨x, H1, I1, r1, q1⟩ => ?_)
 obtain ⟨c, rfl, q1⟩ := mQ q1
 cases r1
 refine wpAny_truthy_bool ?_
 cases c with
 | true => exact hb pins s1 σ H1 Q I1 q1
 | false => exact ⟨.bl false, H1, I1, rfl, q1⟩
theorem Fq (ha : PE X a ta) (hb : PE X (.BoolOp .Or (b :: rest) pos) tb) : PE X (.BoolOp .Or (a :: b :: rest) pos) (fOr ta tb) := by
 intro pins s σ H Q I h
 refine BoolOp_or (thn (ha pins s σ H _ I h) fun v s1 ⟨x, H1, I1, r1, q1⟩ => ?_)
 obtain ⟨c, rfl, q1⟩ := mQ q1
 cases r1
 refine wpAny_truthy_bool ?_
 cases c with
 | false => exact hb pins s1 σ H1 Q I1 q1
 | true => exact ⟨.bl true, H1, I1, rfl, q1⟩
theorem zZ (ha : PE X a ta) : PE X (.UnaryOp .Not a pos) (Fm ta) := by
 intro pins s σ H Q I h
 refine UnaryOp_ (thn (ha pins s σ H _ I h) fun v s1 ⟨x, H1, I1, r1, q1⟩ => ?_)
 obtain ⟨c, rfl, q1⟩ := mQ q1
 cases r1
 exact not_of (wpAny_truthy_bool ⟨.bl (!c), H1, I1, rfl, q1⟩)
def E8 : List V -> Hp -> VK -> Prop
 | [.int i], H, Q => Q (.int (if i < 0 then -i else i)) H
 | _, _, _ => False
theorem D1 : CallR X (.builtin "abs") E8 := Av.imp fun x H Q h => by
 unfold E8 at h; split at h
 ·exact ⟨_, rfl, h⟩
 ·exact h.elim
def DF : List V -> Hp -> VK -> Prop
 | [.int i, .int j], H, Q => Q (.int (if j < i then j else i)) H
 | _, _, _ => False
theorem nQ (hc : X.calm = true) : CallR X (.builtin "min") DF := (zQ hc).imp fun x H Q h => by
 unfold DF at h; split at h
 ·exact ⟨_, _, rfl, h⟩
 ·exact h.elim
def Ca (K : W.Frag) : List V -> Hp -> VK -> Prop
 | [.str y], H, Q => (cs y).length <= sizeLine /\ Q (.int (cs y).length) H
 | [.ref p], H, Q => ∃ xs, (SqL K H p xs \/ SqT K H p xs) /\ Q (.int xs.length) H
 | _, _, _ => False
theorem EY : CallR X (.builtin "len") (Ca X.K) := Bd.imp fun x H Q h => by
 unfold Ca at h; split at h
 ·exact ⟨_, _, rfl, ⟨by simpa [cs, Str.length] using h.1, rfl⟩, by simpa [cs, Str.length] using h.2⟩
 ·obtain ⟨xs, hx, q⟩ := h
  rcases hx with hx | hx
  ·exact ⟨_, _, rfl, .inl ⟨xs, hx, rfl⟩, q⟩
  ·exact ⟨_, _, rfl, .inr ⟨xs, hx, rfl⟩, q⟩
 ·exact h.elim
def bi (H : Hp) : V -> Option String
 | .non => some "NoneType"
 | .bl _ => some "bool"
 | .int _ => some "int"
 | .str _ => some "str"
 | .ref p => match H p with
  | some (.lst _) => some "list"
  | some (.frz _ (.lst _)) => some "list"
  | some (.tup _) => some "tuple"
  | some (.dK _) => some "dict"
  | _ => none
 | _ => none
def cp (t n : String) : Bool := t == n || (t == "bool" && n == "int")
def jJ (t : String) : Prop := t = "NoneType" \/ t = "bool" \/ t = "int" \/ t = "str" \/ t = "list" \/ t = "tuple" \/ t = "dict"
theorem Fz {K : W.Frag} {t n : String} (h : jJ t) (hn : n = "int" \/ n = "bool" \/ n = "str" \/ n = "list" \/ n = "tuple" \/ n = "dict") : PySem.W.kitOne K (.type t) (.type n) = some (cp t n) := by
 rcases h with rfl | rfl | rfl | rfl | rfl | rfl | rfl <;> rcases hn with rfl | rfl | rfl | rfl | rfl | rfl <;> kernel_rfl
theorem vq {K : W.Frag} {H : Hp} {x : V} {t : String} (h : bi H x = some t) : lc K H x (.type t) /\ jJ t := by
 unfold bi at h
 split at h
 ·cases h; exact ⟨.non, by simp [jJ]⟩
 ·cases h; exact ⟨.bl _, by simp [jJ]⟩
 ·cases h; exact ⟨.int _, by simp [jJ]⟩
 ·cases h; exact ⟨.str _, by simp [jJ]⟩
 ·split at h
  ·rename_i e; cases h; exact ⟨.lst e, by simp [jJ]⟩
  ·rename_i e; cases h; exact ⟨.frz e, by simp [jJ]⟩
  ·rename_i e; cases h; exact ⟨.tup e, by simp [jJ]⟩
  ·rename_i e; cases h; exact ⟨.dK e, by simp [jJ]⟩
  ·cases h
 ·cases h
def wz (n : String) : Bool := n == "int" || n == "bool" || n == "str" || n == "list" || n == "tuple" || n == "dict"
def BY (K : W.Frag) : List V -> Hp -> VK -> Prop
 | [x, .ty n], H, Q => (match bi H x with
  | some t => wz n = true /\ Q (.bl (cp t n)) H
  | none => ∃ e C b, x = .ref e /\ H e = some (h9 (.ref C) e) /\ dh K C /\ PySem.W.kitOne K (.ref C) (.type n) = some b /\ Q (.bl b) H)
 | [.ref e, .ref D], H, Q => ∃ C b, H e = some (h9 (.ref C) e) /\ dh K C /\ PySem.W.kitOne K (.ref C) (.ref D) = some b /\ Q (.bl b) H
 | _, _, _ => False
theorem EJ : CallR X (.builtin "isinstance") (BY X.K) := zi.imp fun xs H Q h => by
 unfold BY at h
 split at h
 ·rename_i x n
  split at h
  ·rename_i t ht
   obtain ⟨ty, hb⟩ := vq (K := X.K) ht
   obtain ⟨hn, q⟩ := h
   refine .inl ⟨x, _, _, _, _, rfl, .ty n, ty, Fz hb ?_, q⟩
   simpa [wz, or_assoc] using hn
  ·obtain ⟨e, C, b, rfl, he, Z, k, q⟩ := h
   exact .inr ⟨e, _, C, _, b, rfl, .ty n, he, Z, k, q⟩
 ·rename_i e D
  obtain ⟨C, b, he, Z, k, q⟩ := h
  exact .inr ⟨e, _, C, _, b, rfl, .own D, he, Z, k, q⟩
 ·exact h.elim
end
section
variable {X : Cx} {a b : Expr} {ta tb : TE} {pos pos' : Pos}
def gIx (K : W.Frag) : R2
 | .str z, .int i, H, Q => (cs z).length <= sizeLine /\ (match atI (cs z) i with
  | some c => Q (T [c]) H
  | none => False)
 | .ref p, .int i, H, Q => ∃ xs v, (SqL K H p xs \/ SqT K H p xs) /\ atI xs i = some v /\ Q v H
 | _, _, _, _ => False
theorem Ef : IxR X (gIx X.K) := Eh.imp fun x y H Q h => by
 unfold gIx at h
 split at h
 ·obtain ⟨hz, h⟩ := h
  split at h
  ·rename_i c hc
   exact .inr (.inr ⟨_, _, c, rfl, rfl, by simpa [cs, Str.length] using hz, hc, h⟩)
  ·exact h.elim
 ·obtain ⟨xs, v, hs | hs, hv, q⟩ := h
  ·exact .inl ⟨_, xs, _, v, rfl, rfl, hs, hv, q⟩
  ·exact .inr (.inl ⟨_, xs, _, v, rfl, rfl, hs, hv, q⟩)
 ·exact h.elim
def hX (xs : List V) (H H1 : Hp) (Q : VK) : V -> Prop
 | .int i => (match atI xs i with
  | some (.ref q) => H q = none /\ (match H1 q with
   | some o => nM o = true /\ Q (.ref q) (upd H q o)
   | none => False)
  | some v => Q v H
  | none => False)
 | _ => False
def BG (ta : TA) (ti : TE) : TE := fun σ H Q => NoT H /\ ta σ H fun xs H1 => Same H H1 /\ xs.length <= sizeLine /\ ∀ p, H1 p = none -> ti σ (upd H1 p (.lst xs)) fun y H2 => H2 = upd H1 p (.lst xs) /\ hX xs H H1 Q y
theorem Ba {xs : List V} {H H1 : Hp} {Q : VK} {y : V} {p : Addr} {o : HO} (s : Same H H1) (hp : H1 p = none) (h : hX xs H H1 Q y) : ∃ i v G, y = .int i /\ atI xs i = some v /\ Gc H G (upd H1 p o) /\ Q v G := by
 unfold hX at h
 have s2 : Same H (upd H1 p o) := s.trans (ak o hp)
 split at h
 ·rename_i i
  split at h
  ·rename_i q hq
   obtain ⟨hn, h⟩ := h
   split at h
   ·rename_i o' ho'
    exact ⟨i, _, _, rfl, hq, Gc.one s2 hn (by rw [ay (au ho' hp)]; exact ho') h.1, h.2⟩
   ·exact h.elim
  ·rename_i v _ hv
   exact ⟨i, v, H, rfl, hv, Gc.none s2, h⟩
  ·exact h.elim
 ·exact h.elim
theorem ci {es : List Expr} {t : TA} (ha : PA X es t) (hb : PE X b tb) (hs : yX b) : PE X (.Subscript (.List es pos') b pos) (BG t tb) := by
 intro pins s σ H Q I h
 obtain ⟨n, h⟩ := h
 refine Subscript_ (wpAny_List_spliced (thn (ha pos' pins s σ H _ I h) fun us s1 ⟨xs, H1, I1, r, sm, z, q⟩ => ⟨by rw [<- r.length]; exact z, ?_⟩))
 have hf : H1 s1.heap.objs.size = none := I1.hok.fresh (Nat.le_refl _)
 refine thn (hb pins _ σ (upd H1 s1.heap.objs.size (.lst xs)) _ (I1.laid (t' := s1.toks) (fun b u e => Heap.get?_push_of_some _ e) (Nat.le_refl _) ⟨z, us, 0, r, Heap.get?_push_size _ rfl⟩) (q _ hf)) fun u s3 ⟨y, H3, I3, ry, e, k⟩ => ?_
 subst e
 obtain ⟨i, v, G, rfl, hv, g, hq⟩ := Ba (o := .lst xs) sm hf k
 exact thn (xZ (.List es pos') b pins s3 σ _ (.ref _) (.int i) _ u (fun v' H' => v' = v /\ H' = upd H1 s1.heap.objs.size (.lst xs)) I3 rfl ry ⟨_, xs, i, v, rfl, rfl, SqL.of ai, hv, rfl, rfl⟩ (hs _ _))
  fun u' s4 ⟨v', H4, I4, r4, e1, e2⟩ => ⟨v, G, I.gc n (e2 ▸ I4) g, e1 ▸ r4, hq⟩
end
def sp0 (f : Hp -> VK -> XK -> Prop) : Sp := fun vs H Q E => match vs with
 | [] => f H Q E
 | _ => False
def sp1 (f : V -> Hp -> VK -> XK -> Prop) : Sp := fun vs H Q E => match vs with
 | [x] => f x H Q E
 | _ => False
def sp2 (f : V -> V -> Hp -> VK -> XK -> Prop) : Sp := fun vs H Q E => match vs with
 | [x, y] => f x y H Q E
 | _ => False
def sp3 (f : V -> V -> V -> Hp -> VK -> XK -> Prop) : Sp := fun vs H Q E => match vs with
 | [x, y, z] => f x y z H Q E
 | _ => False
def sp4 (f : V -> V -> V -> V -> Hp -> VK -> XK -> Prop) : Sp := fun vs H Q E => match vs with
 | [x, y, z, u] => f x y z u H Q E
 | _ => False
section
variable {vs : List V} {H : Hp} {Q : VK} {E : XK}
theorem sp1.inv {f} (h : sp1 f vs H Q E) : ∃ x, vs = [x] /\ f x H Q E := by
 unfold sp1 at h; split at h
 ·exact ⟨_, rfl, h⟩
 ·exact h.elim
theorem sp2.inv {f} (h : sp2 f vs H Q E) : ∃ x y, vs = [x, y] /\ f x y H Q E := by
 unfold sp2 at h; split at h
 ·exact ⟨_, _, rfl, h⟩
 ·exact h.elim
theorem sp3.inv {f} (h : sp3 f vs H Q E) : ∃ x y z, vs = [x, y, z] /\ f x y z H Q E := by
 unfold sp3 at h; split at h
 ·exact ⟨_, _, _, rfl, h⟩
 ·exact h.elim
theorem sp4.inv {f} (h : sp4 f vs H Q E) : ∃ x y z u, vs = [x, y, z, u] /\ f x y z u H Q E := by
 unfold sp4 at h; split at h
 ·exact ⟨_, _, _, _, rfl, h⟩
 ·exact h.elim
theorem sp1.len {f} (h : sp1 f vs H Q E) : vs.length = 1 := by obtain ⟨_, rfl, _⟩ := sp1.inv h; rfl
theorem sp2.len {f} (h : sp2 f vs H Q E) : vs.length = 2 := by obtain ⟨_, _, rfl, _⟩ := sp2.inv h; rfl
theorem sp3.len {f} (h : sp3 f vs H Q E) : vs.length = 3 := by obtain ⟨_, _, _, rfl, _⟩ := sp3.inv h; rfl
theorem sp4.len {f} (h : sp4 f vs H Q E) : vs.length = 4 := by obtain ⟨_, _, _, _, rfl, _⟩ := sp4.inv h; rfl
end
def asI (x : V) (f : Int -> Prop) : Prop := match x with
 | .int i => f i
 | _ => False
def asT (x : V) (f : List Nat -> Prop) : Prop := match x with
 | .str y => f (cs y)
 | _ => False
def asB (x : V) (f : Bool -> Prop) : Prop := match x with
 | .bl y => f y
 | _ => False
def asR (x : V) (f : Addr -> Prop) : Prop := match x with
 | .ref y => f y
 | _ => False
theorem asI.inv {x : V} {f : Int -> Prop} (h : asI x f) : ∃ i, x = .int i /\ f i := by
 unfold asI at h; split at h
 ·exact ⟨_, rfl, h⟩
 ·exact h.elim
theorem asT.inv {x : V} {f : List Nat -> Prop} (h : asT x f) : ∃ l, x = T l /\ f l := by
 unfold asT at h; split at h
 ·exact ⟨_, rfl, h⟩
 ·exact h.elim
theorem asR.inv {x : V} {f : Addr -> Prop} (h : asR x f) : ∃ i, x = .ref i /\ f i := by
 unfold asR at h; split at h
 ·exact ⟨_, rfl, h⟩
 ·exact h.elim
def asK (H : Hp) (x : V) (f : String -> Prop) : Prop := match bi H x with
 | some t => f t
 | none => False
theorem asK.inv {H : Hp} {x : V} {f : String -> Prop} (h : asK H x f) : ∃ t, bi H x = some t /\ jJ t /\ f t := by
 unfold asK at h; split at h
 ·rename_i t ht
  exact ⟨t, ht, (vq (K := default) ht).2, h⟩
 ·exact h.elim
theorem asK.of {H : Hp} {x : V} {f : String -> Prop} {t : String} (e : bi H x = some t) (h : f t) : asK H x f := by unfold asK; rw [e]; exact h
theorem kX {ns : List Int} {k : Int} (h0 : 0 <= k) (h1 : k < ns.length) : atI (ns.map V.int) k = some (.int (ns.getD k.toNat 0)) := by
 obtain ⟨j, rfl⟩ : ∃ j : Nat, k = j := ⟨k.toNat, by omega⟩
 refine aH ?_
 have l : j < ns.length := by omega
 simp [List.getD, l]
theorem iG {ns : List Int} {H H1 : Hp} {Q : VK} {i : Int} (h0 : 0 <= i) (h1 : i < ns.length) (q : Q (.int (ns.getD i.toNat 0)) H) : hX (ns.map V.int) H H1 Q (.int i) := by
 unfold hX
 simp only [kX h0 h1]
 exact q
section
variable {X : Cx} (K : W.Frag)
theorem bC (h : X.K = K := by rfl) : CallR X (.builtin "isinstance") (BY K) := h ▸ EJ
theorem e7 (h : X.K = K := by rfl) : CallR X (.builtin "len") (Ca K) := h ▸ EY
theorem aw (h : X.K = K := by rfl) : IxR X (gIx K) := h ▸ Ef
theorem qF (h : X.K = K := by rfl) : SlR X (Ga K) := h ▸ D_
theorem Db {tg l : Expr} {tl : TE} (hl : PE X l tl) (h : X.K = K := by rfl) : PI X tg l (Em K tl) := h ▸ DG hl
theorem lG {tg l : Expr} {tl : TE} (hl : PE X l tl) (h : X.K = K := by rfl) : PI X tg l (tL K tl) := h ▸ CD hl
end
theorem Dt {A B : Prop} (h : A) : if false = false then A else B := by
 rw [if_pos rfl]; exact h
theorem Gn {A B : Prop} (h : B) : if true = false then A else B := by
 rw [if_neg (by decide)]; exact h
theorem FL {H : Hp} {b : Bool} : bi H (.bl b) = some "bool" := rfl
theorem EI {H : Hp} {i : Int} : bi H (.int i) = some "int" := rfl
theorem DK {H : Hp} {s : Str} : bi H (.str s) = some "str" := rfl
theorem Er {H : Hp} : bi H .non = some "NoneType" := rfl
theorem ER : wz "int" = true := by decide
theorem qx : cp "NoneType" "int" = false := by decide
theorem wq : cp "bool" "int" = true := by decide
theorem xz : cp "int" "int" = true := by decide
theorem xg : cp "str" "int" = false := by decide
theorem vt : cp "list" "int" = false := by decide
theorem ve : cp "tuple" "int" = false := by decide
theorem vK : cp "dict" "int" = false := by decide
theorem B_ : wz "bool" = true := by decide
theorem ny : cp "NoneType" "bool" = false := by decide
theorem tS : cp "bool" "bool" = true := by decide
theorem vT : cp "int" "bool" = false := by decide
theorem vZ : cp "str" "bool" = false := by decide
theorem uy : cp "list" "bool" = false := by decide
theorem sF : cp "tuple" "bool" = false := by decide
theorem uj : cp "dict" "bool" = false := by decide
theorem DB : wz "str" = true := by decide
theorem qr : cp "NoneType" "str" = false := by decide
theorem wl : cp "bool" "str" = false := by decide
theorem wZ : cp "int" "str" = false := by decide
theorem xr : cp "str" "str" = true := by decide
theorem wu : cp "list" "str" = false := by decide
theorem uT : cp "tuple" "str" = false := by decide
theorem vP : cp "dict" "str" = false := by decide
theorem Ct : wz "list" = true := by decide
theorem nD : cp "NoneType" "list" = false := by decide
theorem uL : cp "bool" "list" = false := by decide
theorem vN : cp "int" "list" = false := by decide
theorem vC : cp "str" "list" = false := by decide
theorem uZ : cp "list" "list" = true := by decide
theorem sD : cp "tuple" "list" = false := by decide
theorem uh : cp "dict" "list" = false := by decide
theorem Ay : wz "tuple" = true := by decide
theorem lp : cp "NoneType" "tuple" = false := by decide
theorem so : cp "bool" "tuple" = false := by decide
theorem uX : cp "int" "tuple" = false := by decide
theorem uI : cp "str" "tuple" = false := by decide
theorem su : cp "list" "tuple" = false := by decide
theorem rh : cp "tuple" "tuple" = true := by decide
theorem sA : cp "dict" "tuple" = false := by decide
theorem CP : wz "dict" = true := by decide
theorem ou : cp "NoneType" "dict" = false := by decide
theorem tU : cp "bool" "dict" = false := by decide
theorem wC : cp "int" "dict" = false := by decide
theorem vp : cp "str" "dict" = false := by decide
theorem uQ : cp "list" "dict" = false := by decide
theorem sq : cp "tuple" "dict" = false := by decide
theorem uw : cp "dict" "dict" = true := by decide
theorem F5 {H : Hp} {b : Bool} {f : String -> Prop} : asK H (.bl b) f = f "bool" := rfl
theorem E0 {H : Hp} {i : Int} {f : String -> Prop} : asK H (.int i) f = f "int" := rfl
theorem DE {H : Hp} {i : Str} {f : String -> Prop} : asK H (.str i) f = f "str" := rfl
theorem Ej {H : Hp} {f : String -> Prop} : asK H .non f = f "NoneType" := rfl
def Au : Expr -> Bool
 | .Starred _ _ => false
 | _ => true
theorem zj {e : Expr} {es : List Expr} {env : Env} (h : Au e = true) : starEach (e :: es) env = (false, eval e env) :: starEach es env := by
 cases e <;> first | rfl | cases h
structure FA (X : Cx) (es : List Expr) (t : TA) : Prop where
 pa : PA X es t
theorem ae {X : Cx} : FA X [] BB := ⟨EV⟩
theorem aa {X : Cx} {e : Expr} {es : List Expr} {te : TE} {t : TA} (ha : PE X e te) (hr : FA X es t) (h : Au e = true := by rfl) : FA X (e :: es) (BA te t) := ⟨CY ha hr.pa (zj h)⟩
theorem CK {H : Hp} {P : Hp -> Prop} : (∃ G, Gc H G H /\ P G) ↔ P H := by
 constructor
 ·rintro ⟨G, g, p⟩
  have e : G = H := by
   funext b
   cases h : H b with
   | none => exact g.b.free h
   | some o => exact g.a b o h
  rw [<- e]; exact p
 ·exact fun p => ⟨H, Gc.refl, p⟩
theorem GD {CX : CXT} {P : Program} {w : World} {K : W.Frag} {mg : Str -> Option Value} {base : Heap} {N : List Str} {qual : Str} {scope : Scope} {f : Addr} {cd : Value} {A : Around} {outer : List Env} {s : Shared} {H : Hp} {E : XK} :
 (cS CX P w K mg base N qual scope f cd A outer s H E).K = K := rfl
def isI : V -> Bool
 | .int _ => true
 | _ => false
def isS : V -> Bool
 | .str _ => true
 | _ => false
theorem Bz {H : Hp} {x : V} {t : String} (h : bi H x = some t) : (t == "int") = isI x := by
 unfold bi at h
 split at h
 case h_5 => split at h <;> cases h <;> simp [isI]
 all_goals (cases h <;> simp [isI])
theorem zt {H : Hp} : Same H H ↔ True := ⟨fun _ => trivial, fun _ => Same.refl H⟩
theorem aA {H : Hp} {p : Addr} {o : HO} (hN : NoT H) (d : n9 o = true) : NoT (upd H p o) := hN.upd d
theorem BX {i : Int} : isI (.int i) = true := rfl
theorem Ec {i : Bool} : isI (.bl i) = false := rfl
theorem Cm {i : Str} : isI (.str i) = false := rfl
theorem BK {i : Addr} : isI (.ref i) = false := rfl
theorem CW  : isI (.non) = false := rfl
theorem Cf {i : Int} : isS (.int i) = false := rfl
theorem Ep {i : Bool} : isS (.bl i) = false := rfl
theorem CF {i : Str} : isS (.str i) = true := rfl
theorem CA {i : Addr} : isS (.ref i) = false := rfl
theorem BZ  : isS (.non) = false := rfl
theorem AI {H : Hp} (h : zM H) : NoT H := fun b o e => by
 rcases h b with z | ⟨ob, xs, z⟩
 ·rw [e] at z; cases z
 ·rw [e] at z; cases z; rfl
def gcE (H : Hp) (E : XK) : XK := fun C d H' => ∃ G, Gc H G H' /\ E C d G
theorem Fun.okG {P : Program} {w : World} {K : W.Frag} {mg : Str -> Option Value} {base : Heap} {x qual : Str} {st : Stmt} {f : Addr} {fd : FuncData} {N ps : List Str} {k : Nat} {sp : Sp} (F : Fun K x qual st f fd) (S : aG N ps (af st))
 (len : ∀ vs H Q E, sp vs H Q E -> vs.length = ps.length)
 (hbody : ∀ (cdv : Value) (A : Around) (outer : List Env) (s : Shared) (H : Hp) (vs : List V) (Q : VK) (E : XK), Room k (A.deeper (envOfC qual (af st) s.heap.objs.size f cdv)) -> sp vs H Q E ->
  NoT H /\ ∃ t, PSs (cS (XE P w) P w K mg base N qual (af st) f cdv A outer s H (gcE H E)) (av st) t /\ t { nx := fun _ H' => ∃ G, Gc H G H' /\ Q .non G, rt := fun v H' => ∃ G, Gc H G H' /\ Q v G } (fo N vs) H) : bv P w K mg base (XE P w) (k + 1) f fd ps sp := by
 have F' : bv P w K mg base (XE P w) (k + 1) f fd ps (fun vs H Q' E' => ∃ Q E, sp vs H Q E /\ Q' = (fun v H' => ∃ G, Gc H G H' /\ Q v G) /\ E' = gcE H E) := by
  refine F.okX S (fun vs H Q' E' ⟨Q, E, h, _⟩ => len vs H Q E h) (fun cdv A outer s H vs Q' E' hr h => ?_)
  obtain ⟨Q, E, h, rfl, rfl⟩ := h
  exact (hbody cdv A outer s H vs Q E hr h).2
 refine ⟨len, fun A outer s H args us vs Q E hr e0 hb r hsp => ?_⟩
 have nT : NoT H := by
  obtain ⟨oc, od, kV, doc, pm, an, cdv, ct, osl, rfl, lk, hcd⟩ := F.ex
  exact (hbody cdv A outer s H vs Q E (hr.deeper _) hsp).1
 refine codeAny_mono (F'.run A outer s H args us vs _ _ hr e0 hb r ⟨Q, E, hsp, rfl, rfl⟩) fun res s' h => ?_
 cases res with
 | error e =>
  obtain ⟨ea, C, rs, H', h1, h2, h3, un, hok, hrs, fly, G, g, q⟩ := h
  exact ⟨ea, C, rs, G, h1, h2, h3, un.gc g, HOk.gc nT e0.hok hok g, fun b hb => ⟨(hrs b hb).1, g.b.free (hrs b hb).2⟩, fly, q⟩
 | ok fl =>
  cases fl with
  | ret u =>
   obtain ⟨v, H', h1, h2, un, hok, rv, G, g, q⟩ := h
   exact ⟨v, G, h1, h2, un.gc g, HOk.gc nT e0.hok hok g, rv, q⟩
  | next => exact h
  | brk => exact h
  | cont => exact h
section
variable {K : W.Frag} {C D : Addr} {b : Bool} {cl : ClassData}
theorem sL (o : PySem.W.clsIn K D = some cl) (t : PySem.W.typeIn K (.ref D) = some (.type "type")) (m : PySem.W.mroIn K C (.ref D) = some b) : PySem.W.kitCls K (.ref C) (.ref D) = some b := by
 unfold PySem.W.kitCls
 simp only [o, t, Option.isSome_some, beq_self_eq_true, Bool.and_self, if_true]
 exact m
theorem eK (o : PySem.W.clsIn K D = some cl) (t : PySem.W.typeIn K (.ref D) = some (.type "type")) (s : PySem.W.mroIn K D (.type "BaseException") = some true) (m : PySem.W.mroIn K C (.ref D) = some b) : PySem.W.exmOne K (.ref C) (.ref D) = some b := by
 unfold PySem.W.exmOne
 have e : PySem.W.subIn K (.ref D) (.type "BaseException") = some true := s
 rw [e, if_pos (by rfl)]
 exact sL o t m
theorem az (o : PySem.W.clsIn K D = some cl) (t : PySem.W.typeIn K (.ref D) = some (.type "type")) (s : PySem.W.mroIn K C (.ref C) = some true) (m : PySem.W.mroIn K C (.ref D) = some b) : PySem.W.kitOne K (.ref C) (.ref D) = some b := by
 unfold PySem.W.kitOne
 by_cases e : ((Value.ref C == Value.ref D) = true)
 ·rw [if_pos e]
  have e' : C = D := Value.ref.inj (beq_iff_eq.mp e)
  subst e'
  rw [s] at m; exact m
 ·rw [if_neg e]; exact sL o t m
theorem xq : PySem.W.kitMeta "ValueError" = true := by kernel_rfl
theorem eX (m : PySem.W.mroIn K C (.type "ValueError") = some b) : PySem.W.kitOne K (.ref C) (.type "ValueError") = some b := by
 unfold PySem.W.kitOne
 rw [if_neg (by intro z; cases (beq_iff_eq.mp z))]
 unfold PySem.W.kitCls
 simp only [xq, if_true]
 exact m
end
theorem AD {l : PySem.W.OpenLaw} {n k : Nat} {q : Program} {loose : List Str} {XP : (Str -> Option Value) -> Heap -> Prop} {YP : World -> Heap -> Prop} {d : DefRec} {K : Params -> W.Frag} {sp : W.Frag -> Sp} {x : Str}
 (hn : l.most = some n) (hn2 : n <= sizeLine) (hdf : d.params.defaults = []) (hr : Room k callerA)
 (hY : ∀ (w : World) (h : Heap), YP w h -> (K w.params).In h)
 (F : ∀ (w : World) (mg : Str -> Option Value) (fa : Addr) (h : Heap), (K w.params).In h -> h.Ns mainGlobals mg -> mg d.name = some (.ref fa) ->
  ∃ fd : FuncData, (∀ (s : Shared) (u : Value), BindsTo s fd ⟨[u], []⟩ [(x, u)]) /\
   ∀ base : Heap, (K w.params).In base -> base.Ns mainGlobals mg -> bv l.prog w (K w.params) mg base (XE l.prog w) k fa fd [x] (sp (K w.params)))
 (hsp : ∀ (K : W.Frag) (H : Hp) (a : Addr) (ns : List Int), ns.length <= n -> zM H -> SqL K H a (ns.map V.int) -> sp K [.ref a] H (fun v _ => v = .bl true) fun _ _ _ => False) :
 PySem.W.WalkO q loose XP YP l.row.toRowW d [] (fun f vs => PySem.call f vs) :=
 Cj (K := K) (CX := fun w => XE l.prog w) (sp := fun w => sp (K w.params)) hn hn2 hdf hr hY F (fun w H a ns h1 h2 h3 => hsp (K w.params) H a ns h1 h2 h3) fun w H s e s' ⟨_, _, _, _, _, _, _, _, _, _, _, z⟩ => z
end L2
namespace L2
open PySem PySem.Spec PyProof.Rows
section
variable {prog : Program} {w : World} {A : Around} {R : Result -> Shared -> Prop} {s : Shared}
theorem tZ {elt target iter : Expr} {ifs : List Expr} {scope : Scope} {pos : Pos} {it acc : Value} {env : Env} (I : Nat -> Shared -> Prop)
 (turn : ∀ n s, I n s -> wpAny (model prog w) A (pyNext it) (fun r s₁ => match r with
  | none => R (.ok .next) s₁
  | some v => wpAny (model prog w) A (letOwnedTupleGo target it v) (fun _ s₁' => wpAny (model prog w) A (assign target env v) (fun _ s₂ =>
   wpAny (model prog w) A (forIn ifs true fun c r => if r = true then do let ok <- isTrue c env (eval c env); pure (ForInStep.yield ok) else pure (ForInStep.yield r)) (fun ok s₃ =>
    if ok = true then wpAny (model prog w) A (eval elt env) (fun x s₄ =>
     wpAny (model prog w) A (call (.builtin "list.append") [acc, x]) (fun _ s₅ => ∃ m, m < n /\ I m s₅) (notedBy (model prog w) A env fun e s' => R (.error e) s') s₄) (notedBy (model prog w) A env fun e s' => R (.error e) s') s₃
    else ∃ m, m < n /\ I m s₃) (notedBy (model prog w) A env fun e s' => R (.error e) s') s₂) (notedBy (model prog w) A env fun e s' => R (.error e) s') s₁') (notedBy (model prog w) A env fun e s' => R (.error e) s') s₁) (notedBy (model prog w) A env fun e s' => R (.error e) s') s)
 (n : Nat) (h : I n s) :
 codeAny (model prog w) A (.compLoop (.ListComp elt [⟨target, iter, ifs, 0⟩] scope pos) 0 it acc env) R s := by
 refine codeAny_loop rfl I (fun n s hI => ?_) n h
 show wpAny _ A ((compTurn (.ListComp elt [⟨target, iter, ifs, 0⟩] scope pos) 0 it acc env).onRaise (fun x => do noteFrame x env; theTreesLotGoes x)) _ _ s
 refine wpAny_noted ?_
 rw [compTurn_list]
 refine wpAny_bind (wpAny_standAt (wpAny_bind (wpAny_mono (turn n s hI) (fun r s₁ h₁ => ?_) fun _ _ h' => h')))
 cases r with
 | none => exact wpAny_pure h₁
 | some v =>
  refine wpAny_bind (wpAny_mono h₁ (fun _ s₁' h₁' => ?_) fun _ _ h' => h')
  refine wpAny_bind (wpAny_mono h₁' (fun _ s₂ h₂ => wpAny_bind (wpAny_mono h₂ (fun ok s₃ h₃ => ?_) fun _ _ h' => h')) fun _ _ h' => h')
  cases ok with
  | false => exact wpAny_pure ⟨rfl, h₃⟩
  | true =>
   exact wpAny_bind (wpAny_bind (wpAny_mono h₃ (fun x s₄ h₄ => wpAny_bind (wpAny_mono h₄ (fun _ s₅ h₅ => wpAny_pure (wpAny_pure ⟨rfl, h₅⟩)) fun _ _ h' => h')) fun _ _ h' => h'))
end
def cR (X : Cx) (N : List Str) (scope : Scope) (cl : List (Str × Addr)) (C : Addr) (s₂ : Shared) (H₂ : Hp) (ex : List Addr) (pn : List (Addr × Obj)) : Cx :=
 { X with N := N, s₀ := s₂, H₀ := H₂, env := compEnvC scope cl C X.env, outer := X.stack, stack := X.stack, ex := ex, fn := fun _ => false, pn := pn, xe := fun _ _ => False }
structure CompScope (X : Cx) (scope : Scope) (cl : List (Str × Addr)) (x : Str) (fr : List Str) : Prop where
 clos : closureFor scope X.env = pure cl
 nocell : ∀ y ∈ scope.names, y.2 ≠ .cell
 kind : scope.kind = .function
 names : ∀ y ∈ scope.names, y.2 = .local -> scope.names.lookup y.1 = some .local
 own : scope.names.lookup x = some .local
 keys : ∀ y ∈ cl, y.1 ∈ fr
 cells : fr.map (fun y => cl.lookup y) = fr.map (fun y => X.env.cells.lookup y)
 kinds : ∀ y ∈ fr, X.env.kindOf y = some .cell \/ X.env.kindOf y = some .free
 kin : ∀ y ∈ fr, (relabel scope X.env).names.lookup y = some .cell \/ (relabel scope X.env).names.lookup y = some .free
 only : ∀ y, ((relabel scope X.env).names.lookup y = some .cell \/ (relabel scope X.env).names.lookup y = some .free) -> y ∈ fr
theorem xJ {α : Type} {l : List (Str × α)} {y : Str} {c : α} (h : l.lookup y = some c) : (y, c) ∈ l := PySem.mem_of_lookup h
theorem CompScope.cell {X : Cx} {scope : Scope} {cl : List (Str × Addr)} {x : Str} {fr : List Str} (S : CompScope X scope cl x fr) {y : Str} (h : y ∈ fr) : cl.lookup y = X.env.cells.lookup y := by
 have e := S.cells
 obtain ⟨i, hi, rfl⟩ := List.getElem_of_mem h
 have := congrArg (fun l => l[i]?) e
 simpa [hi] using this
theorem CompScope.sub {X : Cx} {scope : Scope} {cl : List (Str × Addr)} {x : Str} {fr : List Str} (S : CompScope X scope cl x fr) {y : Str} {c : Addr} (h : cl.lookup y = some c) : X.env.cells.lookup y = some c := by
 rw [<- S.cell (S.keys _ (xJ h))]; exact h
def PTs (X : Cx) (ifs : List Expr) (t : TT) : Prop :=
 ∀ (pins : List (Addr × Obj)) (s : Shared) (σ : St) (H : Hp) (Q : Bool -> Hp -> Prop), Inv X pins σ H s -> t σ H Q ->
  wpAny (model X.prog X.w) X.A (forIn ifs true fun c r => if r = true then do let ok <- isTrue c X.env (eval c X.env); pure (ForInStep.yield ok) else pure (ForInStep.yield r)) (TP X pins σ Q) X.xe s
theorem iX {X : Cx} : PTs X [] (fun _ H Q => Q true H) := fun pins s σ H Q I h => wpAny_tests_nil ⟨H, I, h⟩
theorem j2 {X : Cx} {c : Expr} {t : TT} (h : PT X c t) : PTs X [c] t := fun pins s σ H Q I hw => wpAny_tests_one (h pins s σ H Q I hw)
end L2
set_option maxHeartbeats 4000000
namespace MT
def isD (c : Nat) : Bool := decide (48 <= c) && decide (c <= 57)
def vl (t : List Nat) : Nat := t.foldl (fun n c => 10 * n + (c - 48)) 0
def nin (t : List Nat) : Nat := t.foldl (fun n c => if isD c then 10 * n + (c - 48) else n) 0
def fg (t : List Nat) : List Nat := if t.take 1 = [45] then t.drop 1 else t
def good (t : List Nat) : Prop := fg t ≠ [] /\ (∀ c ∈ fg t, isD c = true) /\ ((fg t).head? = some 48 -> t = [48])
def pd : Nat -> Nat -> List Nat
 | 0, _ => []
 | k + 1, m => pd k (m / 10) ++ [48 + m % 10]
end MT
namespace L2
open PySem PySem.Spec PyProof.Rows Builtin Builtin.Str
section
variable {X : Cx} {e a b c : Expr} {pos : Pos}
def gIn (neg : Bool) : R2
 | .str i, .str j, H, Q => (match cs i with
  | [c] => Q (.bl (neg ^^ decide (c ∈ cs j))) H
  | _ => False)
 | _, _, _, _ => False
theorem A9 {i : Str} {c : Nat} (h : cs i = [c]) : i = ⟨#[c]⟩ := by
 obtain ⟨⟨l⟩⟩ := i
 have h' : l = [c] := h
 rw [h']
def gSt : V -> List V -> Hp -> VK -> Prop
 | .str x, [.str y], H, Q => (match cs y with
  | [c] => Q (.bl (decide ((cs x).head? = some c))) H
  | _ => False)
 | _, _, _, _ => False
def gEn : V -> List V -> Hp -> VK -> Prop
 | .str x, [.str y], H, Q => (match cs y with
  | [c] => Q (.bl (decide ((cs x).getLast? = some c))) H
  | _ => False)
 | _, _, _, _ => False
theorem En (x : Str) (c : Nat) : (decide (0 + (⟨#[c]⟩ : Str).length <= x.length) && Builtin.Str.subAt x ⟨#[c]⟩ (x.length - (⟨#[c]⟩ : Str).length)) = decide ((cs x).getLast? = some c) := by
 obtain ⟨⟨l⟩⟩ := x
 by_cases hl : l = []
 ·subst hl; simp [Str.length, cs, Builtin.Str.subAt]
 ·obtain ⟨i, a, rfl⟩ : ∃ i a, l = i ++ [a] := ⟨l.dropLast, l.getLast hl, (List.dropLast_concat_getLast hl).symm⟩
  have e : Builtin.Str.subAt ⟨⟨i ++ [a]⟩⟩ ⟨#[c]⟩ i.length = decide (a = c) := by
   simp [Builtin.Str.subAt, Str.length]
   rw [Bool.eq_iff_iff]
   simp
  have e2 : (⟨⟨i ++ [a]⟩⟩ : Str).length - (⟨#[c]⟩ : Str).length = i.length := by simp [Str.length]
  rw [e2, e]
  simp [Str.length, cs]
theorem vh : MtR X "str.endswith" gEn := by
 intro pins s σ H x xs v us Q I rx rs h
 unfold gEn at h
 split at h
 ·split at h
  ·rename_i c hc
   obtain ⟨t, rfl⟩ := rx
   obtain ⟨u, rfl, t', rfl⟩ := gi rs
   rw [A9 hc]
   refine call_meets F.slot_str_endswith (typeIs_str _ _ _) F.entry_str_endswith (F.args_str_endswith_2 _ _) (gives_str_endswith _ ⟨#[c]⟩ t t').meets ?_
   exact ⟨.bl _, H, I, rfl, by rw [En]; exact h⟩
  ·exact h.elim
 ·exact h.elim
def GK : V -> List V -> Hp -> VK -> Prop
 | .str x, [.str y], H, Q => (match cs y with
  | [c] => c ∈ cs x /\ ∀ i : Nat, (cs x)[i]? = some c -> Q (.int i) H
  | _ => False)
 | _, _, _, _ => False
def AX : List V -> Hp -> VK -> Prop
 | [.int i], H, Q => Q (.int i) H
 | [.bl k], H, Q => Q (.int (if k then 1 else 0)) H
 | [.str x], H, Q => ((cs x) ≠ [] /\ (∀ c ∈ cs x, MT.isD c = true) /\ (cs x).length <= 640) /\ Q (.int (MT.vl (cs x))) H
 | _, _, _ => False
theorem sB : CallR X (.type "int") (fun xs H Q => ∃ x, xs = [.str x] /\ ((cs x) ≠ [] /\ (∀ c ∈ cs x, MT.isD c = true) /\ (cs x).length <= 640) /\ Q (.int (MT.vl (cs x))) H) := by
 intro pins s σ H xs us Q I r h
 obtain ⟨x, rfl, ⟨h0, hd, hl⟩, q⟩ := h
 obtain ⟨u, rfl, t, rfl⟩ := gi r
 have hl' : x.length <= 640 := by simpa [cs, Str.length] using hl
 have e : PySem.NumText.digitsVal x.cps.toList = MT.vl (cs x) := by
  unfold PySem.NumText.digitsVal MT.vl cs
  congr 1
  funext a c; omega
 have hn : intText? x = some ((MT.vl (cs x) : Nat) : Int) := by
  rw [PySem.intText_digits (fun c hc => by have := hd c hc; simpa [MT.isD] using this) h0 (by omega), e]
 exact PySem.W.KIN.call_text hn hl' ⟨.int _, H, I.tok _, ⟨_, rfl⟩, q⟩
theorem yq : CallR X (.type "int") AX := (zb.or sB).imp fun xs H Q h => by
 unfold AX at h; split at h
 ·exact .inl (.inl ⟨_, rfl, h⟩)
 ·exact .inl (.inr ⟨_, rfl, h⟩)
 ·exact .inr ⟨_, rfl, h.1, h.2⟩
 ·exact h.elim
end
end L2
namespace L2
open PySem PySem.Spec PyProof.Rows
def Its (x : Str) : It := ⟨fun i _ => i < x.cps.size, fun i H v H' => H' = H /\ ∃ c, x.cps[i]? = some c /\ v = .str ⟨#[c]⟩, fun i _ => x.cps.size <= i⟩
theorem Bw {P : Program} {w : World} {K : W.Frag} {tg : Expr} (x : Str) (t : Tok) (it : Addr) : xH P w K tg (Its x) [it] it (fun i h => h.IsStrIter it "str_ascii_iterator" x t i) where
 mem := by simp
 obj := fun i h st b hb => by
  have e : b = it := by simpa using hb
  subst e
  obtain ⟨o, e, c, d⟩ := st
  exact ⟨o, e, fun v z => by rw [d] at z; cases z⟩
 keep := fun i h h' st k => by
  obtain ⟨o, e, c, d⟩ := st
  exact ⟨o, k it (by simp) o e, c, d⟩
 item := by
  intro X hP hw hK hc i pins s σ H E I hf st hg
  subst hP hw hK
  have hg' : i < x.cps.size := hg
  obtain ⟨f0, f1, f2, f3, f4, f5⟩ := hf it (by simp)
  have hx : x.cps[i]? = some x.cps[i] := by simp [hg']
  refine wpAny_pyNext_ascii_item st hx fun h' st' sb => ?_
  have I1 : Inv X pins σ H { s with heap := h', toks := s.toks + 1 } := I.turned (fun b o hb e => (sb.2 b hb).trans e) f0 f1 f3 f4 f5
  obtain ⟨o, e, c, d⟩ := id st'
  exact ⟨_, rfl, pG (s := { s with heap := h', toks := s.toks + 1 }) e c d (by decide) ⟨.str ⟨#[x.cps[i]]⟩, H, I1, ⟨_, rfl⟩, ⟨rfl, _, hx, rfl⟩, st', fun b hb => (hf b hb).1⟩⟩
 done := by
  intro X hP hw hK hc i pins s σ H E I hf st hg
  subst hP hw hK
  have hg' : x.cps.size <= i := hg
  obtain ⟨f0, f1, f2, f3, f4, f5⟩ := hf it (by simp)
  have hx : x.cps[i]? = none := by simp [hg']
  exact wpAny_pyNext_ascii_end (I.ok.hd hc) st hx fun h' eb => ⟨rfl, I.turned (fun b o hb e => eb b o hb e) f0 f1 f3 f4 f5⟩
 self := fun _ _ _ _ _ st h => wpAny_pyIter_striter_ascii st h
def FQ (tl : TE) : TI := fun σ H R => tl σ H fun v H1 => match v with
 | .str x => (∀ c ∈ cs x, c < 128) /\ R (Its x) H1
 | _ => False
theorem DW {X : Cx} {tg l : Expr} {tl : TE} (hl : PE X l tl) : PI X tg l (FQ tl) := by
 intro pins s σ H R I h
 refine thn (hl pins s σ H _ I h) fun v s1 ⟨y, H1, I1, r1, q⟩ => ?_
 dsimp only at q
 split at q
 ·rename_i x
  obtain ⟨ha, q⟩ := q
  obtain ⟨t, rfl⟩ := r1
  have ha' : x.cps.all (· < 128) = true := by
   rw [Array.all_eq_true]
   intro i hi
   exact decide_eq_true (ha _ (by unfold cs; rw [Array.mem_toList_iff]; exact Array.getElem_mem hi))
  refine wpAny_pyIter_ascii ha' ?_
  refine ⟨s1.heap.objs.size, [s1.heap.objs.size], _, _, H1, rfl, I1.kept (t' := s1.toks) fun b o e => Heap.get?_push_of_some _ e, Bw x t _, ⟨_, Heap.get?_push_size _ rfl, rfl, rfl⟩, fun b hb => ?_, q⟩
  have e : b = s1.heap.objs.size := by simpa using hb
  subst e
  exact I1.fpOk (Nat.le_refl _) (I1.hok.fresh (Nat.le_refl _))
 ·exact q.elim
section
variable {X : Cx}
theorem ra : ∀ {bs : List Bool} {us : List Value}, Vals (bs.map V.bl) us -> LSm.BoolsAre us bs
 | [], _, .nil => .nil
 | b :: r, _, .cons e t => by
  cases (show _ = Value.bool b from e)
  exact .cons b (ra t)
def EL (K : W.Frag) : List V -> Hp -> VK -> Prop
 | [.ref p], H, Q => ∃ bs : List Bool, SqL K H p (bs.map V.bl) /\ Q (.bl (bs.all id)) H
 | _, _, _ => False
theorem B8 (K : W.Frag) (hc : X.calm = true) (hK : X.K = K := by rfl) : CallR X (.builtin "all") (EL K) := by
 subst hK
 intro pins s σ H xs us Q I r h
 unfold EL at h
 split at h
 ·rename_i p
  obtain ⟨bs, hq, q⟩ := h
  obtain ⟨u, rfl, rx⟩ := gi r
  cases (show u = Value.ref p from rx)
  obtain ⟨its, rv, pl, hz⟩ := I.list hq
  have hne : p ≠ s.heap.objs.size := Nat.ne_of_lt (by obtain ⟨_, e, _⟩ := pl.isList; exact Heap.lt_size e)
  have hb : LSm.BoolsAre its bs := ra rv
  refine call_all_walk (wpAny_pyIter_list pl.isList ?_)
  refine ⟨s.heap.objs.size, [s.heap.objs.size, p], [s.heap.objs.size], its.toArray.size, _, _, fun i => (bs[i]?).getD true, rfl, Walks.list (A := X.A.in1) (I.ok.hd hc) _ p hne its.toArray,
   ⟨⟨_, Heap.get?_push_size _ rfl, rfl, rfl⟩, pl.isList.push _⟩, fun i v s' Q' E' hP hQ => ?_, fun h' tk hk => ?_⟩
  ·obtain ⟨b, e, rfl⟩ := hb.get i v (by simpa using hP)
   simp only [e, Option.getD_some] at hQ
   exact wpAny_truthy_bool hQ
  ·have e : ((List.range its.toArray.size).all fun i => (bs[i]?).getD true) = bs.all id := by
    rw [List.size_toArray, hb.length]; exact LSm.range_all bs
   rw [e]
   exact ⟨.bl (bs.all id), H, I.kept (LSm.kept_iter hk), rfl, q⟩
 ·exact h.elim
end
end L2
namespace L2
open PySem PySem.Spec PyProof.Rows Builtin Builtin.Str
def j_ (sep : List Nat) : List (List Nat) -> List Nat
 | [] => []
 | [x] => x
 | x :: y :: r => x ++ sep ++ j_ sep (y :: r)
theorem sP : ∀ ls : List (List Nat), j_ [] ls = ls.flatten
 | [] => rfl
 | [x] => by simp [j_]
 | x :: y :: r => by rw [j_, sP (y :: r)]; simp
def S (l : List Nat) : Str := ⟨⟨l⟩⟩
theorem sS (sep : List Nat) : ∀ (r : List (List Nat)) (x : List Nat), ((r.map S).foldl (fun acc p => acc ++ (S sep).cps ++ p.cps) (S x).cps) = (S (j_ sep (x :: r))).cps
 | [], x => rfl
 | y :: r, x => by
  rw [List.map_cons, List.foldl_cons]
  have e : (S x).cps ++ (S sep).cps ++ (S y).cps = (S (x ++ sep ++ y)).cps := by
   apply Array.ext'; simp [S]
  rw [e, sS sep r]
  congr 1
  cases r with
  | nil => rfl
  | cons z r' => unfold j_; simp [j_, List.append_assoc]
theorem Cy (sep : List Nat) (ls : List (List Nat)) : Txt.join (S sep) (ls.map S) = S (j_ sep ls) := by
 unfold Txt.join glued
 cases ls with
 | nil => rfl
 | cons x r =>
  show (⟨((x :: r).map S).drop 1 |>.foldl _ _⟩ : Str) = _
  rw [List.map_cons, List.drop_one, List.tail_cons, List.headD_cons, sS]
theorem yD : ∀ {ls : List (List Nat)} {us : List Value}, Vals (ls.map T) us -> StrsAre us (ls.map S)
 | [], _, .nil => .nil
 | l :: r, _, .cons e t => by
  obtain ⟨k, rfl⟩ := e
  exact .cons _ k (yD t)
def DQ (sep : List Nat) (ls : List (List Nat)) : Prop := (ls.map List.length).sum + ls.length * sep.length <= 16777216
theorem CQ {sep : List Nat} {ls : List (List Nat)} (h : DQ sep ls) : (((ls.map S).map (·.length)).sum + (ls.map S).length * (S sep).length <= 16777216) := by
 have e : (ls.map S).map (·.length) = ls.map List.length := by rw [List.map_map]; apply List.map_congr_left; intro l _; rfl
 rw [e, List.length_map]; exact h
section
variable {X : Cx}
def AA (K : W.Frag) : V -> List V -> Hp -> VK -> Prop
 | .str x, [.ref p], H, Q => ∃ ls : List (List Nat), SqL K H p (ls.map T) /\ DQ (cs x) ls /\ Q (T (j_ (cs x) ls)) H
 | _, _, _, _ => False
theorem qT (K : W.Frag) (hK : X.K = K := by rfl) : MtR X "str.join" (AA K) := by
 subst hK
 intro pins s σ H x xs v us Q I rx rs h
 unfold AA at h
 split at h
 ·rename_i y p
  obtain ⟨ls, hq, hf, q⟩ := h
  obtain ⟨t, rfl⟩ := rx
  obtain ⟨u, rfl, ru⟩ := gi rs
  cases (show u = Value.ref p from ru)
  obtain ⟨its, rv, pl, hz⟩ := I.list hq
  refine join_list pl.isList (yD rv) (CQ hf) fun t' k => ?_
  exact ⟨.str (Txt.join y (ls.map S)), H, I.tok _, ⟨_, rfl⟩, by rw [show y = S (cs y) from rfl, Cy]; exact q⟩
 ·exact h.elim
end
end L2
namespace PySem
open Sem (wp)
open Builtin Builtin.Str Builtin.Int
namespace F
end F
section
variable {prog : Program} {w : World} {A : Around} {E : Value -> Shared -> Prop} {s : Shared} {I : Addr} {fp wr : List Addr} {G : Array GenState -> Array GenState -> Prop} {n : Nat} {P : Nat -> Value -> Prop} {St : Nat -> Shared -> Prop}
end
end PySem
namespace L2
open PySem PySem.Spec PyProof.Rows Builtin Builtin.Str
section
variable {X : Cx} {o e : Expr} {to te : TE} {apos cpos p pos : Pos}
end
end L2
namespace L2
open PySem PySem.Spec PyProof.Rows Builtin Builtin.Str
section
variable {X : Cx}
structure El (J : It) (vs : List V) : Prop where
 go : ∀ i H, i < vs.length -> J.go i H
 yld : ∀ i H x H', i < vs.length -> J.yld i H x H' -> H' = H /\ vs[i]? = some x
 stop : ∀ H, J.stop vs.length H
theorem Bm (l : List Nat) : El (Its ⟨⟨l⟩⟩) (l.map fun c => T [c]) := by
 refine ⟨fun i H h => by simpa [Its] using h, fun i H x H' _ y => ?_, fun H => by simp [Its]⟩
 obtain ⟨e, c, hc, rfl⟩ := y
 refine ⟨e, ?_⟩
 have : l[i]? = some c := by simpa using hc
 rw [List.getElem?_map, this]; rfl
theorem BI (n : Nat) : El (Itr 0 n) ((List.range n).map fun k => .int (k : Nat)) := by
 refine ⟨fun i H h => by simpa [Itr] using h, fun i H x H' hi y => ?_, fun H => by simp [Itr]⟩
 obtain ⟨e, rfl⟩ := y
 refine ⟨e, ?_⟩
 have hi' : i < n := by simpa using hi
 simp [hi']
theorem sR {J : It} {vs : List V} (E : El J vs) {σ' : St} {H1 : Hp} {Q : VK} {tt : TT} {te : TE} (C : Hp -> Prop) (p : V -> Bool) (f : V -> V) (hlen : vs.length <= sizeLine)
 (hp : ∀ x ∈ vs, ∀ H (R : Bool -> Hp -> Prop), C H -> R (p x) H -> tt (some x :: σ') H R) (hf : ∀ x ∈ vs, p x = true -> ∀ H (R : VK), C H -> R (f x) H -> te (some x :: σ') H R)
 (D : Addr) (hD : H1 D = none) (hC : ∀ ys, C (upd H1 D (.lst ys))) (q : Q (.ref D) (upd H1 D (.lst ((vs.filter p).map f)))) :
 ∃ W : Nat -> Nat -> List V -> Hp -> Prop, (∃ m, W 0 m [] (upd H1 D (.lst []))) /\
  ∀ i m ys H2, W i m ys H2 -> H2 D = some (.lst ys) /\ ((J.stop i H2 /\ Q (.ref D) H2) \/ (J.go i H2 /\ ∀ x H3, J.yld i H2 x H3 ->
   tt (some x :: σ') H3 fun b H4 => if b = true then te (some x :: σ') H4 fun y H5 => H5 D = some (.lst ys) /\ ys.length < sizeLine /\ ∃ m', m' < m /\ W (i + 1) m' (ys ++ [y]) (upd H5 D (.lst (ys ++ [y])))
    else ∃ m', m' < m /\ W (i + 1) m' ys H4)) := by
 refine ⟨fun i m ys H2 => m = vs.length - i /\ i <= vs.length /\ ys = ((vs.take i).filter p).map f /\ H2 = upd H1 D (.lst ys), ⟨vs.length, by simp, Nat.zero_le _, by simp, rfl⟩, ?_⟩
 rintro i m ys H2 ⟨rfl, hi, hys, rfl⟩
 refine ⟨ai, ?_⟩
 by_cases hlt : i < vs.length
 ·refine .inr ⟨E.go i _ hlt, fun x H3 y => ?_⟩
  obtain ⟨e, hx⟩ := E.yld i _ x H3 hlt y
  subst e
  have hm : x ∈ vs := List.mem_of_getElem? hx
  have htk : vs.take (i + 1) = vs.take i ++ [x] := by
   rw [List.take_succ, hx]; rfl
  have hyl : ys.length <= i := by
   rw [hys, List.length_map]
   exact Nat.le_trans (List.length_filter_le _ _) (by simp [List.length_take]; omega)
  refine hp x hm _ _ (hC _) ?_
  cases hb : p x with
  | true =>
   rw [if_pos rfl]
   refine hf x hm hb _ _ (hC _) ⟨ai, by omega, vs.length - (i + 1), by omega, rfl, hlt, ?_, ?_⟩
   ·rw [htk, List.filter_append, List.map_append, <- hys]
    simp [hb]
   ·funext z
    by_cases hz : z = D
    ·subst hz; rw [ai, ai]
    ·rw [ay hz, ay hz, ay hz]
  | false =>
   rw [if_neg Bool.false_ne_true]
   refine ⟨vs.length - (i + 1), by omega, rfl, hlt, ?_, rfl⟩
   rw [htk, List.filter_append, List.map_append, <- hys]
   simp [hb]
 ·have e : i = vs.length := by omega
  subst e
  refine .inl ⟨E.stop _, ?_⟩
  rw [List.take_length] at hys
  rw [hys]; exact q
end
theorem SqL.same {K : W.Frag} {H H' : Hp} {a : Addr} {xs : List V} (s : Same H H') (h : SqL K H a xs) : SqL K H' a xs := by
 rcases h with (h | ⟨o, h⟩) | h
 ·exact .inl (.inl (s _ _ h))
 ·exact .inl (.inr ⟨o, s _ _ h⟩)
 ·exact .inr h
theorem vm (g : Nat -> Nat) : ∀ l : List Nat, (l.map fun k => [g k]).flatten = l.map g
 | [] => rfl
 | a :: r => by rw [List.map_cons, List.flatten_cons, vm g r]; rfl
theorem yz (g : Nat -> Nat) : ∀ l : List Nat, ((l.map fun k => [g k]).map List.length).sum = l.length
 | [] => rfl
 | a :: r => by have := yz g r; simp only [List.map_cons, List.sum_cons, List.length_cons, List.length_nil, this]; omega
theorem rj {K : W.Frag} {H1 : Hp} {D : Addr} {Q : VK} (l : List Nat) (g : Nat -> Nat) (hs : H1 D = some (.lst (l.map fun k => T [g k]))) (hl : l.length <= 1000) (q : Q (T (l.map g)) H1) : AA K (T []) [.ref D] H1 Q := by
 refine ⟨l.map fun k => [g k], SqL.of (by rw [hs, List.map_map]; rfl), ?_, ?_⟩
 ·unfold DQ; rw [yz]; simp [cs]; omega
 ·show Q (T (j_ [] _)) H1
  rw [sP, vm]; exact q
theorem lK {P : Program} {w : World} {X : Cx} : d7 (XE P w) X (fun _ _ _ _ => False) := fun _ _ _ _ _ _ _ ⟨_, _, _, _, _, _, _, _, _, _, _, q⟩ => q.elim
def AG : Option NameKind -> Bool
 | some .cell => true
 | some .free => true
 | _ => false
theorem vU {k : Option NameKind} : AG k = true ↔ (k = some .cell \/ k = some .free) := by
 cases k with
 | none => simp [AG]
 | some k => cases k <;> simp [AG]
theorem dA {cl : List (Str × Addr)} {fr : List Str} (h : (cl.map (·.1)).all (fun y => fr.elem y) = true) : ∀ y ∈ cl, y.1 ∈ fr := fun y hy => by
 have := List.all_eq_true.mp h y.1 (List.mem_map_of_mem hy)
 simpa using this
theorem bb {fr : List Str} {k : Str -> Option NameKind} (h : fr.all (fun y => AG (k y)) = true) : ∀ y ∈ fr, k y = some .cell \/ k y = some .free := fun y hy => vU.mp (List.all_eq_true.mp h y hy)
theorem dB {names : List (Str × NameKind)} {fr : List Str} (h : names.all (fun p => !AG (some p.2) || fr.elem p.1) = true) : ∀ y, (names.lookup y = some .cell \/ names.lookup y = some .free) -> y ∈ fr := fun y hy => by
 have hy' := vU.mpr hy
 cases e : names.lookup y with
 | none => rw [e] at hy'; cases hy'
 | some k =>
  rw [e] at hy'
  have := List.all_eq_true.mp h (y, k) (PySem.mem_of_lookup e)
  simpa [hy'] using this
end L2
namespace L2
open PySem PySem.Spec PyProof.Rows Builtin Builtin.Str
section
variable {X : Cx} {pos : Pos}
theorem DO {pins : List (Addr × Obj)} {σ : St} {H : Hp} {s : Shared} (I : Inv X pins σ H s) : sysModules < s.heap.objs.size :=
 Nat.lt_trans (by decide) (show mainGlobals < s.heap.objs.size from (I.mod.glob.keeps I.bk).lt)
def Dv : TE := fun _ H Q => ∀ p, H p = none -> Q (.ref p) (upd H p (.dK []))
theorem uD : PE X (.Dict [] [] pos) Dv := by
 intro pins s σ H Q I h
 have new : ObjOk X.prog X.w (upd H s.heap.objs.size (.dK [])) (s.heap.push { cls := .type "dict", data := .dict #[] }) s.heap.objs.size (.dK []) :=
  ⟨Nat.zero_le _, beq_eq_false_iff_ne.mpr (Ne.symm (Nat.ne_of_lt (DO I))), [], .nil, Heap.DictOf.new s.heap⟩
 exact wpAny_Dict_empty ⟨.ref s.heap.objs.size, _, I.laid (t' := s.toks) (fun _ _ q => Heap.get?_push_of_some _ q) (Nat.le_refl _) new, rfl, h _ (I.hok.fresh (Nat.le_refl _))⟩
theorem wx : ∀ (l : List (Array Nat)) (acc : Array Nat), (l.foldl (· ++ ·) acc).toList = acc.toList ++ (l.map Array.toList).flatten
 | [], acc => by simp
 | a :: r, acc => by rw [List.foldl_cons, wx r]; simp
theorem Fa (x : Str) (n : Int) : V.str (Txt.mul x n) = T ((List.replicate n.toNat (cs x)).flatten) := by
 unfold Txt.mul
 split
 ·rename_i h
  have e : n.toNat = 0 := by omega
  rw [e]; rfl
 ·rename_i h
  split
  ·rename_i h2
   rcases Bool.or_eq_true_iff.mp h2 with h3 | h3
   ·have e : n.toNat = 1 := by have := eq_of_beq h3; omega
    rw [e, EA]; simp
   ·have e : cs x = [] := by
     have := eq_of_beq h3
     simpa [cs, Str.length] using this
    rw [EA, e]; simp
  ·rw [EA]
   congr 1
   show ((List.replicate n.toNat x.cps).foldl (· ++ ·) #[]).toList = _
   rw [wx, List.map_replicate]; rfl
end
end L2
namespace L2
open PySem PySem.Spec PyProof.Rows Builtin Builtin.Str
section
variable {X : Cx}
structure Dj (C : Hp -> Prop) (J : It) (vs : List V) : Prop where
 go : ∀ i H, C H -> i < vs.length -> J.go i H
 yld : ∀ i H x H', C H -> i < vs.length -> J.yld i H x H' -> H' = H /\ vs[i]? = some x
 stop : ∀ H, C H -> J.stop vs.length H
theorem xP {J : It} {vs : List V} {σ' : St} {H1 : Hp} {Q : VK} {tt : TT} {te : TE} (C : Hp -> Prop) (E : Dj C J vs) (p : V -> Bool) (f : V -> V) (hlen : vs.length <= sizeLine)
 (hp : ∀ x ∈ vs, ∀ H (R : Bool -> Hp -> Prop), C H -> R (p x) H -> tt (some x :: σ') H R) (hf : ∀ x ∈ vs, p x = true -> ∀ H (R : VK), C H -> R (f x) H -> te (some x :: σ') H R)
 (D : Addr) (hD : H1 D = none) (hC : ∀ ys, C (upd H1 D (.lst ys))) (q : Q (.ref D) (upd H1 D (.lst ((vs.filter p).map f)))) :
 ∃ W : Nat -> Nat -> List V -> Hp -> Prop, (∃ m, W 0 m [] (upd H1 D (.lst []))) /\
  ∀ i m ys H2, W i m ys H2 -> H2 D = some (.lst ys) /\ ((J.stop i H2 /\ Q (.ref D) H2) \/ (J.go i H2 /\ ∀ x H3, J.yld i H2 x H3 ->
   tt (some x :: σ') H3 fun b H4 => if b = true then te (some x :: σ') H4 fun y H5 => H5 D = some (.lst ys) /\ ys.length < sizeLine /\ ∃ m', m' < m /\ W (i + 1) m' (ys ++ [y]) (upd H5 D (.lst (ys ++ [y])))
    else ∃ m', m' < m /\ W (i + 1) m' ys H4)) := by
 refine ⟨fun i m ys H2 => m = vs.length - i /\ i <= vs.length /\ ys = ((vs.take i).filter p).map f /\ H2 = upd H1 D (.lst ys), ⟨vs.length, by simp, Nat.zero_le _, by simp, rfl⟩, ?_⟩
 rintro i m ys H2 ⟨rfl, hi, hys, rfl⟩
 refine ⟨ai, ?_⟩
 by_cases hlt : i < vs.length
 ·refine .inr ⟨E.go i _ (hC _) hlt, fun x H3 y => ?_⟩
  obtain ⟨e, hx⟩ := E.yld i _ x H3 (hC _) hlt y
  subst e
  have hm : x ∈ vs := List.mem_of_getElem? hx
  have htk : vs.take (i + 1) = vs.take i ++ [x] := by
   rw [List.take_succ, hx]; rfl
  have hyl : ys.length <= i := by
   rw [hys, List.length_map]
   exact Nat.le_trans (List.length_filter_le _ _) (by simp [List.length_take]; omega)
  refine hp x hm _ _ (hC _) ?_
  cases hb : p x with
  | true =>
   rw [if_pos rfl]
   refine hf x hm hb _ _ (hC _) ⟨ai, by omega, vs.length - (i + 1), by omega, rfl, hlt, ?_, ?_⟩
   ·rw [htk, List.filter_append, List.map_append, <- hys]
    simp [hb]
   ·funext z
    by_cases hz : z = D
    ·subst hz; rw [ai, ai]
    ·rw [ay hz, ay hz, ay hz]
  | false =>
   rw [if_neg Bool.false_ne_true]
   refine ⟨vs.length - (i + 1), by omega, rfl, hlt, ?_, rfl⟩
   rw [htk, List.filter_append, List.map_append, <- hys]
   simp [hb]
 ·have e : i = vs.length := by omega
  subst e
  refine .inl ⟨E.stop _ (hC _), ?_⟩
  rw [List.take_length] at hys
  rw [hys]; exact q
theorem BF {K : W.Frag} {C : Hp -> Prop} {a : Addr} {vs : List V} (h : ∀ H, C H -> SqT K H a vs) : Dj C (Itt K a) vs :=
 ⟨fun i H c hi => ⟨vs, vs[i], h H c, List.getElem?_eq_getElem hi⟩, fun i H x H' c _ y => ⟨y.1, y.2 vs (h H c)⟩, fun H c => ⟨vs, h H c, Nat.le_refl _⟩⟩
end
end L2
namespace L2
open PySem PySem.Spec PyProof.Rows
section
variable {X : Cx} {K : W.Frag} {pos : Pos}
theorem uF (K : W.Frag) {es : List Expr} {k : Nat} {t : TGs} {n : Nat} (hc : X.calm = true) (h : PGs X es t) (hK : X.K = K := by rfl)
 (hn : (assignEach es X.env).length = n := by rfl) (hst : (assignEach es X.env).findIdx? (·.1) = none := by rfl) : PG X (.Tuple es k pos) (E2 K n t) := by
 subst hK; exact Fb hc h hn hst
end
section
variable {X : Cx} {T name id : String} {r : V -> List V -> Hp -> VK -> Prop} {o e : Expr} {es : List Expr} {to : TE} {t : TA} {apos cpos : Pos}
theorem eh (K : W.Frag) (pa : PlainAttrs T) (slot : Slot T name id) (hty : typeOf (.builtin id) = pure (.type "method_descriptor")) (hm : MtR X id r) (ho : PE X o to) (ha : PA X (e :: es) t) (hK : X.K = K := by rfl)
 (hbase : attributeBase o name X.env (eval o X.env) = eval o X.env := by rfl)
 (hfew : ((backTo cpos (starEach (e :: es) X.env)).all (fun x => !x.1) && (backToKw cpos (keywordEach [] X.env)).all (fun x => x.1.isSome)
  && decide ((e :: es).length + ([] : List Keyword).length + (if ([] : List Keyword).isEmpty then 0 else 1) < 30)) = true := by rfl)
 (hline : (apos.endLine == cpos.line) = true := by rfl) (hs : starEach (e :: es) X.env = (false, eval e X.env) :: starEach es X.env := by rfl) (hplain : (backTo cpos (starEach es X.env)).any (·.1) = false := by rfl) :
 PE X (.Call (.Attribute o name apos) (e :: es) [] cpos) (tBM K T r to t) := by
 subst hK; exact FK pa slot hty hm ho ha hbase hfew hline hs hplain
end
section
variable {K : W.Frag} {tl : TE} {ks : List Nat} {σ : St} {H : Hp} {Q : VK} {tt : TT} {te : TE}
end
end L2
namespace L2
end L2
namespace L2
open PySem PySem.Spec PyProof.Rows Builtin Builtin.Str
def spN (c : Nat) : List Nat -> List (List Nat)
 | [] => [[]]
 | a :: r => if a = c then [] :: spN c r else match spN c r with
  | h :: t => (a :: h) :: t
  | [] => [[a]]
section
variable {X : Cx} {e a b c : Expr} {pos : Pos}
def GO : V -> List V -> Hp -> VK -> Prop
 | .str x, [.str y], H, Q => (∃ c, cs y = [c] /\ (cs x).length + 2 <= sizeLine /\ ∀ p, H p = none -> Q (.ref p) (upd H p (.lst ((spN c (cs x)).map T))))
 | _, _, _, _ => False
def rC : List Nat -> List Nat -> Bool
 | _, [] => true
 | [], _ :: _ => false
 | a :: l, b :: r => decide (a = b) && rC l r
theorem wt : ∀ (x y : List Nat), rC x y = true ↔ x.take y.length = y
 | x, [] => by simp [rC]
 | [], b :: r => by simp [rC]
 | a :: l, b :: r => by simp [rC, wt l r]
def EH : V -> List V -> Hp -> VK -> Prop
 | .str x, [.str y], H, Q => Q (.bl (rC (cs x) (cs y))) H
 | _, _, _, _ => False
theorem Cd (x y : Str) : (decide (0 + y.length <= x.length) && Builtin.Str.subAt x y 0) = rC (cs x) (cs y) := by
 obtain ⟨⟨l⟩⟩ := x
 obtain ⟨⟨r⟩⟩ := y
 rw [Bool.eq_iff_iff, wt, Bool.and_eq_true]
 unfold Builtin.Str.subAt
 simp only [Str.length, cs, Nat.zero_add, decide_eq_true_eq, List.size_toArray, beq_iff_eq]
 have e : (⟨l⟩ : Array Nat).extract 0 r.length = ⟨r⟩ ↔ l.take r.length = r := by
  constructor
  ·intro h
   have := congrArg Array.toList h
   simpa using this
  ·intro h
   apply Array.toList_inj.mp
   simpa using h
 constructor
 ·rintro ⟨_, h⟩; exact e.mp h
 ·intro h
  refine ⟨?_, e.mpr h⟩
  have := congrArg List.length h
  rw [List.length_take] at this
  omega
theorem rO : MtR X "str.startswith" EH := by
 intro pins s σ H x xs v us Q I rx rs h
 unfold EH at h
 split at h
 ·rename_i x y
  obtain ⟨t, rfl⟩ := rx
  obtain ⟨u, rfl, t', rfl⟩ := gi rs
  refine call_meets F.slot_str_startswith (typeIs_str _ _ _) F.entry_str_startswith (F.args_str_startswith_2 _ _) (gives_str_startswith _ y t t').meets ?_
  exact ⟨.bl _, H, I, rfl, by rw [Cd]; exact h⟩
 ·exact h.elim
def EF : R2
 | .ref l, .ref b, H, Q => ∃ xs zs, H l = some (.lst xs) /\ H b = some (.lst zs) /\ xs.length + zs.length <= sizeLine /\ ∀ p, H p = none -> Q (.ref p) (upd H p (.lst (xs ++ zs)))
 | _, _, _, _ => False
theorem ud : OpR X (binaryOp .Add) EF := EU.imp fun x y H Q h => by
 unfold EF at h; split at h
 ·obtain ⟨xs, zs, h1, h2, h3, q⟩ := h
  exact ⟨_, _, xs, zs, rfl, rfl, h1, h2, h3, q⟩
 ·exact h.elim
def EG : R2
 | .ref l, .int k, H, Q => ∃ xs, H l = some (.lst xs) /\ -(2 ^ 63) <= k /\ k < 2 ^ 63 /\ xs.length * k.toNat <= sizeLine /\ ∀ p, H p = none -> Q (.ref p) (upd H p (.lst (List.replicate k.toNat xs).flatten))
 | _, _, _, _ => False
theorem Ek : OpR X (binaryOp .Mult) EG := Fd.imp fun x y H Q h => by
 unfold EG at h; split at h
 ·obtain ⟨xs, h1, h2, h3, h4, q⟩ := h
  exact ⟨_, _, xs, rfl, rfl, h1, h2, h3, h4, q⟩
 ·exact h.elim
theorem jL (K : W.Frag) (h : X.K = K := by rfl) : SlR X (Gd K) := h ▸ Ck
def Bu (K : W.Frag) : List V -> Hp -> VK -> Prop
 | [.ref p], H, Q => ∃ ys, (SqL K H p ys \/ SqT K H p ys) /\ ∀ l, H l = none -> Q (.ref l) (upd H l (.lst ys))
 | _, _, _ => False
theorem yj (K : W.Frag) (hK : X.K = K := by rfl) : CallR X (.type "list") (Bu K) := by
 subst hK
 refine uv.imp fun xs H Q h => ?_
 unfold Bu at h; split at h
 ·obtain ⟨ys, h1, q⟩ := h
  exact ⟨_, ys, rfl, h1, q⟩
 ·exact h.elim
def wN (K : W.Frag) : List V -> Hp -> VK -> Prop
 | [.ref p], H, Q => ∃ ys, (SqL K H p ys /\ ∀ l, H l = none -> Q (.ref l) (upd H l (.tup ys))) \/ (SqT K H p ys /\ Q (.ref p) H)
 | _, _, _ => False
theorem rg (K : W.Frag) (hK : X.K = K := by rfl) : CallR X (.type "tuple") (wN K) := by
 subst hK
 refine sC.imp fun xs H Q h => ?_
 unfold wN at h; split at h
 ·obtain ⟨ys, h1⟩ := h
  exact ⟨_, ys, rfl, h1⟩
 ·exact h.elim
inductive EqH (K : W.Frag) (H : Hp) : Nat -> V -> V -> Bool -> Prop
 | flat {n x y} : cC x = true -> cC y = true -> EqH K H n x y (eqV x y)
 | same {n p} : EqH K H n (.ref p) (.ref p) true
 | lst {n p q xs ys} {e : Nat -> Bool} : p ≠ q -> SqL K H p xs -> SqL K H q ys -> xs.length = ys.length -> (∀ j x y, xs[j]? = some x -> ys[j]? = some y -> EqH K H n x y (e j)) -> EqH K H (n + 1) (.ref p) (.ref q) ((List.range xs.length).all e)
 | len {n p q xs ys} : p ≠ q -> SqL K H p xs -> SqL K H q ys -> xs.length ≠ ys.length -> EqH K H (n + 1) (.ref p) (.ref q) false
 | tup {n p q xs ys} {e : Nat -> Bool} : p ≠ q -> SqT K H p xs -> SqT K H q ys -> (∀ j x y, xs[j]? = some x -> ys[j]? = some y -> EqH K H n x y (e j)) -> EqH K H (n + 1) (.ref p) (.ref q) ((List.range (min xs.length ys.length)).all e && xs.length == ys.length)
 | lt {n p q xs ys} : SqL K H p xs -> SqT K H q ys -> EqH K H (n + 1) (.ref p) (.ref q) false
 | tl {n p q xs ys} : SqT K H p xs -> SqL K H q ys -> EqH K H (n + 1) (.ref p) (.ref q) false
theorem ip {P : Value -> Value -> Bool -> Prop} {xs ys : List V} {its its' : List Value} {e : Nat -> Bool} (r : Vals xs its) (r' : Vals ys its') (h : ∀ j x y u v, xs[j]? = some x -> ys[j]? = some y -> RelV x u -> RelV y v -> P u v (e j)) :
 ∀ j (h1 : j < its.toArray.size) (h2 : j < its'.toArray.size), P its.toArray[j] its'.toArray[j] (e j) := fun j g1 g2 => by
 have h1 : xs.length = its.length := r.length
 have h2 : ys.length = its'.length := r'.length
 have g1' : j < its.length := by simpa using g1
 have g2' : j < its'.length := by simpa using g2
 have l1 : j < xs.length := by omega
 have l2 : j < ys.length := by omega
 obtain ⟨w1, e1, r1⟩ := r.get (List.getElem?_eq_getElem l1)
 obtain ⟨w2, e2, r2⟩ := r'.get (List.getElem?_eq_getElem l2)
 have z1 : its.toArray[j] = w1 := by
  have : its[j]? = some its[j] := List.getElem?_eq_getElem g1'
  rw [this] at e1; simpa using Option.some.inj e1
 have z2 : its'.toArray[j] = w2 := by
  have : its'[j]? = some its'[j] := List.getElem?_eq_getElem g2'
  rw [this] at e2; simpa using Option.some.inj e2
 rw [z1, z2]
 exact h j _ _ _ _ (List.getElem?_eq_getElem l1) (List.getElem?_eq_getElem l2) r1 r2
theorem EqH.at {K : W.Frag} {H : Hp} {n : Nat} {x y : V} {b : Bool} (h : EqH K H n x y b) : ∀ {X : Cx} {pins : List (Addr × Obj)} {σ : St} {s : Shared} {A : Around} {u v : Value}, X.K = K -> Inv X pins σ H s -> A.units + n < cLine -> RelV x u -> RelV y v -> SeqAt.EqAt A s u v b := by
 induction h with
 | flat fx fy =>
  intro X pins σ s A u v hK I hu rx ry
  exact Ax rx ry fx fy
 | same =>
  intro X pins σ s A u v hK I hu rx ry
  cases rx; cases ry
  exact SeqAt.EqAt.same _
 | @lst n p q xs ys e hpq hx hy hl _ ih =>
  intro X pins σ s A u v hK I hu rx ry
  cases rx; cases ry
  subst hK
  obtain ⟨its, r, pl, hz⟩ := I.list hx
  obtain ⟨its', r', pl', hz'⟩ := I.list hy
  have h1 : xs.length = its.length := r.length
  have h2 : ys.length = its'.length := r'.length
  have := SeqAt.RcAt.lists (A := A) (e := e) pl.isList pl'.isList (by simp; omega) (by omega) (ip r r' fun j x y u v g1 g2 r1 r2 => ih j x y g1 g2 rfl I (by show A.units + 1 + n < cLine; omega) r1 r2)
  rw [List.size_toArray, <- h1] at this
  exact .of_refs hpq this
 | @len n p q xs ys hpq hx hy hl =>
  intro X pins σ s A u v hK I hu rx ry
  cases rx; cases ry
  subst hK
  obtain ⟨its, r, pl, hz⟩ := I.list hx
  obtain ⟨its', r', pl', hz'⟩ := I.list hy
  have h1 : xs.length = its.length := r.length
  have h2 : ys.length = its'.length := r'.length
  exact .of_refs hpq (SeqAt.RcAt.lists_lengths pl.isList pl'.isList (by simp; omega) (by omega))
 | @tup n p q xs ys e hpq hx hy _ ih =>
  intro X pins σ s A u v hK I hu rx ry
  cases rx; cases ry
  subst hK
  obtain ⟨its, r, pl, hz⟩ := I.tuple hx
  obtain ⟨its', r', pl', hz'⟩ := I.tuple hy
  have h1 : xs.length = its.length := r.length
  have h2 : ys.length = its'.length := r'.length
  have := SeqAt.RcAt.tuples (A := A) (e := e) pl pl' (by omega) (ip r r' fun j x y u v g1 g2 r1 r2 => ih j x y g1 g2 rfl I (by show A.units + 1 + n < cLine; omega) r1 r2)
  rw [List.size_toArray, List.size_toArray, <- h1, <- h2] at this
  exact .of_refs hpq this
 | lt hx hy =>
  intro X pins σ s A u v hK I hu rx ry
  cases rx; cases ry
  subst hK
  obtain ⟨its, r, pl, hz⟩ := I.list hx
  obtain ⟨its', r', pl', hz'⟩ := I.tuple hy
  exact SeqAt.EqAt.list_tuple pl.isList pl' (by omega)
 | tl hx hy =>
  intro X pins σ s A u v hK I hu rx ry
  cases rx; cases ry
  subst hK
  obtain ⟨its, r, pl, hz⟩ := I.tuple hx
  obtain ⟨its', r', pl', hz'⟩ := I.list hy
  exact SeqAt.EqAt.tuple_list pl pl'.isList (by omega)
inductive EqR (K : W.Frag) (H : Hp) (p q : Addr) : Bool -> Prop
 | lst {xs ys} {e : Nat -> Bool} : SqL K H p xs -> SqL K H q ys -> xs.length = ys.length -> (∀ j x y, xs[j]? = some x -> ys[j]? = some y -> EqH K H 50 x y (e j)) -> EqR K H p q ((List.range xs.length).all e)
 | len {xs ys} : SqL K H p xs -> SqL K H q ys -> xs.length ≠ ys.length -> EqR K H p q false
 | tup {xs ys} {e : Nat -> Bool} : SqT K H p xs -> SqT K H q ys -> (∀ j x y, xs[j]? = some x -> ys[j]? = some y -> EqH K H 50 x y (e j)) -> EqR K H p q ((List.range (min xs.length ys.length)).all e && xs.length == ys.length)
def At (K : W.Frag) (neg : Bool) : R2
 | .ref p, .ref q, H, Q => ∃ b, EqR K H p q b /\ Q (.bl (neg ^^ b)) H
 | _, _, _, _ => False
theorem Ey (K : W.Frag) (hu : X.A.units + 100 < cLine) (hK : X.K = K := by rfl) : OpR X (compareOp .Eq) (At K false) := by
 subst hK
 intro pins s σ H x y v u Q I rx ry h
 unfold At at h
 split at h
 ·rename_i p q
  obtain ⟨b, hb, q⟩ := h
  cases rx; cases ry
  cases hb with
  | @lst xs ys e hx hy hl he =>
   obtain ⟨its, r, pl, hz⟩ := I.list hx
   obtain ⟨its', r', pl', hz'⟩ := I.list hy
   have h1 : xs.length = its.length := r.length
   have h2 : ys.length = its'.length := r'.length
   refine SeqAt.eq_listAt (e := e) pl.isList pl'.isList (by simp; omega) (by omega) (ip r r' fun j x y u v g1 g2 r1 r2 => (he j x y g1 g2).at rfl I (by show X.A.units + 1 + 50 < cLine; omega) r1 r2) ⟨.bl _, H, I, rfl, ?_⟩
   rw [List.size_toArray, <- h1]; simpa using q
  | @len xs ys hx hy hl =>
   obtain ⟨its, r, pl, hz⟩ := I.list hx
   obtain ⟨its', r', pl', hz'⟩ := I.list hy
   have h1 : xs.length = its.length := r.length
   have h2 : ys.length = its'.length := r'.length
   exact SeqAt.eq_list_lengthsAt pl.isList pl'.isList (by simp; omega) (by omega) ⟨.bl false, H, I, rfl, by simpa using q⟩
  | @tup xs ys e hx hy he =>
   obtain ⟨its, r, pl, hz⟩ := I.tuple hx
   obtain ⟨its', r', pl', hz'⟩ := I.tuple hy
   have h1 : xs.length = its.length := r.length
   have h2 : ys.length = its'.length := r'.length
   refine SeqAt.eq_tupleAt (e := e) pl pl' (by omega) (ip r r' fun j x y u v g1 g2 r1 r2 => (he j x y g1 g2).at rfl I (by show X.A.units + 1 + 50 < cLine; omega) r1 r2) ⟨.bl _, H, I, rfl, ?_⟩
   rw [List.size_toArray, List.size_toArray, <- h1, <- h2]; simpa using q
 ·exact h.elim
theorem EO (K : W.Frag) (hu : X.A.units + 100 < cLine) (hK : X.K = K := by rfl) : OpR X (compareOp .NotEq) (At K true) := by
 subst hK
 intro pins s σ H x y v u Q I rx ry h
 unfold At at h
 split at h
 ·rename_i p q
  obtain ⟨b, hb, q⟩ := h
  cases rx; cases ry
  cases hb with
  | @lst xs ys e hx hy hl he =>
   obtain ⟨its, r, pl, hz⟩ := I.list hx
   obtain ⟨its', r', pl', hz'⟩ := I.list hy
   have h1 : xs.length = its.length := r.length
   have h2 : ys.length = its'.length := r'.length
   refine SeqAt.RcNeAt.lists (e := e) pl.isList pl'.isList (by simp; omega) (by omega) (ip r r' fun j x y u v g1 g2 r1 r2 => (he j x y g1 g2).at rfl I (by show X.A.units + 1 + 50 < cLine; omega) r1 r2) X.prog X.w X.xe _ ⟨.bl _, H, I, rfl, ?_⟩
   rw [List.size_toArray, <- h1]; simpa using q
  | @len xs ys hx hy hl =>
   obtain ⟨its, r, pl, hz⟩ := I.list hx
   obtain ⟨its', r', pl', hz'⟩ := I.list hy
   have h1 : xs.length = its.length := r.length
   have h2 : ys.length = its'.length := r'.length
   exact SeqAt.RcNeAt.lists_lengths pl.isList pl'.isList (by simp; omega) (by omega) X.prog X.w X.xe _ ⟨.bl true, H, I, rfl, by simpa using q⟩
  | @tup xs ys e hx hy he =>
   obtain ⟨its, r, pl, hz⟩ := I.tuple hx
   obtain ⟨its', r', pl', hz'⟩ := I.tuple hy
   have h1 : xs.length = its.length := r.length
   have h2 : ys.length = its'.length := r'.length
   refine SeqAt.RcNeAt.tuples (e := e) pl pl' (by omega) (ip r r' fun j x y u v g1 g2 r1 r2 => (he j x y g1 g2).at rfl I (by show X.A.units + 1 + 50 < cLine; omega) r1 r2) X.prog X.w X.xe _ ⟨.bl _, H, I, rfl, ?_⟩
   rw [List.size_toArray, List.size_toArray, <- h1, <- h2]; simpa using q
 ·exact h.elim
theorem EqR.flatL {K : W.Frag} {H : Hp} {p q : Addr} {xs : List V} (hx : SqL K H p xs) (hy : SqL K H q xs) (f : xs.all cC = true) : EqR K H p q true := by
 have h := EqR.lst (K := K) (H := H) (e := fun j => eqV (xs.getD j .non) (xs.getD j .non)) hx hy rfl fun j x y gx gy => by
  have e1 : xs.getD j .non = x := by simp [List.getD, gx]
  rw [e1]
  rw [gx] at gy
  cases gy
  exact .flat (List.all_eq_true.mp f _ (List.mem_of_getElem? gx)) (List.all_eq_true.mp f _ (List.mem_of_getElem? gx))
 have e : (List.range xs.length).all (fun j => eqV (xs.getD j .non) (xs.getD j .non)) = true := by
  rw [List.all_eq_true]
  intro j hj
  have hf : cC (xs.getD j .non) = true := by
   have hj' : j < xs.length := by simpa using hj
   have : xs.getD j .non ∈ xs := by
    have e1 : xs.getD j .non = xs[j] := by simp [List.getD, hj']
    rw [e1]; exact List.getElem_mem hj'
   exact List.all_eq_true.mp f _ this
  generalize xs.getD j .non = z at hf
  cases z <;> simp [eqV] at hf ⊢ <;> simp [cC] at hf
 rw [e] at h; exact h
end
end L2
namespace PySem
open Sem (wp)
open Builtin
end PySem
namespace L2
open PySem PySem.Spec PyProof.Rows Builtin Builtin.Str
section
variable {X : Cx} {e a b c : Expr} {pos : Pos}
def fj (K : W.Frag) (neg : Bool) : R2 := fun x y H Q => match eqS x y with
 | some k => Q (.bl (neg ^^ k)) H
 | none => At K neg x y H Q
theorem bp (K : W.Frag) (hu : X.A.units + 100 < cLine) (hK : X.K = K := by rfl) : OpR X (compareOp .Eq) (fj K false) := ((DI (by omega)).or (Ey K hu hK)).imp fun x y H Q h => by
 unfold fj at h
 split at h
 ·rename_i k hk
  obtain ⟨h1, h2⟩ := vf hk
  exact .inl (.inl ⟨h1, by rw [h2]; simpa using h⟩)
 ·exact .inr h
theorem eW (K : W.Frag) (hu : X.A.units + 100 < cLine) (hK : X.K = K := by rfl) : OpR X (compareOp .NotEq) (fj K true) := ((EW (by omega)).or (EO K hu hK)).imp fun x y H Q h => by
 unfold fj at h
 split at h
 ·rename_i k hk
  obtain ⟨h1, h2⟩ := vf hk
  exact .inl (.inl ⟨h1, by rw [h2]; simpa using h⟩)
 ·exact .inr h
variable {K : W.Frag} {neg : Bool} {H : Hp} {Q : VK}
theorem yf {i j : Int} : fj K neg (.int i) (.int j) H Q = Q (.bl (neg ^^ decide (i = j))) H := rfl
theorem Bs {i j : Bool} : fj K neg (.bl i) (.bl j) H Q = Q (.bl (neg ^^ decide (i = j))) H := rfl
theorem yb {i j : Str} : fj K neg (.str i) (.str j) H Q = Q (.bl (neg ^^ decide (i.cps.toList = j.cps.toList))) H := rfl
theorem yh {p q : Addr} : fj K neg (.ref p) (.ref q) H Q = ∃ b, EqR K H p q b /\ Q (.bl (neg ^^ b)) H := rfl
theorem Bj : fj K neg .non .non H Q = Q (.bl (neg ^^ true)) H := rfl
theorem AK {i : Int} : fj K neg .non (.int i) H Q = Q (.bl (neg ^^ false)) H := rfl
theorem AU {i : Int} : fj K neg (.int i) .non H Q = Q (.bl (neg ^^ false)) H := rfl
theorem Bn {i : Int} {s : Str} : fj K neg (.int i) (.str s) H Q = Q (.bl (neg ^^ false)) H := rfl
theorem BE {i : Int} {s : Str} : fj K neg (.str s) (.int i) H Q = Q (.bl (neg ^^ false)) H := rfl
end
theorem Am {K : W.Frag} {tl : TE} {g : TG} {tb : TS} {D : fk} {σ : St} {H : Hp} (h : tl σ H fun v H1 => xx (tL K (tC v)) g tb D σ H1) : xx (tL K tl) g tb D σ H := h
theorem Bg {K : W.Frag} {a : Addr} {xs : List V} {g : TG} {tb : TS} {D : fk} {σ : St} {H : Hp} (hq : SqL K H a xs) (h : ∃ W : Nat -> Nat -> St -> Hp -> Prop, (∃ m, W 0 m σ H) /\ ∀ i m σ H, W i m σ H ->
 ((Itl K a).stop i H /\ D.nx σ H) \/ ((Itl K a).go i H /\ ∃ N : St -> Hp -> Prop, (∀ σ' H', N σ' H' -> ∃ m', m' < m /\ W (i + 1) m' σ' H') /\ ∀ x H', (Itl K a).yld i H x H' -> g x σ H' fun σ2 H2 => tb { D with nx := N, ct := N, bk := D.nx } σ2 H2)) : xx (tL K (tC (.ref a))) g tb D σ H := ⟨a, rfl, ⟨xs, hq⟩, h⟩
theorem cO {K : W.Frag} {H H' : Hp} {a : Addr} {xs : List V} (s : Same H H') (h : SqT K H a xs) : SqT K H' a xs := by
 rcases h with h | h
 ·rcases h with h | ⟨o, h⟩
  ·exact .inl (.inl (s _ _ h))
  ·exact .inl (.inr ⟨o, s _ _ h⟩)
 ·exact .inr h
theorem fY {H H' : Hp} {x : V} {t : String} (s : Same H H') (h : bi H x = some t) : bi H' x = some t := by
 cases x with
 | ref p =>
  unfold bi at h ⊢
  dsimp only at h ⊢
  cases e : H p with
  | none => rw [e] at h; cases h
  | some o => rw [e] at h; rw [s _ _ e]; exact h
 | _ => exact h
theorem Ag {n j : Nat} (h : j < n) : ixN n (j : Int) = some j := by
 unfold ixN
 rw [if_pos (by omega)]
 simp [h]
theorem Aq {xs : List V} {H H1 : Hp} {Q : VK} {i : Int} {q : Addr} {o : HO} (h : atI xs i = some (.ref q)) (hq : H q = none) (ho : H1 q = some o) (po : nM o = true) (k : Q (.ref q) (upd H q o)) : hX xs H H1 Q (.int i) := by
 unfold hX
 simp only [h, ho]
 exact ⟨hq, po, k⟩
theorem sH {ls : List (List Nat)} {H H1 : Hp} {Q : VK} {i : Int} (h0 : 0 <= i) (h1 : i < ls.length) (q : ∀ l ∈ ls, Q (T l) H) : hX (ls.map T) H H1 Q (.int i) := by
 obtain ⟨j, rfl⟩ : ∃ j : Nat, i = j := ⟨i.toNat, by omega⟩
 have hj : j < ls.length := by omega
 have e : atI (ls.map T) (j : Int) = some (T ls[j]) := aH (by simp [hj])
 simp only [hX, e]
 exact q _ (List.getElem_mem hj)
end L2
namespace L2
theorem bJ {k : Nat} {A : PySem.Around} (r : Room k A) : A.units + 100 < PySem.cLine := by have := r.un; omega
end L2
namespace L2
open PySem PySem.Spec PyProof.Rows
section
variable {κ : Type} [DecidableEq κ]
def iP (kvs : List (κ × V)) (k : κ) : Option V := (kvs.find? fun kv => decide (kv.1 = k)).map (·.2)
def k8 (kvs : List (κ × V)) (k : κ) (v : V) : List (κ × V) :=
 if (kvs.any fun kv => decide (kv.1 = k)) = true then kvs.map (fun kv => if kv.1 = k then (kv.1, v) else kv) else kvs ++ [(k, v)]
def kc (kvs : List (κ × V)) (k : κ) : List (κ × V) := kvs.filter fun kv => decide (kv.1 ≠ k)
theorem jU {p : κ × V} {r : List (κ × V)} {k : κ} (e : p.1 = k) : iP (p :: r) k = some p.2 := by simp [iP, List.find?_cons, e]
theorem jQ {p : κ × V} {r : List (κ × V)} {k : κ} (e : ¬ p.1 = k) : iP (p :: r) k = iP r k := by simp [iP, List.find?_cons, e]
theorem qU (k : κ) : ∀ kvs : List (κ × V), (kvs.any fun kv => decide (kv.1 = k)) = (iP kvs k).isSome
 | [] => rfl
 | p :: r => by
  rw [List.any_cons]
  by_cases e : p.1 = k
  ·simp only [jU e, decide_eq_true e, Bool.true_or, Option.isSome_some]
  ·rw [jQ e, decide_eq_false e, Bool.false_or]; exact qU k r
theorem pB (kvs : List (κ × V)) (k : κ) (v : V) : (k8 kvs k v).length <= kvs.length + 1 := by
 unfold k8
 split
 ·rw [List.length_map]; omega
 ·rw [List.length_append, List.length_cons, List.length_nil]; omega
theorem wb {kvs : List (κ × V)} {k : κ} (v : V) (h : iP kvs k = none) : k8 kvs k v = kvs ++ [(k, v)] := by
 unfold k8
 rw [qU, h]
 exact if_neg (by decide)
theorem RelO.isSome_eq {o : Option V} {u : Option Value} (r : RelO o u) : o.isSome = u.isSome := by
 cases o with
 | none => cases u with
  | none => rfl
  | some _ => exact (show False from r).elim
 | some _ => cases u with
  | none => exact (show False from r).elim
  | some _ => rfl
theorem KV.val {kvs : List (κ × V)} {vs : List (κ × Value)} (r : KV kvs vs) (k : κ) : RelO (iP kvs k) (valueAt vs k) := by
 unfold KV at r
 induction r with
 | nil => exact True.intro
 | @cons p q ps qs h t ih =>
  obtain ⟨h1, h2⟩ := h
  by_cases e : p.1 = k
  ·have e' : q.1 = k := h1.symm.trans e
   have b : valueAt (q :: qs) k = some q.2 := by simp [valueAt, List.find?_cons, e']
   rw [jU e, b]; exact h2
  ·have e' : ¬ q.1 = k := fun z => e (h1.trans z)
   have b : valueAt (q :: qs) k = valueAt qs k := by simp [valueAt, List.find?_cons, e']
   rw [jQ e, b]; exact ih
theorem KV.any {kvs : List (κ × V)} {vs : List (κ × Value)} (r : KV kvs vs) (k : κ) : (kvs.any fun kv => decide (kv.1 = k)) = vs.any fun kv => decide (kv.1 = k) := by
 unfold KV at r
 induction r with
 | nil => rfl
 | cons h t ih => rw [List.any_cons, List.any_cons, ih, h.1]
theorem KV.repl {kvs : List (κ × V)} {vs : List (κ × Value)} (r : KV kvs vs) (k : κ) {y : V} {u : Value} (ry : RelV y u) :
 KV (kvs.map fun kv => if kv.1 = k then (kv.1, y) else kv) (vs.map fun kv => if kv.1 = k then (kv.1, u) else kv) := by
 unfold KV at r ⊢
 induction r with
 | nil => exact .nil
 | @cons p q ps qs h t ih =>
  rw [List.map_cons, List.map_cons]
  refine .cons ?_ ih
  obtain ⟨h1, h2⟩ := h
  by_cases e : p.1 = k
  ·rw [if_pos e, if_pos (h1.symm.trans e)]; exact ⟨h1, ry⟩
  ·rw [if_neg e, if_neg (fun z => e (h1.trans z))]; exact ⟨h1, h2⟩
theorem KV.put {kvs : List (κ × V)} {vs : List (κ × Value)} (r : KV kvs vs) (k : κ) {y : V} {u : Value} (ry : RelV y u) : KV (k8 kvs k y) (stored vs k u) := by
 unfold k8 stored
 rw [r.any k]
 by_cases e : (vs.any fun kv => decide (kv.1 = k)) = true
 ·rw [if_pos e, if_pos e]; exact r.repl k ry
 ·rw [if_neg e, if_neg e]; exact Paired.snoc r ⟨rfl, ry⟩
theorem KV.drop {kvs : List (κ × V)} {vs : List (κ × Value)} (r : KV kvs vs) (k : κ) : KV (kc kvs k) (without vs k) := by
 unfold KV at r ⊢
 unfold kc without
 induction r with
 | nil => exact .nil
 | @cons p q ps qs h t ih =>
  obtain ⟨h1, h2⟩ := h
  rw [List.filter_cons, List.filter_cons]
  by_cases e : p.1 = k
  ·have a : ¬ decide (p.1 ≠ k) = true := by simp [e]
   have b : ¬ decide (q.1 ≠ k) = true := by simp [h1.symm.trans e]
   rw [if_neg a, if_neg b]; exact ih
  ·have e' : ¬ q.1 = k := fun z => e (h1.trans z)
   have a : decide (p.1 ≠ k) = true := by simp [e]
   have b : decide (q.1 ≠ k) = true := by simp [e']
   rw [if_pos a, if_pos b]; exact .cons ⟨h1, h2⟩ ih
theorem KV.keys {kvs : List (κ × V)} {vs : List (κ × Value)} (r : KV kvs vs) : kvs.map (·.1) = vs.map (·.1) := by
 unfold KV at r
 induction r with
 | nil => rfl
 | cons h t ih => rw [List.map_cons, List.map_cons, ih, h.1]
theorem KV.length {kvs : List (κ × V)} {vs : List (κ × Value)} (r : KV kvs vs) : kvs.length = vs.length := Paired.length r
theorem wD (kvs : List (κ × V)) (k : κ) : (kc kvs k).length <= kvs.length := List.length_filter_le _ _
end
theorem qN {P : Program} {w : World} {k : Key} {u : Value} (r : RelV (kV k) u) : (b_ P w).is k u = true := by
 cases k with
 | inl i => obtain ⟨t, e⟩ := (show ∃ t, u = Value.int i t from r); subst e; exact vD P w i t
 | inr x => obtain ⟨t, e⟩ := (show ∃ t, u = Value.str x t from r); subst e; exact vJ P w x t
theorem sK {P : Program} {w : World} : ∀ {ks : List Key} {us : List Value}, Vals (ks.map kV) us -> ItemsAre (b_ P w) ks us
 | [], _, r => by rw [List.map_nil] at r; cases r; exact .nil
 | k :: ks, _, r => by
  rw [List.map_cons] at r
  cases r with
  | cons h t => exact .cons (qN h) (sK t)
abbrev KT (H : Hp) : List (List Key × V) -> List (List Key × Addr × Value) -> Prop := Paired fun p q => p.1 = q.1 /\ H q.2.1 = some (.tup (p.1.map kV)) /\ RelV p.2 q.2.2
theorem KT.val {H : Hp} {kvs : List (List Key × V)} {xs : List (List Key × Addr × Value)} (r : KT H kvs xs) (k : List Key) : RelO (iP kvs k) ((atKey xs k).map (·.2)) := by
 induction r with
 | nil => exact True.intro
 | @cons p q ps qs h t ih =>
  obtain ⟨h1, _, h2⟩ := h
  by_cases e : p.1 = k
  ·have e' : q.1 = k := h1.symm.trans e
   have b : atKey (q :: qs) k = some q.2 := by simp [atKey, List.find?_cons, e']
   rw [jU e, b]; exact h2
  ·have e' : ¬ q.1 = k := fun z => e (h1.trans z)
   have b : atKey (q :: qs) k = atKey qs k := by simp [atKey, List.find?_cons, e']
   rw [jQ e, b]; exact ih
theorem KT.repl {H : Hp} {kvs : List (List Key × V)} {xs : List (List Key × Addr × Value)} (r : KT H kvs xs) (k : List Key) {y : V} {u : Value} (ry : RelV y u) :
 KT H (kvs.map fun kv => if kv.1 = k then (kv.1, y) else kv) (xs.map (putAt k u)) := by
 induction r with
 | nil => exact .nil
 | @cons p q ps qs h t ih =>
  rw [List.map_cons, List.map_cons]
  refine .cons ?_ ih
  obtain ⟨h1, h2, h3⟩ := h
  unfold putAt
  by_cases e : p.1 = k
  ·rw [if_pos e, if_pos (h1.symm.trans e)]; exact ⟨h1, h2, ry⟩
  ·rw [if_neg e, if_neg (fun z => e (h1.trans z))]; exact ⟨h1, h2, h3⟩
theorem KT.put {H : Hp} {kvs : List (List Key × V)} {xs : List (List Key × Addr × Value)} (r : KT H kvs xs) (k : List Key) {b : Addr} {y : V} {u : Value} (hb : H b = some (.tup (k.map kV))) (ry : RelV y u) :
 KT H (k8 kvs k y) (storedH xs k b u) := by
 have e : (kvs.any fun kv => decide (kv.1 = k)) = (atKey xs k).isSome := by
  rw [qU, (r.val k).isSome_eq, Option.isSome_map]
 unfold k8 storedH
 rw [e]
 by_cases q : (atKey xs k).isSome = true
 ·rw [if_pos q, if_pos q]; exact r.repl k ry
 ·rw [if_neg q, if_neg q]; exact Paired.snoc r ⟨rfl, hb, ry⟩
theorem KT.keeps {H H' : Hp} {kvs : List (List Key × V)} {xs : List (List Key × Addr × Value)} (r : KT H kvs xs) (ht : ∀ b ys, H b = some (.tup ys) -> H' b = some (.tup ys)) : KT H' kvs xs :=
 Paired.mapP r fun _ _ z => ⟨z.1, ht _ _ z.2.1, z.2.2⟩
section
variable {P : Program} {w : World} {H : Hp} {h : Heap} {a : Addr}
theorem Bt {u : HO} (ok : HOk P w H h) (e : Rd H a u) : ObjOk P w H h a u := e.ok ok
theorem tO {kvs : List (Key × V)} (ok : HOk P w H h) (e : Rd H a (.dK kvs)) : kvs.length <= sizeLine /\ (a == sysModules) = false /\ ∃ vs, KV kvs vs /\ h.DictOf (b_ P w) a vs :=
 show ObjOk P w H h a (.dK kvs) from Bt ok e
theorem yE {kvs : List (Key × V)} (ok : HOk P w H h) (e : H a = some (.dK kvs)) : kvs.length <= sizeLine /\ (a == sysModules) = false /\ ∃ vs, KV kvs vs /\ h.DictOf (b_ P w) a vs := tO ok (.inl e)
theorem rE {ks : List Key} (ok : HOk P w H h) (e : H a = some (.tup (ks.map kV))) : (tupleKind (b_ P w)).is h ks a := by
 obtain ⟨_, its, r, o, h1, h2, n, h3⟩ := (show ObjOk P w H h a (.tup (ks.map kV)) from ok a _ e)
 exact ⟨o, its.toArray, n, h1, h2, h3, by simpa using sK r⟩
theorem tM {kvs : List (List Key × V)} (ok : HOk P w H h) (e : Rd H a (.dT kvs)) : kvs.length <= sizeLine /\ (a == sysModules) = false /\
 ∃ xs, KT H kvs xs /\ h.DictOfH (tupleKind (b_ P w)) a xs := by
 obtain ⟨z, y, xs, r, o, es, ep, h1, h2, h3, h4, h5⟩ := (show ObjOk P w H h a (.dT kvs) from Bt ok e)
 refine ⟨z, y, xs, r, o, es, ep, h1, h2, h3, h4, fun x hx => ?_, h5⟩
 have all : ∀ {l : List (List Key × V)} {m : List (List Key × Addr × Value)}, KT H l m -> ∀ x ∈ m, (tupleKind (b_ P w)).is h x.1 x.2.1 := by
  intro l m q
  induction q with
  | nil => intro x hx; exact nomatch hx
  | @cons p q ps qs hq t ih =>
   intro x hx
   rcases List.mem_cons.mp hx with e | hx
   ·subst e
    exact rE ok (by rw [<- hq.1]; exact hq.2.1)
   ·exact ih x hx
 exact all r x hx
theorem FW {kvs : List (List Key × V)} (ok : HOk P w H h) (e : H a = some (.dT kvs)) : kvs.length <= sizeLine /\ (a == sysModules) = false /\
 ∃ xs, KT H kvs xs /\ h.DictOfH (tupleKind (b_ P w)) a xs := tM ok (.inl e)
end
def DGet (H : Hp) (a : Addr) (y : V) (r : Option V) : Prop :=
 (∃ kvs k, Rd H a (.dK kvs) /\ y = kV k /\ r = iP kvs k) \/ ∃ kvs k b, Rd H a (.dT kvs) /\ y = .ref b /\ H b = some (.tup (k.map kV)) /\ r = iP kvs k
def DPut (H : Hp) (a : Addr) (y v : V) (H' : Hp) : Prop :=
 (∃ kvs k, H a = some (.dK kvs) /\ y = kV k /\ kvs.length < sizeLine /\ H' = upd H a (.dK (k8 kvs k v))) \/
 ∃ kvs k b, H a = some (.dT kvs) /\ y = .ref b /\ H b = some (.tup (k.map kV)) /\ kvs.length < sizeLine /\ H' = upd H a (.dT (k8 kvs k v))
theorem DGet.k {H : Hp} {a : Addr} {kvs : List (Key × V)} {k : Key} (e : H a = some (.dK kvs)) : DGet H a (kV k) (iP kvs k) := .inl ⟨kvs, k, .inl e, rfl, rfl⟩
theorem DPut.k {H : Hp} {a : Addr} {kvs : List (Key × V)} {k : Key} {v : V} (e : H a = some (.dK kvs)) (hl : kvs.length < sizeLine) : DPut H a (kV k) v (upd H a (.dK (k8 kvs k v))) := .inl ⟨kvs, k, e, rfl, hl, rfl⟩
section
variable {X : Cx} {pins : List (Addr × Obj)} {σ : St} {H : Hp} {s : Shared} {a : Addr} {y v : V} {u r : Value} {o : Option V} {A : Around} {E : Value -> Shared -> Prop}
theorem zv {Q : Value -> Shared -> Prop} (hu : A.units + 1 < cLine) (I : Inv X pins σ H s) (g : DGet H a y (some v)) (ry : RelV y u) (h : ∀ w' s', Inv X pins σ H s' -> RelV v w' -> Q w' s') :
 wpAny (model X.prog X.w) A (getItem (.ref a) u) Q E s := by
 rcases g with ⟨kvs, k, e, ey, l⟩ | ⟨kvs, k, b, e, ey, eb, l⟩
 ·subst ey
  obtain ⟨z, hd, vs, rel, dd⟩ := tO I.hok e
  obtain ⟨w', hw, rw'⟩ := RelO.some_of (v := v) (o := valueAt vs k) (by rw [l]; exact rel.val k)
  exact wpAny_getItem_of (qN ry) dd.mapOf hw (h w' _ (I.tok _) rw')
 ·subst ey
  cases (show u = Value.ref b from ry)
  obtain ⟨z, hd, xs, rel, dd⟩ := tM I.hok e
  obtain ⟨w', hw, rw'⟩ := RelO.some_of (v := v) (o := (atKey xs k).map (·.2)) (by rw [l]; exact rel.val k)
  obtain ⟨p, hp, hp2⟩ := Option.map_eq_some_iff.mp hw
  refine wpAny_getItem_heap (tupleKind_room_in1 hu) (rE I.hok eb) dd hp ?_
  rw [hp2]
  exact h w' _ (I.tok _) rw'
theorem GM {Q : Value -> Shared -> Prop} (hu : A.units + 1 < cLine) (I : Inv X pins σ H s) (g : DGet H a y o) (ry : RelV y u) (h : ∀ s', Inv X pins σ H s' -> Q (.bool o.isSome) s') :
 wpAny (model X.prog X.w) A (compareOp .In u (.ref a)) Q E s := by
 rcases g with ⟨kvs, k, e, ey, l⟩ | ⟨kvs, k, b, e, ey, eb, l⟩
 ·subst ey
  obtain ⟨z, hd, vs, rel, dd⟩ := tO I.hok e
  refine wpAny_in_of (qN ry) hd dd.mapOf ?_
  rw [<- (rel.val k).isSome_eq, <- l]
  exact h _ (I.tok _)
 ·subst ey
  cases (show u = Value.ref b from ry)
  obtain ⟨z, hd, xs, rel, dd⟩ := tM I.hok e
  refine wpAny_in_heap (tupleKind_room_in1 hu) (rE I.hok eb) hd dd ?_
  have q := (rel.val k).isSome_eq
  rw [Option.isSome_map] at q
  rw [<- q, <- l]
  exact h _ (I.tok _)
theorem B0 {Q : Value -> Shared -> Prop} (hu : A.units + 1 < cLine) (I : Inv X pins σ H s) (g : DGet H a y o) (ry : RelV y u) (h : ∀ s', Inv X pins σ H s' -> Q (.bool (!o.isSome)) s') :
 wpAny (model X.prog X.w) A (compareOp .NotIn u (.ref a)) Q E s := by
 rcases g with ⟨kvs, k, e, ey, l⟩ | ⟨kvs, k, b, e, ey, eb, l⟩
 ·subst ey
  obtain ⟨z, hd, vs, rel, dd⟩ := tO I.hok e
  refine wpAny_notIn_of (qN ry) hd dd.mapOf ?_
  rw [<- (rel.val k).isSome_eq, <- l]
  exact h _ (I.tok _)
 ·subst ey
  cases (show u = Value.ref b from ry)
  obtain ⟨z, hd, xs, rel, dd⟩ := tM I.hok e
  refine wpAny_notIn_heap (tupleKind_room_in1 hu) (rE I.hok eb) hd dd ?_
  have q := (rel.val k).isSome_eq
  rw [Option.isSome_map] at q
  rw [<- q, <- l]
  exact h _ (I.tok _)
theorem qE {h' : Heap} {t' : Nat} {ob : HO} (I : Inv X pins σ H s) (mu : Mut (H a)) (hs : Heap.SameBut a s.heap h') (he : ∃ q, h'.get? a = some q) (new : ObjOk X.prog X.w (upd H a ob) h' a ob) :
 Inv X pins σ (upd H a ob) { s with heap := h', toks := t' } :=
 I.write (x := a) (e := a) mu (.inl rfl) (fun b q hb z => (hs.2 b hb).trans z) he new
theorem wS {P : Program} {w : World} {H' : Hp} {h' : Heap} {kvs : List (Key × V)} {vs : List (Key × Value)} (z : kvs.length <= sizeLine) (hd : (a == sysModules) = false) (rel : KV kvs vs) (dd : h'.DictOf (b_ P w) a vs) :
 ObjOk P w H' h' a (.dK kvs) := ⟨z, hd, vs, rel, dd⟩
theorem zz {H' : Hp} {Q : Unit -> Shared -> Prop} (hu : A.units + 1 < cLine) (I : Inv X pins σ H s) (g : DPut H a y v H') (ry : RelV y u) (rv : RelV v r) (h : ∀ s', Inv X pins σ H' s' -> Q () s') :
 wpAny (model X.prog X.w) A (setItem (.ref a) u r) Q E s := by
 rcases g with ⟨kvs, k, e, ey, l, eH⟩ | ⟨kvs, k, b, e, ey, eb, l, eH⟩
 ·subst ey eH
  obtain ⟨z, hd, vs, rel, dd⟩ := yE I.hok e
  have hz : vs.length <= sizeLine := by rw [<- rel.length]; exact z
  have hl : (k8 kvs k v).length <= sizeLine := by have := pB kvs k v; omega
  refine wpAny_setItem_pairs (hsz := hz) (qN ry) dd fun h' dd' hs => h _ ?_
  have he : ∃ q, h'.get? a = some q := let ⟨q, _, _, hq, _⟩ := dd'; ⟨q, hq⟩
  exact qE I (by rw [e]; exact True.intro) hs he (wS hl hd (rel.put k rv) dd')
 ·subst ey eH
  cases (show u = Value.ref b from ry)
  obtain ⟨z, hd, xs, rel, dd⟩ := FW I.hok e
  have hz : xs.length <= sizeLine := by rw [<- Paired.length rel]; exact z
  have hl : (k8 kvs k v).length <= sizeLine := by have := pB kvs k v; omega
  refine wpAny_setItem_heap (hsz := hz) (tupleKind_room_in1 hu) (rE I.hok eb) dd fun h' dd' hs => h _ ?_
  obtain ⟨q, es, ep, hq, h2, h3, h4, _, h5⟩ := dd'
  refine qE I (by rw [e]; exact True.intro) hs ⟨q, hq⟩ ⟨hl, hd, _, (rel.put k eb rv).keeps fun c ys ec => ?_, q, es, ep, hq, h2, h3, h4, h5⟩
  rw [ay (FJ ec e (fun z => nomatch z))]
  exact ec
end
section
variable {X : Cx} {pins : List (Addr × Obj)} {σ : St} {H : Hp} {s : Shared} {a : Addr} {kvs : List (Key × V)} {k : Key} {u : Value} {A : Around} {E : Value -> Shared -> Prop}
theorem Ff {Q : Unit -> Shared -> Prop} (I : Inv X pins σ H s) (e : H a = some (.dK kvs)) (ry : RelV (kV k) u) (l : (iP kvs k).isSome = true) (h : ∀ s', Inv X pins σ (upd H a (.dK (kc kvs k))) s' -> Q () s') :
 wpAny (model X.prog X.w) A (delItem (.ref a) u) Q E s := by
 obtain ⟨z, hd, vs, rel, dd⟩ := yE I.hok e
 refine wpAny_delItem_slot dd.typeIs (by decide) PySem.F.slot_dict_delitem
  (call_meetsIn PySem.F.slot_dict_delitem dd.typeIs PySem.F.entry_dict_delitem (PySem.F.args_dict_delitem_2 _ _) (meets_dict_delitem_pairs (b_ X.prog X.w) a (qN ry)) ⟨vs, dd, by rw [<- rel.length]; exact z, by rw [<- (rel.val k).isSome_eq]; exact l, fun h' dd' hs => h _ ?_⟩)
 have he : ∃ q, h'.get? a = some q := let ⟨q, _, _, hq, _⟩ := dd'; ⟨q, hq⟩
 exact qE I (by rw [e]; exact True.intro) hs he (wS (Nat.le_trans (wD kvs k) z) hd (rel.drop k) dd')
theorem F_ {v : V} {more : List Value} {Q : Value -> Shared -> Prop} (I : Inv X pins σ H s) (e : H a = some (.dK kvs)) (ry : RelV (kV k) u) (l : iP kvs k = some v) (hm : more = [] \/ ∃ x, more = [x])
 (h : ∀ w' s', Inv X pins σ (upd H a (.dK (kc kvs k))) s' -> RelV v w' -> Q w' s') : wpAny (model X.prog X.w) A (call (.builtin "dict.pop") (.ref a :: u :: more)) Q E s := by
 obtain ⟨z, hd, vs, rel, dd⟩ := yE I.hok e
 obtain ⟨w', hw, rw'⟩ := RelO.some_of (v := v) (o := valueAt vs k) (by rw [<- l]; exact rel.val k)
 have hp : (keyPart u).isSome = true := by
  cases k with
  | inl i => obtain ⟨t, q⟩ := (show ∃ t, u = Value.int i t from ry); subst q; rfl
  | inr x => obtain ⟨t, q⟩ := (show ∃ t, u = Value.str x t from ry); subst q; rfl
 have ha : argsOk "dict.pop" ⟨.ref a :: u :: more, []⟩ := by
  rcases hm with q | ⟨x, q⟩
  ·subst q; exact PySem.F.args_dict_pop_2 _ _
  ·subst q; exact PySem.F.args_dict_pop_3 _ _ _
 refine call_meetsIn PySem.F.slot_dict_pop dd.typeIs PySem.F.entry_dict_pop ha (meets_dict_pop_there (b_ X.prog X.w) a (qN ry) more hm hp)
  ⟨vs, w', dd, by rw [<- rel.length]; exact z, hw, fun h' dd' hs => h w' _ ?_ rw'⟩
 have he : ∃ q, h'.get? a = some q := let ⟨q, _, _, hq, _⟩ := dd'; ⟨q, hq⟩
 exact qE I (by rw [e]; exact True.intro) hs he (wS (Nat.le_trans (wD kvs k) z) hd (rel.drop k) dd')
end
def Fh (i : Expr) : Prop := ∀ ov iv, subscripted i false ov iv = operate [ov, iv] (getItem ov iv)
theorem Cl {prog : Program} {w : World} {A : Around} {E : Value -> Shared -> Prop} {s : Shared} {env : Env} {value slice : Expr} {pos : Pos} {T id : String} {Q : Value -> Shared -> Prop}
 (hl : typeLookup (.type T) "__getitem__" = pure (some (.builtin id))) (hs : Fh slice)
 (h : wpAny (model prog w) A (eval value env) (fun o s₁ => wpAny (model prog w) A (eval slice env) (fun i s₂ => s₂.TypeIs o T /\ wpAny (model prog w) A (getItem o i) Q E s₂) E s₁) E s) :
 wpAny (model prog w) A (eval (.Subscript value slice pos) env) Q E s := by
 refine Subscript_ (wpAny_mono h (fun o s₁ h₁ => wpAny_mono h₁ (fun i s₂ h₂ => ?_) fun _ _ x => x) fun _ _ x => x)
 obtain ⟨hT, h₂⟩ := h₂
 unfold subscriptTail
 refine wpAny_bind ?_
 rw [getitemInPython_of_ne hT.not_modules]
 refine wpAny_bind (wpAny_specialOf hT hl ?_)
 have fin : wpAny (model prog w) A (subscripted slice false o i) (fun r s₃ => wpAny (model prog w) A (letTemporaryGo value o r >>= fun _ => pure r) Q E s₃) E s₂ := by
  rw [hs o i]
  exact wpAny_operating (wpAny_mono h₂ (fun r s₃ h₃ => wpAny_bind (wpAny_letTemporaryGo (wpAny_pure h₃))) fun _ _ x => x)
 first
  | exact wpAny_pure (wpAny_bind fin)
  | exact wpAny_bind (wpAny_pure (wpAny_bind fin))
  | exact wpAny_bind fin
theorem wB {X : Cx} {pins : List (Addr × Obj)} {σ : St} {H : Hp} {s : Shared} {a : Addr} {y : V} {o : Option V} (I : Inv X pins σ H s) (g : DGet H a y o) : s.TypeIs (.ref a) "dict" := by
 rcases g with ⟨kvs, k, e, _, _⟩ | ⟨kvs, k, b, e, _, _, _⟩
 ·obtain ⟨_, _, vs, _, dd⟩ := tO I.hok e
  exact dd.typeIs
 ·obtain ⟨_, _, xs, _, dd⟩ := tM I.hok e
  exact dd.typeIs
def Dw (td ty : TE) : TE := fun σ H Q => td σ H fun x H1 => ty σ H1 fun y H2 => ∃ a v, x = .ref a /\ DGet H2 a y (some v) /\ Q v H2
def FS (ty td : TE) : TE := fun σ H Q => ty σ H fun y H1 => td σ H1 fun x H2 => ∃ a o, x = .ref a /\ DGet H2 a y o /\ Q (.bl o.isSome) H2
def yR (ty td : TE) : TE := fun σ H Q => ty σ H fun y H1 => td σ H1 fun x H2 => ∃ a o, x = .ref a /\ DGet H2 a y o /\ Q (.bl (!o.isSome)) H2
def Dp (td ty tv : TE) : TS := fun D σ H => tv σ H fun v H1 => td σ H1 fun x H2 => ty σ H2 fun y H3 => ∃ a H4, x = .ref a /\ DPut H3 a y v H4 /\ D.nx σ H4
section
variable {X : Cx} {o i e value : Expr} {pos pos' tpos : Pos} {td ty tv : TE}
theorem uV (hu : X.A.units + 1 < cLine) (ho : PE X o td) (hi : PE X i ty) (hs : Fh i) : PE X (.Subscript o i pos) (Dw td ty) := by
 intro pins s σ H Q I h
 refine Cl PySem.F.slot_dict_getitem.lookup hs (thn (ho pins s σ H _ I h) fun u s1 ⟨x, H1, I1, rx, q1⟩ => thn (hi pins s1 σ H1 _ I1 q1) fun iv s2 ⟨y, H2, I2, ry, a, v, ex, g, q2⟩ => ?_)
 subst ex
 obtain rfl : u = Value.ref a := rx
 exact ⟨wB I2 g, zv hu I2 g ry fun w' s3 I3 rw' => ⟨v, H2, I3, rw', q2⟩⟩
theorem xb (hu : X.A.units + 1 < cLine) (hi : PE X i ty) (ho : PE X o td) : PC X .In i o (FS ty td) := by
 intro pins s σ H Q I h
 refine thn (hi pins s σ H _ I h) fun iv s1 ⟨y, H1, I1, ry, q1⟩ => thn (ho pins s1 σ H1 _ I1 q1) fun u s2 ⟨x, H2, I2, rx, a, ov, ex, g, q2⟩ => ?_
 subst ex
 obtain rfl : u = Value.ref a := rx
 exact GM hu I2 g ry fun s3 I3 => ⟨.bl ov.isSome, H2, I3, rfl, q2⟩
theorem nF (hu : X.A.units + 1 < cLine) (hi : PE X i ty) (ho : PE X o td) : PC X .NotIn i o (yR ty td) := by
 intro pins s σ H Q I h
 refine thn (hi pins s σ H _ I h) fun iv s1 ⟨y, H1, I1, ry, q1⟩ => thn (ho pins s1 σ H1 _ I1 q1) fun u s2 ⟨x, H2, I2, rx, a, ov, ex, g, q2⟩ => ?_
 subst ex
 obtain rfl : u = Value.ref a := rx
 exact B0 hu I2 g ry fun s3 I3 => ⟨.bl (!ov.isSome), H2, I3, rfl, q2⟩
theorem y0 (hu : X.A.units + 1 < cLine) (ho : PE X o td) (hi : PE X i ty) (hv : PE X value tv) (hs : swapsWith value (some (.Subscript o i pos')) pos.line X.env = pure false) :
 PS X (.Assign [.Subscript o i pos'] value pos) (Dp td ty tv) := by
 intro pins s σ H D I h
 refine wpAny_Assign_Subscript (thn (hv pins s σ H _ I h) fun r s1 ⟨v, H1, I1, rv, q1⟩ => thn (ho pins s1 σ H1 _ I1 q1) fun u s2 ⟨x, H2, I2, rx, q2⟩ => thn (hi pins s2 σ H2 _ I2 q2) fun iv s3 ⟨y, H3, I3, ry, a, H4, ex, g, q3⟩ => ?_) hs
 subst ex
 obtain rfl : u = Value.ref a := rx
 exact zz hu I3 g ry rv fun s4 I4 => ⟨σ, H4, I4, q3⟩
end
section
variable {X : Cx} {pos : Pos}
end
structure M1 (X : Cx) (o : Expr) (m : Str) (apos : Pos) (e : Expr) (cpos : Pos) : Prop where
 base : attributeBase o m X.env (eval o X.env) = eval o X.env
 few : ((backTo cpos (starEach [e] X.env)).all (fun x => !x.1) && (backToKw cpos (keywordEach [] X.env)).all (fun x => x.1.isSome)
  && decide (([e] : List Expr).length + ([] : List Keyword).length + (if ([] : List Keyword).isEmpty then 0 else 1) < 30)) = true
 line : (apos.endLine == cpos.line) = true
 trees : backTo cpos (starEach [e] X.env) = [(false, eval e X.env)]
structure M2 (X : Cx) (o : Expr) (m : Str) (apos : Pos) (e f : Expr) (cpos : Pos) : Prop where
 base : attributeBase o m X.env (eval o X.env) = eval o X.env
 few : ((backTo cpos (starEach [e, f] X.env)).all (fun x => !x.1) && (backToKw cpos (keywordEach [] X.env)).all (fun x => x.1.isSome)
  && decide (([e, f] : List Expr).length + ([] : List Keyword).length + (if ([] : List Keyword).isEmpty then 0 else 1) < 30)) = true
 line : (apos.endLine == cpos.line) = true
 trees : backTo cpos (starEach [e, f] X.env) = [(false, eval e X.env), (false, eval f X.env)]
def IsD (H : Hp) (a : Addr) : Prop := (∃ kvs, Rd H a (.dK kvs)) \/ ∃ kvs, Rd H a (.dT kvs)
theorem ED {X : Cx} {pins : List (Addr × Obj)} {σ : St} {H : Hp} {s : Shared} {a : Addr} (I : Inv X pins σ H s) (d : IsD H a) :
 s.TypeIs (.ref a) "dict" /\ (∀ b, Value.ref a = .ref b -> ∃ ob, s.heap.get? b = some ob /\ ob.dict = none) /\ (a == sysModules) = false := by
 rcases d with ⟨kvs, e⟩ | ⟨kvs, e⟩
 ·obtain ⟨_, hd, vs, _, dd⟩ := tO I.hok e
  refine ⟨dd.typeIs, fun b q => ?_, hd⟩
  cases q
  obtain ⟨ob, _, _, h1, h2, _⟩ := dd
  exact ⟨ob, h1, h2.2.1⟩
 ·obtain ⟨_, hd, xs, _, dd⟩ := tM I.hok e
  refine ⟨dd.typeIs, fun b q => ?_, hd⟩
  cases q
  obtain ⟨ob, _, _, h1, h2, _⟩ := dd
  exact ⟨ob, h1, h2.2.1⟩
section
variable {X : Cx} {pins : List (Addr × Obj)} {σ : St} {H : Hp} {s : Shared} {a : Addr} {y d : V} {u r : Value} {o : Option V} {A : Around} {E : Value -> Shared -> Prop}
end
def xQ (td ty : TE) : TE := fun σ H Q => td σ H fun x H1 => ∃ a, x = .ref a /\ IsD H1 a /\ ty σ H1 fun y H2 => ∃ kvs k v, H2 a = some (.dK kvs) /\ y = kV k /\ iP kvs k = some v /\ Q v (upd H2 a (.dK (kc kvs k)))
section
variable {X : Cx} {o e f : Expr} {apos cpos : Pos} {td ty tx : TE}
theorem wM (ho : PE X o td) (he : PE X e ty) (m : M1 X o "pop" apos e cpos) : PE X (.Call (.Attribute o "pop" apos) [e] [] cpos) (xQ td ty) := by
 intro pins s σ H Q I h
 refine wpAny_Call_method m.base m.few m.line PySem.F.plainAttrs_dict PySem.F.slot_dict_pop PySem.F.type_dict_pop (thn (ho pins s σ H _ I h) fun u s1 ⟨x, H1, I1, rx, a, ex, d, q1⟩ => ?_)
 subst ex
 obtain rfl : u = Value.ref a := rx
 obtain ⟨t1, t2, _⟩ := ED I1 d
 refine ⟨t1, t2, ?_⟩
 rw [m.trees]
 refine Calls.callWith_builtin rfl (Calls.evalArgs_plain (Calls.spliced_cons (thn (he pins s1 σ H1 _ I1 q1) fun iv s2 ⟨y, H2, I2, ry, kvs, k, v, ea, ey, l, q2⟩ => Calls.spliced_nil ?_)))
 subst ey
 exact F_ I2 ea ry l (.inl rfl) fun w' s3 I3 rw' => ⟨v, _, I3, rw', q2⟩
end
section
variable {X : Cx} {pins : List (Addr × Obj)} {σ : St} {H : Hp} {s : Shared} {a : Addr} {kvs : List (Key × V)} {A : Around} {E : Value -> Shared -> Prop}
end
section
variable {X : Cx} {pins : List (Addr × Obj)} {σ : St} {H : Hp} {s : Shared} {a : Addr} {y : V} {u : Value} {A : Around} {E : Value -> Shared -> Prop}
end
end L2
namespace L2
open PySem PySem.Spec PyProof.Rows
section
variable {X : Cx} {e o value : Expr} {f : Str} {ta tv : TE} {pos pos' : Pos}
def Eo (K : W.Frag) (f : Str) : V -> Hp -> VK -> Prop
 | .ref p, H, Q => ∃ C dx fs v, H p = some (.ins C dx fs) /\ Cls K C /\ NoAttr K C f /\ fs.lookup f = some v /\ Q v H
 | _, _, _ => False
def Do (K : W.Frag) (ta : TE) (f : Str) : TE := fun σ H Q => ta σ H fun x H1 => Eo K f x H1 Q
theorem dJ (K : W.Frag) (he : PE X e ta) (hK : X.K = K := by rfl) (hb : attributeBase e f X.env (eval e X.env) = eval e X.env := by rfl) : PE X (.Attribute e f pos) (Do K ta f) := by
 subst hK
 intro pins s σ H Q I h
 refine B4 hb (thn (he pins s σ H _ I h) fun u s1 ⟨x, H1, I1, rx, q⟩ => ?_)
 dsimp only at q
 unfold Eo at q
 split at q
 ·rename_i a
  obtain ⟨C, dx, fs, v, ea, c, n, l, q⟩ := q
  obtain rfl : u = Value.ref a := rx
  exact xk I1 ea c n l fun u' s2 I2 ru => ⟨v, H1, I2, ru, q⟩
 ·exact q.elim
def Ar (K : W.Frag) (f : Str) (y : V) : V -> Hp -> (Hp -> Prop) -> Prop
 | .ref p, H, Q => ∃ C dx fs, H p = some (.ins C dx fs) /\ Cls K C /\ NoAttr K C f /\ fs.length < 1000 /\ Q (upd H p (.ins C dx (fR f y fs)))
 | _, _, _ => False
def Dr (K : W.Frag) (ta tv : TE) (f : Str) : TS := fun D σ H => tv σ H fun y H1 => ta σ H1 fun x H2 => Ar K f y x H2 fun H3 => D.nx σ H3
theorem mS (K : W.Frag) (ha : PE X o ta) (hv : PE X value tv) (hK : X.K = K := by rfl) (hs : swapsWith value (some (.Attribute o f pos')) pos.line X.env = pure false := by rfl) : PS X (.Assign [.Attribute o f pos'] value pos) (Dr K ta tv f) := by
 subst hK
 intro pins s σ H D I h
 refine plainObj_wpAny_Assign_Attribute (thn (hv pins s σ H _ I h) fun u s1 ⟨y, H1, I1, ry, q⟩ => thn (ha pins s1 σ H1 _ I1 q) fun ov s2 ⟨x, H2, I2, rx, q2⟩ => ?_) hs
 dsimp only at q2
 unfold Ar at q2
 split at q2
 ·rename_i a
  obtain ⟨C, dx, fs, ea, c, n, l, q2⟩ := q2
  obtain rfl : ov = Value.ref a := rx
  exact xn I2 ea c n l ry fun s3 I3 => ⟨σ, _, I3, q2⟩
 ·exact q2.elim
end
section
variable {X : Cx} {CX : CXT} {k : Nat} {f C : Addr} {fd : FuncData} {ps : List Str} {sp : Sp} {dvs : List V} {ds : List Value} {E : XKs} {x m : Str} {p pos apos : Pos} {e o : Expr} {es : List Expr} {ta : TE} {t : TA}
def x_ (C : Addr) (m : Str) : V -> Hp -> (V -> Prop) -> Prop
 | .ref p, H, Q => ∃ dx fs, H p = some (.ins C dx fs) /\ fs.lookup m = none /\ Q (.ref p)
 | _, _, _ => False
def xW (C : Addr) (m : Str) (sp : Sp) (dvs : List V) (E : XKs) (ta : TE) (t : TA) : TE := fun σ H Q => ta σ H fun x0 H1 => x_ C m x0 H1 (fun x => t σ H1 fun vs H2 => sp (x :: (vs ++ dvs)) H2 Q (E σ))
theorem b9 {pl : Sem Bool} (he : PE X o ta) (c : Cls X.K C) (hm : oV X.K C m f) (F : bv X.prog X.w X.K X.mg X.base CX k f fd ps sp) (hr : Room k X.A) (hb : Binds X.K fd ps ds) (hd : Vals dvs ds) (hx : d7 CX X E) (ha : PA X (e :: es) t)
 (hst : starEach (e :: es) X.env = (false, eval e X.env) :: starEach es X.env := by rfl) (hpl : (backTo pos (starEach es X.env)).any (·.1) = false := by rfl)
 (ht : eval (.Call (.Attribute o m apos) (e :: es) [] pos) X.env = (do
  let ov <- eval o X.env
  standAt apos.atName
  let (f, first) <- holding [ov] (getMethod ov m pl)
  callWith pos f first (backTo pos (starEach (e :: es) X.env)) (backToKw pos (keywordEach [] X.env))) := by rfl) :
 PE X (.Call (.Attribute o m apos) (e :: es) [] pos) (xW C m sp dvs E ta t) := by
 intro pins s σ H Q I h
 refine PySem.W.methodCall_KW (pl := pl) (thn (he pins s σ H _ I h) fun u s1 ⟨xo, H1, I1, rx, q⟩ => ?_) ht
 dsimp only at q
 unfold x_ at q
 split at q
 ·rename_i a
  obtain ⟨dx, fs, ea, l, q⟩ := q
  obtain rfl : u = Value.ref a := rx
  refine qR I1 ea c hm l ?_
  refine PySem.W.callWith_K (first := [.ref a]) (h₀ := X.base) I.ok.mod.kin hm.kp (thn (ha pos pins s1 σ _ _ I1 q) fun us s2 ⟨vs, H2, I2, r, q2⟩ => ⟨I2.kIn, ?_⟩) hst hpl
  exact uf (us := .ref a :: us) (vs := .ref a :: vs) F hr hb hd hx I2 (.cons rfl r) q2
 ·exact q.elim
theorem sW {pl : Sem Bool} (he : PE X o ta) (c : Cls X.K C) (hm : oV X.K C m f) (F : bv X.prog X.w X.K X.mg X.base CX k f fd ps sp) (hr : Room k X.A) (hb : Binds X.K fd ps ds) (hd : Vals dvs ds) (hx : d7 CX X E)
 (ht : eval (.Call (.Attribute o m apos) [] [] pos) X.env = (do
  let ov <- eval o X.env
  standAt apos.atName
  let (f, first) <- holding [ov] (getMethod ov m pl)
  callWith pos f first (backTo pos (starEach [] X.env)) (backToKw pos (keywordEach [] X.env))) := by rfl) :
 PE X (.Call (.Attribute o m apos) [] [] pos) (xW C m sp dvs E ta BB) := by
 intro pins s σ H Q I h
 refine PySem.W.methodCall_KW (pl := pl) (thn (he pins s σ H _ I h) fun u s1 ⟨xo, H1, I1, rx, q⟩ => ?_) ht
 dsimp only at q
 unfold x_ at q
 split at q
 ·rename_i a
  obtain ⟨dx, fs, ea, l, q⟩ := q
  obtain rfl : u = Value.ref a := rx
  refine qR I1 ea c hm l ?_
  exact PySem.W.callWith_K0 (first := [.ref a]) I1.kIn hm.kp (uf (us := [.ref a]) (vs := [.ref a]) F hr hb hd hx I1 (.cons rfl .nil) q)
 ·exact q.elim
def xu (C : Addr) (sp : Sp) (dvs : List V) (E : XKs) (t : TA) : TE := fun σ H Q => t σ H fun vs H1 => ∀ x dx, H1 x = none -> H1 dx = none -> dx ≠ x ->
 sp (.ref x :: (vs ++ dvs)) (upd (upd H1 dx (.own x)) x (.ins C dx [])) (fun v H2 => v = .non /\ Q (.ref x) H2) (E σ)
theorem sO {pins : List (Addr × Obj)} {σ : St} {H : Hp} {s : Shared} {Q : VK} {us : List Value} {vs : List V} (M : Mk X.K C f) (F : bv X.prog X.w X.K X.mg X.base CX k f fd ps sp) (hr : Room (k + 1) X.A) (hb : Binds X.K fd ps ds) (hd : Vals dvs ds)
 (hx : d7 CX X E) (I : Inv X pins σ H s) (r : Vals vs us)
 (h : ∀ x dx, H x = none -> H dx = none -> dx ≠ x -> sp (.ref x :: (vs ++ dvs)) (upd (upd H dx (.own x)) x (.ins C dx [])) (fun v H2 => v = .non /\ Q (.ref x) H2) (E σ)) :
 wpAny (model X.prog X.w) X.A (call (.ref C) us) (EP X pins σ Q) X.xe s := by
 have hq := h (s.heap.objs.size + 1) s.heap.objs.size (I.hok.fresh (Nat.le_succ _)) (I.hok.fresh (Nat.le_refl _)) (Nat.ne_of_lt (Nat.lt_succ_self _))
 have I2 := Inv.made (C := C) I
 have r2 : Vals (V.ref (s.heap.objs.size + 1) :: (vs ++ dvs)) (Value.ref (s.heap.objs.size + 1) :: (us ++ ds)) := .cons rfl (r.append hd)
 have hl : (Value.ref (s.heap.objs.size + 1) :: us ++ ds).length = ps.length := by
  have e := r2.length
  rw [F.len _ _ _ _ hq] at e
  exact e.symm
 refine wpAny_call (Be (f := f) I.kIn M.makes M.init (beq_iff_eq.mp M.fn) (codeAny_mono (F.run _ X.stack _ _ ⟨Value.ref (s.heap.objs.size + 1) :: us, []⟩ (Value.ref (s.heap.objs.size + 1) :: (us ++ ds)) _ _ (E σ) (hr.make C us [])
  (I2.env0.make C us []) (hb _ (Value.ref (s.heap.objs.size + 1) :: us) I2.kIn hl) r2 hq) fun r s' hq' => ?_))
 cases r with
 | error e => exact hx pins σ _ _ e s' I2 hq'
 | ok fl =>
  cases fl with
  | ret u =>
   obtain ⟨v, H', I3, rv, ev, q3⟩ := I2.after hq'
   subst ev
   exact ⟨rv, ⟨V.ref (s.heap.objs.size + 1), H', I3, rfl, q3⟩⟩
  | next => exact False.elim hq'
  | brk => exact False.elim hq'
  | cont => exact False.elim hq'
theorem Bq (M : Mk X.K C f) (F : bv X.prog X.w X.K X.mg X.base CX k f fd ps sp) (hr : Room (k + 1) X.A) (hg : Gl X x) (hm : X.mg x = some (.ref C)) (hb : Binds X.K fd ps ds) (hd : Vals dvs ds) (hx : d7 CX X E)
 (ha : PA X (e :: es) t) (hdb : (x == ("__debug__" : Str)) = false := by decide) (he : starEach (e :: es) X.env = (false, eval e X.env) :: starEach es X.env := by rfl) (hpl : (backTo pos (starEach es X.env)).any (·.1) = false := by rfl) :
 PE X (.Call (.Name x p) (e :: es) [] pos) (xu C sp dvs E t) := by
 intro pins s σ H Q I h
 refine wpAny_Call_Name_kw (iS I hg hm ?_ hdb)
 refine PySem.W.callWith_K (h₀ := X.base) I.ok.mod.kin M.kp (thn (ha pos pins s σ H _ I h) fun us s1 ⟨vs, H1, I1, r, q⟩ => ⟨I1.kIn, ?_⟩) he hpl
 exact sO M F hr hb hd hx I1 r q
theorem sT (M : Mk X.K C f) (F : bv X.prog X.w X.K X.mg X.base CX k f fd ps sp) (hr : Room (k + 1) X.A) (hg : Gl X x) (hm : X.mg x = some (.ref C)) (hb : Binds X.K fd ps ds) (hd : Vals dvs ds) (hx : d7 CX X E)
 (hdb : (x == ("__debug__" : Str)) = false := by decide) : PE X (.Call (.Name x p) [] [] pos) (xu C sp dvs E BB) := by
 intro pins s σ H Q I h
 refine wpAny_Call_Name_kw (iS I hg hm ?_ hdb)
 exact PySem.W.callWith_K0 I.kIn M.kp (sO (us := []) M F hr hb hd hx I .nil h)
end
end L2
namespace L2
open PySem PySem.Spec PyProof.Rows
def ii (wi : TI) (n : Nat) (g : TG) (ks : List Nat) (tt : TT) (te : TE) : TE := fun σ H Q => wi σ H fun J H1 => ∀ D, H1 D = none -> ∃ W : Nat -> Nat -> List V -> Hp -> Prop, (∃ m, W 0 m [] (upd H1 D (.lst []))) /\
 ∀ i m ys H2, W i m ys H2 -> H2 D = some (.lst ys) /\ ((J.stop i H2 /\ Q (.ref D) H2) \/ (J.go i H2 /\ ∀ x H3, J.yld i H2 x H3 -> ∀ zs : St, zs.length = n ->
  g x (zs ++ ks.map fun k => (σ[k]?).join) H3 fun σ4 H4 => (∃ zs4 : St, zs4.length = n /\ σ4 = zs4 ++ ks.map fun k => (σ[k]?).join) /\
   tt σ4 H4 fun b H5 => if b = true then te σ4 H5 fun y H6 => H6 D = some (.lst ys) /\ ys.length < sizeLine /\ ∃ m', m' < m /\ W (i + 1) m' (ys ++ [y]) (upd H6 D (.lst (ys ++ [y])))
    else ∃ m', m' < m /\ W (i + 1) m' ys H5))
theorem sJ {X : Cx} {elt iter : Expr} {x : Str} {xs : List Str} {tg : Expr} {g : TG} {pos : Pos} {ifs : List Expr} {scope : Scope} {cl : List (Str × Addr)} {fr : List Str} {ks : List Nat} {wi : TI} {tt : TT} {te : TE} (hc : X.calm = true) (S : CompScope X scope cl x fr)
 (hks : ks.map (fun k => X.N[k]?) = fr.map some) (hi : PI X tg iter wi) (hg : ∀ C s₂ H₂ ex pn, PG (cR X (xs ++ fr) scope cl C s₂ H₂ ex pn) tg g)
 (ht : ∀ C s₂ H₂ ex pn, PTs (cR X (xs ++ fr) scope cl C s₂ H₂ ex pn) ifs tt) (he : ∀ C s₂ H₂ ex pn, PE (cR X (xs ++ fr) scope cl C s₂ H₂ ex pn) elt te)
 (hs : ∀ x, foldedSetIterable iter X.env x = pure x := by intro _; rfl)
 {pins : List (Addr × Obj)} {s : Shared} {σ : St} {H : Hp} {Q : VK} (I : Inv X pins σ H s) (h : ii wi xs.length g ks tt te σ H Q) (use : Option (Value -> Sem Unit)) (Qp : Value -> Shared -> Prop)
 (hend : ∀ (D C : Addr) (H' : Hp) (s' : Shared) (mC : Str -> Option Value) (f : Flow), Inv X pins σ H' s' -> vj X pins H' C -> s'.heap.Ns C mC -> Q (.ref D) H' -> compPost (model X.prog X.w) X.A X.xe use Qp (.ref D) C (.ok f) s') :
 wpAny (model X.prog X.w) X.A (comprehension (.ListComp elt [⟨tg, iter, ifs, 0⟩] scope pos) scope X.env (firstIterPos [⟨tg, iter, ifs, 0⟩] pos) (newList []) false (firstIter [⟨tg, iter, ifs, 0⟩] X.env) use) Qp X.xe s := by
 refine wpAny_comprehension_free (use := use) rfl hs S.clos S.kind S.names (thn (hi pins s σ H _ I h) fun v s1 h1 => thn h1 fun itv s2 h2 => ?_)
 obtain ⟨it, fp, tn, J, H2, e, I2, T, st2, f2, hW⟩ := h2
 subst e
 refine wpAny_newObj_type (wpAny_newFunctionEnv S.nocell (by intro y hy; simp at hy) (fun h₁ hns₁ hsb₁ => ?_) S.kind)
 dsimp only at hns₁ hsb₁ ⊢
 have hD0 : H2 s2.heap.objs.size = none := I2.hok.fresh (Nat.le_refl _)
 obtain ⟨W, ⟨m0, w0⟩, turn⟩ := hW s2.heap.objs.size hD0
 generalize hs3 : s2.heap.push { cls := .type "list", dict := none, data := .seq ([] : List Value).toArray } = g3 at hns₁ hsb₁ ⊢
 have hsz3 : g3.objs.size = s2.heap.objs.size + 1 := by rw [<- hs3, Heap.size_push]
 have up3 : ∀ b o, s2.heap.get? b = some o -> g3.get? b = some o := fun b o e => by rw [<- hs3]; exact Heap.get?_push_of_some _ e
 have gD : g3.get? s2.heap.objs.size = some { cls := .type "list", dict := none, data := .seq ([] : List Value).toArray } := by rw [<- hs3]; exact Heap.get?_push_size _ rfl
 have I3 : Inv X pins σ (upd H2 s2.heap.objs.size (.lst [])) { s2 with heap := g3 } := I2.laid (t' := s2.toks) up3 (Nat.le_refl _) ⟨by simp, [], 0, .nil, gD⟩
 have keep4 : ∀ b o, g3.get? b = some o -> h₁.get? b = some o := fun b o e => (hsb₁.2 b (Nat.ne_of_lt (Heap.lt_size e))).trans (Heap.get?_push_of_some _ e)
 have hCn : (upd H2 s2.heap.objs.size (.lst [])) g3.objs.size = none := I3.hok.fresh (Nat.le_refl _)
 have fpD : ∀ b ∈ fp, b ≠ s2.heap.objs.size := fun b hb z => by
  obtain ⟨o, e, _⟩ := T.obj 0 _ st2 b hb
  exact absurd (Heap.lt_size e) (by rw [z]; exact Nat.lt_irrefl _)
 have fpC : ∀ b ∈ fp, b ≠ g3.objs.size := fun b hb z => by
  obtain ⟨o, e, _⟩ := T.obj 0 _ st2 b hb
  exact absurd (Heap.lt_size (up3 b o e)) (by rw [z]; exact Nat.lt_irrefl _)
 have fpN : ∀ b ∈ fp, (upd H2 s2.heap.objs.size (.lst [])) b = none := fun b hb => by rw [ay (fpD b hb)]; exact (f2 b hb).1
 have Ok : (cR X (xs ++ fr) scope cl g3.objs.size { s2 with heap := g3 } (upd H2 s2.heap.objs.size (.lst [])) fp (X.pn ++ pins)).Ok := by
  refine ⟨I.ok.mod, S.kind, I.ok.glob, I.ok.blt, Nat.le_refl _, fun y z c e1 e2 => I.ok.inj y z c (S.sub e1) (S.sub e2), fun y hy => ?_, (fun y c z => nomatch z), I.ok.hd, I.ok.frames, .inl rfl, fun b hb => ⟨fpC b hb, fun y c e => (f2 b hb).2.2.2.2.1 y c (S.sub e)⟩, I3.bs, Nat.le_trans I.ok.bsz I3.sz, fun b o e hb => ?_, fun b hb z => ?_, I3.stack, I3.stkFree⟩
  ·have hy' : y ∈ fr := S.only y hy
   obtain ⟨c, e⟩ := I.ok.has y (S.kinds y hy')
   exact ⟨c, (S.cell hy').trans e⟩
  ·rcases (f2 b hb).2.2.2.1 with q | q
   ·exact I.ok.noex b o e q
   ·exact absurd (Heap.lt_size e) (Nat.not_lt.mpr (Nat.le_trans I.ok.bsz q))
  ·rcases List.mem_cons.mp (I3.stkSub b z) with q | q
   ·exact (f2 b hb).2.1 q
   ·exact (f2 b hb).2.2.1 q
 have I4 : Inv (cR X (xs ++ fr) scope cl g3.objs.size { s2 with heap := g3 } (upd H2 s2.heap.objs.size (.lst [])) fp (X.pn ++ pins)) [] ((xs.map fun _ => none) ++ ks.map fun k => (σ[k]?).join) (upd H2 s2.heap.objs.size (.lst [])) { s2 with heap := h₁, toks := s2.toks + ([] : List (Str × Value)).length } := by
  refine ⟨Ok, rfl, I3.bare, Un.kept keep4, ⟨_, hns₁, fun i y v e1 e2 e3 => ?_⟩, fun y c e => ?_, hCn, fun y c e => I3.freeC y c (S.sub e), fun p hp => ?_, I3.hok.kept keep4, ?_⟩
  ·have e1' : (xs ++ fr)[i]? = some y := e1
   by_cases hix : i < xs.length
   ·rw [List.getElem?_append_left (by simpa using hix)] at e2
    simp [hix] at e2
   ·obtain ⟨i, rfl⟩ : ∃ i', i = xs.length + i' := ⟨i - xs.length, by omega⟩
    rw [List.getElem?_append_right (by omega)] at e1'
    rw [List.getElem?_append_right (by simp)] at e2
    have e1' : fr[i]? = some y := by simpa using e1'
    have e2 : (ks.map fun k => (σ[k]?).join)[i]? = some (some v) := by simpa using e2
    have hy : y ∈ fr := List.mem_of_getElem? e1'
    have ek : (ks.map (fun k => X.N[k]?))[i]? = (fr.map some)[i]? := by rw [hks]
    rw [List.getElem?_map, List.getElem?_map, e1'] at ek
    have e2' := e2
    rw [List.getElem?_map] at e2'
    cases hk : ks[i]? with
    | none => rw [hk] at ek; cases ek
    | some k =>
     rw [hk] at ek e2'
     have ek' : X.N[k]? = some y := by simpa using ek
     have e2'' : (σ[k]?).join = some v := by simpa using e2'
     have es : σ[k]? = some (some v) := by
      cases q : σ[k]? with
      | none => rw [q] at e2''; cases e2''
      | some z => rw [q] at e2''; rw [show z = some v from e2'']
     obtain ⟨m, hn, hl⟩ := I3.loc
     have hkd := S.kinds y hy
     obtain ⟨u, r, lk⟩ := hl k y v ek' es (by rcases hkd with q | q; exact .inr (.inl q); exact .inr (.inr q))
     refine ⟨u, r, .inr ⟨S.kin y hy, ?_⟩⟩
     rcases lk with ⟨q, _⟩ | ⟨_, c, ec, hcell⟩
     ·rcases hkd with z | z <;> (rw [q] at z; cases z)
     ·obtain ⟨o, ho, hd⟩ := hcell
      exact ⟨c, (S.cell hy).trans ec, o, keep4 _ _ ho, hd⟩
  ·obtain ⟨v, o, ho, hd⟩ := I3.cell y c (S.sub e)
   exact ⟨v, o, keep4 _ _ ho, hd⟩
  ·have hp' : p ∈ X.pn ++ pins := by simpa [cR] using hp
   obtain ⟨a1, a2, a3, a4, a5⟩ := I3.pin p hp'
   refine ⟨keep4 _ _ a1, a2, Nat.ne_of_lt (Heap.lt_size a1), fun z => ?_, a5⟩
   rcases List.mem_cons.mp (I3.stkSub p.1 z) with q | q
   ·exact a3 q
   ·exact a4 q
  ·show ((xs.map fun _ => none) ++ ks.map _).length = (xs ++ fr).length
   have := congrArg List.length hks
   simp at this
   simp [this]
 have st4 : tn 0 h₁ := T.keep 0 _ _ st2 fun b hb o e => keep4 _ _ (up3 _ _ e)
 have stat : ∀ {H' : Hp}, (∀ b ∈ fp, H' b = none) -> ∀ b ∈ fp, vj (cR X (xs ++ fr) scope cl g3.objs.size { s2 with heap := g3 } (upd H2 s2.heap.objs.size (.lst [])) fp (X.pn ++ pins)) [] H' b := fun hn b hb =>
  ⟨hn b hb, fpC b hb, Ok.exfs b hb, .inl hb, fun y c e => (f2 b hb).2.2.2.2.1 y c (S.sub e), fun p hp => (f2 b hb).2.2.2.2.2 p (by simpa [cR] using hp)⟩
 have loop : codeAny (model X.prog X.w) X.A (.compLoop (.ListComp elt [⟨tg, iter, ifs, 0⟩] scope pos) 0 (.ref it) (.ref s2.heap.objs.size) (compEnvC scope cl g3.objs.size X.env))
  (compPost (model X.prog X.w) X.A X.xe use Qp (.ref s2.heap.objs.size) g3.objs.size) { s2 with heap := h₁, toks := s2.toks + ([] : List (Str × Value)).length } := by
  refine tZ (fun n s' => ∃ i ys σ' H', Inv (cR X (xs ++ fr) scope cl g3.objs.size { s2 with heap := g3 } (upd H2 s2.heap.objs.size (.lst [])) fp (X.pn ++ pins)) [] σ' H' s' /\ (∃ zs, zs.length = xs.length /\ σ' = zs ++ ks.map fun k => (σ[k]?).join) /\ tn i s'.heap /\ (∀ b ∈ fp, H' b = none) /\ W i n ys H') ?_ m0
   ⟨0, [], _, _, I4, ⟨xs.map fun _ => none, by simp, rfl⟩, st4, fpN, w0⟩
  rintro n s' ⟨i, ys, σ', H', I5, ⟨zs, hzs, rfl⟩, st5, fr5, w5⟩
  obtain ⟨hD, hor⟩ := turn i n ys H' w5
  rcases hor with ⟨stop, qn⟩ | ⟨go, step⟩
  ·refine wpAny_mono (T.done (cR X (xs ++ fr) scope cl g3.objs.size { s2 with heap := g3 } (upd H2 s2.heap.objs.size (.lst [])) fp (X.pn ++ pins)) rfl rfl rfl hc i [] s' _ H' (fun _ _ => False) I5 (stat fr5) st5 stop) (fun r s6 ⟨hr, I6⟩ => ?_) (fun _ _ f => f.elim)
   subst hr
   obtain ⟨mC, hnC, _⟩ := I6.loc
   have tr : ∀ b o, b ≠ g3.objs.size -> s6.heap.get? b = some o -> s6.heap.get? b = some o := fun b o hb e => e
   have U := I6.base
   have neC : ∀ b o, g3.get? b = some o -> b ≠ g3.objs.size := fun b o e => Nat.ne_of_lt (Heap.lt_size e)
   have U' : Un (frs X.stack) fp (upd H2 s2.heap.objs.size (.lst [])) H' g3 s6.heap := ⟨fun b o q n hb hx => tr b o (neC b o q) (U.keep b o q n hb hx), fun b o q n hb hx => let ⟨sl, e⟩ := U.slot b o q n hb hx; ⟨sl, tr _ _ (neC b o q) e⟩, U.free, fun b o q hx => let ⟨o', e⟩ := U.there b o q hx; ⟨o', tr _ _ (neC b o q) e⟩, U.tups, U.frzs, U.tbls⟩
   have ok' : HOk X.prog X.w H' s6.heap := fun a o e => (I6.hok a o e).stay (fun b u hb q => tr b u (fun z => by
    have fC : H' g3.objs.size = none := I6.free
    rcases hb with r | r
    ·rw [<- z, r, e] at fC; cases fC
    ·rw [<- z, r] at fC; cases fC) q) (fun _ q => q) fun _ _ q => q
   have J6 : Inv X pins σ H' s6 := I3.call' (s' := s6) (ch := fp) I6.os U' ok' I6.bare fun b hb => ⟨(f2 b hb).2.2.2.1, (f2 b hb).2.1, (f2 b hb).2.2.2.2.1, (f2 b hb).2.2.2.2.2⟩
   exact hend s2.heap.objs.size g3.objs.size H' s6 mC _ J6 (I3.fpOk (Nat.le_refl _) I6.free) hnC qn
  ·refine wpAny_mono (T.item (cR X (xs ++ fr) scope cl g3.objs.size { s2 with heap := g3 } (upd H2 s2.heap.objs.size (.lst [])) fp (X.pn ++ pins)) rfl rfl rfl hc i [] s' _ H' (fun _ _ => False) I5 (stat fr5) st5 go) (fun r s6 ⟨u, hr, h6⟩ => ?_) (fun _ _ f => f.elim)
   subst hr
   refine wpAny_mono h6 (fun _ s7 ⟨xv, H7, I7, r7, y7, st7, fr7⟩ => ?_) (fun _ _ f => f.elim)
   have I7' := I7.pinned (stat fr7) (T.obj _ _ st7)
   have pinsTo : ∀ {σ9 : St} {H9 : Hp} {s9 : Shared}, Inv (cR X (xs ++ fr) scope cl g3.objs.size { s2 with heap := g3 } (upd H2 s2.heap.objs.size (.lst [])) fp (X.pn ++ pins)) ([] ++ qW fp s7.heap) σ9 H9 s9 -> tn (i + 1) s9.heap /\ ∀ b ∈ fp, H9 b = none := fun {σ9 H9 s9} I9 =>
    ⟨T.keep _ _ _ st7 fun b hb o e => (I9.pin (b, o) (List.mem_append_right _ (List.mem_append_right _ (iW hb e)))).1, fun b hb => by
     obtain ⟨o, e, d⟩ := T.obj _ _ st7 b hb
     exact (I9.pin (b, o) (List.mem_append_right _ (List.mem_append_right _ (iW hb e)))).2.1⟩
   refine wpAny_mono (hg _ _ _ _ _ _ s7 _ H7 xv u _ I7' r7 (step xv H7 y7 zs hzs)) (fun _ s8 ⟨σ8, H8, I8, ⟨zs4, hz4, e8⟩, q8⟩ => ?_) (fun _ _ f => f.elim)
   subst e8
   refine wpAny_mono (ht _ _ _ _ _ _ s8 _ H8 _ I8 q8) (fun ok s9 ⟨H9, I9, q9⟩ => ?_) (fun _ _ f => f.elim)
   cases ok with
   | false =>
    rw [if_neg Bool.false_ne_true] at q9 ⊢
    obtain ⟨m', hm, w9⟩ := q9
    obtain ⟨t9, f9⟩ := pinsTo I9
    exact ⟨m', hm, i + 1, ys, _, H9, I9.unpinned, ⟨zs4, hz4, rfl⟩, t9, f9, w9⟩
   | true =>
    rw [if_pos rfl] at q9 ⊢
    refine wpAny_mono (he _ _ _ _ _ _ s9 _ H9 _ I9 q9) (fun yv s10 ⟨y, H10, I10, r10, hD10, hlen, m', hm, w10⟩ => ?_) (fun _ _ f => f.elim)
    refine wpAny_mono (eF (X := cR X (xs ++ fr) scope cl g3.objs.size { s2 with heap := g3 } (upd H2 s2.heap.objs.size (.lst [])) fp (X.pn ++ pins)) _ s10 _ H10 (.ref s2.heap.objs.size) [y] (.ref s2.heap.objs.size) [yv]
     (fun _ H' => H' = upd H10 s2.heap.objs.size (.lst (ys ++ [y]))) I10 rfl (.cons r10 .nil) ⟨_, ys, y, rfl, rfl, hD10, hlen, rfl⟩) (fun _ s11 ⟨_, H11, I11, _, e11⟩ => ?_) (fun _ _ f => f.elim)
    subst e11
    obtain ⟨t11, f11⟩ := pinsTo I11
    exact ⟨m', hm, i + 1, ys ++ [y], _, _, I11.unpinned, ⟨zs4, hz4, rfl⟩, t11, f11, w10⟩
 exact codeAny_compStart_list loop (T.self X.A 0 _ _ _ st4 loop)
theorem dE {X : Cx} {elt iter : Expr} {x : Str} {xs : List Str} {tg : Expr} {g : TG} {pos : Pos} {ifs : List Expr} {scope : Scope} {cl : List (Str × Addr)} {fr : List Str} {ks : List Nat} {wi : TI} {tt : TT} {te : TE} (hc : X.calm = true) (S : CompScope X scope cl x fr)
 (hks : ks.map (fun k => X.N[k]?) = fr.map some) (hi : PI X tg iter wi) (hg : ∀ C s₂ H₂ ex pn, PG (cR X (xs ++ fr) scope cl C s₂ H₂ ex pn) tg g)
 (ht : ∀ C s₂ H₂ ex pn, PTs (cR X (xs ++ fr) scope cl C s₂ H₂ ex pn) ifs tt) (he : ∀ C s₂ H₂ ex pn, PE (cR X (xs ++ fr) scope cl C s₂ H₂ ex pn) elt te)
 (hs : ∀ x, foldedSetIterable iter X.env x = pure x := by intro _; rfl) : PE X (.ListComp elt [⟨tg, iter, ifs, 0⟩] scope pos) (ii wi xs.length g ks tt te) := by
 intro pins s σ H Q I h
 rw [eval_ListComp]
 refine sJ hc S hks hi hg ht he hs I h none _ fun D C H' s' mC f J fp hn q => ⟨mC, hn, fun h' sb => ?_⟩
 obtain ⟨f0, f1, f2, f3, f4, f5⟩ := fp
 exact ⟨.ref D, H', J.turned (t' := s'.toks) (fun b o hb e => (sb.2 b hb).trans e) f0 f1 f3 f4 f5, rfl, q⟩
theorem rT {i0 : Nat} {x0 : Str} {px0 pos0 : Pos} {X : Cx} {elt iter : Expr} {x : Str} {xs : List Str} {tg : Expr} {g : TG} {pos : Pos} {ifs : List Expr} {scope : Scope} {cl : List (Str × Addr)} {fr : List Str} {ks : List Nat} {wi : TI} {tt : TT} {te : TE} (hN : X.N.Nodup) (hi0 : X.N[i0]? = some x0) (hx0 : Loc X.env.scope x0) (hc : X.calm = true) (S : CompScope X scope cl x fr)
 (hks : ks.map (fun k => X.N[k]?) = fr.map some) (hi : PI X tg iter wi) (hg : ∀ C s₂ H₂ ex pn, PG (cR X (xs ++ fr) scope cl C s₂ H₂ ex pn) tg g)
 (ht : ∀ C s₂ H₂ ex pn, PTs (cR X (xs ++ fr) scope cl C s₂ H₂ ex pn) ifs tt) (he : ∀ C s₂ H₂ ex pn, PE (cR X (xs ++ fr) scope cl C s₂ H₂ ex pn) elt te)
 (hs : ∀ x, foldedSetIterable iter X.env x = pure x := by intro _; rfl)
 (hsw : swapsWith (.ListComp elt [⟨tg, iter, ifs, 0⟩] scope pos) (some (.Name x0 px0)) pos0.line X.env = pure true := by rfl) (hf : X.fn x0 = true \/ X.env.scope.names.lookup x0 = some .local := by first | exact .inl rfl | exact .inr rfl | assumption) :
 PS X (.Assign [.Name x0 px0] (.ListComp elt [⟨tg, iter, ifs, 0⟩] scope pos) pos0) (Az (ii wi xs.length g ks tt te) (h7 i0)) := by
 intro pins s σ H D I h
 rw [exec_Assign_Name_used _ _ _ _ hsw]
 refine wpAny_bind (wpAny_standAt (wpAny_bind (wpAny_bind ?_)))
 refine sJ hc S hks hi hg ht he hs I h (some (assign (.Name x0 px0) X.env)) _ fun D' C H' s' mC f J fp hn q => ?_
 obtain ⟨f0, f1, f2, f3, f4, f5⟩ := fp
 refine wpAny_assign_Name (sQ J hN hi0 hx0 (v := .ref D') rfl (fun s7 I7 ⟨a, sb, ha⟩ => ?_) hf)
 have hCa : C ≠ a := by
  rcases ha with e | e
  ·rw [e]; exact f1
  ·exact fun z => f4 _ _ e z.symm
 refine ⟨mC, hn.sameBut sb hCa, fun h' sb2 => ?_⟩
 have J2 := I7.turned (t' := s7.toks) (fun b o hb e => (sb2.2 b hb).trans e) f0 f1 f3 f4 f5
 exact wpAny_pure (wpAny_pure ⟨_, H', J2, q⟩)
end L2
namespace L2
open PySem PySem.Spec PyProof.Rows Builtin Builtin.Str
section
variable {prog : Program} {w : World} {A : Around} {E : Value -> Shared -> Prop} {s : Shared} {t : Addr}
theorem zx {xs : Array (Int × Tok)} {Q : Value -> Shared -> Prop} (hh : A.handled = none) (ht : s.heap.IsList t (intItems xs))
 (h : ∀ h' tk t', (∀ b o, s.heap.get? b = some o -> h'.get? b = some o) -> Q (.int (preSum (numAt xs) xs.size) t') { s with heap := h', toks := tk }) :
 wpAny (model prog w) A (call (.builtin "sum") [.ref t]) Q E s := by
 obtain ⟨o, ho, hc, n, hd⟩ := id ht
 have hne : t ≠ s.heap.objs.size := Nat.ne_of_lt (Heap.lt_size ho)
 have hsz : (intItems xs).size = xs.size := by simp [intItems]
 have W := (Walks.list (prog := prog) (w := w) (A := A.in1) hh s.heap.objs.size t hne (intItems xs)).toS
 rw [hsz] at W
 refine call_sum_walkAnyS (wpAny_pyIter_list ht ?_)
 refine ⟨s.heap.objs.size, _, _, _, _, _, _, numAt xs, rfl, W, ⟨⟨_, Heap.get?_push_size _ rfl, rfl, rfl⟩, ht.at fun o e => Heap.get?_push_of_some _ e⟩, fun b hb => ?_, fun i v hP => intItems_at hP, fun s' t' hm => ?_⟩
 ·rcases List.mem_cons.mp hb with rfl | hb
  ·exact Heap.lt_size (Heap.get?_push_size _ rfl)
  ·obtain rfl := List.mem_singleton.mp hb
   exact Heap.lt_size (Heap.get?_push_of_some _ ho)
 ·obtain ⟨h', g', d', tk', os'⟩ := s'
  have e1 : g' = s.gens := hm.gens
  have e2 : d' = s.drawn := hm.drawn
  have e3 : os' = s.os := hm.os
  subst e1 e2 e3
  exact h h' tk' t' fun b o e => hm.heap b o (fun hb => absurd (Heap.lt_size e) ((List.mem_singleton.mp hb) ▸ Nat.lt_irrefl _)) (Heap.get?_push_of_some _ e)
end
section
variable {X : Cx} {e a b c : Expr} {pos : Pos}
def D2 (K : W.Frag) : List V -> Hp -> VK -> Prop
 | [.ref p], H, Q => ∃ ns : List Int, (SqL K H p (ns.map V.int) \/ SqT K H p (ns.map V.int)) /\ Q (.int ns.sum) H
 | _, _, _ => False
theorem Cc (K : W.Frag) (hc : X.calm = true) (hK : X.K = K := by rfl) : CallR X (.builtin "sum") (D2 K) := by
 subst hK
 intro pins s σ H xs us Q I r h
 unfold D2 at h
 split at h
 ·rename_i p
  obtain ⟨ns, hq, q⟩ := h
  rcases hq with hq | hq
  ·obtain ⟨u, rfl, rx⟩ := gi r
   cases (show u = Value.ref p from rx)
   obtain ⟨its, r', pl, hz⟩ := I.list hq
   have hi := rQ r'
   obtain ⟨ys, hy⟩ := hi.allInts.items
   have hn : numsOf its.toArray.toList = ns := by rw [show its.toArray.toList = its from rfl, hi.numsOf]
   have pl' := pl.isList
   rw [hy] at pl' hn
   rw [nums_intItems] at hn
   refine zx (I.ok.hd hc) pl' fun h' tk t' hk => ?_
   rw [preSum_eq, List.take_of_length_le (by simp), hn]
   exact ⟨.int ns.sum, H, I.kept hk, ⟨_, rfl⟩, q⟩
  ·exact tV hc pins s σ H _ us Q I r ⟨p, ns, rfl, hq, q⟩
 ·exact h.elim
def AF : R2
 | .str x, .int n, H, Q => ((cs x).length <= 1000 /\ 0 <= n /\ n <= 100) /\ Q (T ((List.replicate n.toNat (cs x)).flatten)) H
 | _, _, _, _ => False
theorem qD : OpR X (binaryOp .Mult) AF := by
 intro pins s σ H x y v u Q I rx ry h
 unfold AF at h
 split at h
 ·rename_i x n
  obtain ⟨⟨h1, h2, h3⟩, q⟩ := h
  obtain ⟨t, rfl⟩ := rx
  obtain ⟨t', rfl⟩ := ry
  have hl : x.length <= 1000 := by simpa [cs, Str.length] using h1
  refine PySem.SB.mul ⟨?_, fun hn _ => ?_, fun hn _ => ?_⟩ fun t2 k => ⟨.str (Txt.mul x n), H, I.tok _, ⟨_, rfl⟩, by rw [Fa]; exact q⟩
  ·rw [decide_eq_false (by omega), decide_eq_false (by omega)]; rfl
  ·have h5 : (1000 : Int) <= (2 ^ 63 - 1) / n := by
    rw [Int.le_ediv_iff_mul_le (by omega)]; omega
   omega
  ·have h4 : x.length * n.toNat <= 1000 * 100 := Nat.mul_le_mul hl (show n.toNat <= 100 by omega)
   unfold tooLong
   exact decide_eq_false (by rw [sizeLine_eq]; omega)
 ·exact h.elim
section
variable {T name id : String} {r : V -> List V -> Hp -> VK -> Prop} {o : Expr} {to : TE} {apos cpos : Pos}
theorem Cz (K : W.Frag) (pa : PlainAttrs T) (slot : Slot T name id) (hty : typeOf (.builtin id) = pure (.type "method_descriptor")) (hm : MtR X id r) (ho : PE X o to) (hK : X.K = K := by rfl)
 (hbase : attributeBase o name X.env (eval o X.env) = eval o X.env := by rfl) (hline : (apos.endLine == cpos.line) = true := by rfl) : PE X (.Call (.Attribute o name apos) [] [] cpos) (DY K T r to) := by
 subst hK; exact Eb pa slot hty hm ho hbase hline
end
end
end L2
namespace L2
theorem iA {l : List PySem.Str} (h : l.Nodup) : l.Nodup := h
end L2
namespace L2
def sp5 (f : V -> V -> V -> V -> V -> Hp -> VK -> XK -> Prop) : Sp := fun vs H Q E => match vs with
 | [x, y, z, u, v] => f x y z u v H Q E
 | _ => False
theorem sp5.inv {vs : List V} {H : Hp} {Q : VK} {E : XK} {f} (h : sp5 f vs H Q E) : ∃ x y z u v, vs = [x, y, z, u, v] /\ f x y z u v H Q E := by
 unfold sp5 at h; split at h
 ·exact ⟨_, _, _, _, _, rfl, h⟩
 ·exact h.elim
theorem sp5.len {vs : List V} {H : Hp} {Q : VK} {E : XK} {f} (h : sp5 f vs H Q E) : vs.length = 5 := by obtain ⟨_, _, _, _, _, rfl, _⟩ := sp5.inv h; rfl
theorem uO {n : PySem.Str} {v : V} {l : List (PySem.Str × V)} : List.lookup n ((n, v) :: l) = some v := by simp [List.lookup]
theorem lH {n m : PySem.Str} {v : V} {l : List (PySem.Str × V)} (h : (n == m) = false) : List.lookup n ((m, v) :: l) = List.lookup n l := by simp [List.lookup, h]
end L2
set_option maxHeartbeats 1000000
namespace L2
open PySem PySem.Spec PyProof.Rows
structure RoomC (k : Nat) (A : Around) : Prop where
 dp : A.depth + 3 * k + 5 < recursionLimit
 un : A.units + 16 * k + 200 < cLine
theorem RoomC.deeper {k : Nat} {A : Around} (r : RoomC (k + 1) A) (env : Env) : RoomC k (A.deeper env) :=
 ⟨by have := r.dp; show A.depth + 1 + 3 * k + 5 < _; omega, by have := r.un; show A.units + 3 + 16 * k + 200 < _; omega⟩
theorem Room.toC {j k : Nat} {A : Around} {v : Option Value} (r : Room k A) (h : j <= k) : RoomC j (A.mark v) := ⟨by have := r.dp; show A.depth + 3 * j + 5 < _; omega, by have := r.un; show A.units + 16 * j + 200 < _; omega⟩
structure yy (P : Program) (w : World) (K : W.Frag) (mg : Str -> Option Value) (base : Heap) (CX : CXT) (k : Nat) (f : Addr) (fd : FuncData) (ps : List Str) (sp : Sp) : Prop where
 len : ∀ vs H Q E, sp vs H Q E -> vs.length = ps.length
 run : ∀ (A : Around) (outer : List Env) (s : Shared) (H : Hp) (args : Args) (us : List Value) (vs : List V) (Q : VK) (E : XK), RoomC k A -> Env0 P w K mg base A outer s H -> BindsTo s fd args (ps.zip us) -> Vals vs us -> sp vs H Q E ->
  codeAny (model P w) A (.call (.ref f) args) (CR CX outer P w H s Q E) s
abbrev wn (CX : CXT) (P : Program) (w : World) (K : W.Frag) (mg : Str -> Option Value) (base : Heap) (N : List Str) (qual : Str) (scope : Scope) (f : Addr) (cd : Value) (A : Around) (outer : List Env) (s : Shared) (H : Hp) (E : XK) : Cx :=
 { cS CX P w K mg base N qual scope f cd A outer s H E with calm := false }
theorem E6 {CX : CXT} {P : Program} {w : World} {K : W.Frag} {mg : Str -> Option Value} {base : Heap} {k : Nat} {f : Addr} {name qual : Str} {params : Arguments} {body : List Stmt} {scope : Scope} {dV kV doc pm cdv ct oc : Value} {an od : Option Addr}
 {osl : Array (Option Value)} {N ps : List Str} {sp : Sp} (lk : K.lookup f = some ⟨oc, od, .func (PySem.W.fnOf name qual params body scope dV kV doc pm an cdv ct), osl⟩) (hcd : PySem.W.codeIn K cdv qual = true) (S : aG N ps scope)
 (len : ∀ vs H Q E, sp vs H Q E -> vs.length = ps.length)
 (hbody : ∀ (A : Around) (outer : List Env) (s : Shared) (H : Hp) (vs : List V) (Q : VK) (E : XK), RoomC k (A.deeper (envOfC qual scope s.heap.objs.size f cdv)) -> sp vs H Q E ->
  ∃ t, PSs (wn CX P w K mg base N qual scope f cdv A outer s H E) body t /\ t { nx := fun _ H' => Q .non H', rt := Q } (fo N vs) H) :
 yy P w K mg base CX (k + 1) f (PySem.W.fnOf name qual params body scope dV kV doc pm an cdv ct) ps sp := by
 refine ⟨len, fun A outer s H args us vs Q E hr e0 hb r hsp => ?_⟩
 have hl := len _ _ _ _ hsp
 have KX : K.In s.heap := e0.mod.kin.keeps fun b o e => (e0.bs b o e).1
 have lim : s.heap.NoLimit := e0.mod.nolimit.keeps fun b o e => (e0.bs b o e).1
 have hkind : ∀ y ∈ ps.zip us, scope.names.lookup y.1 = some .local \/ (scope.names.lookup y.1 = some .cell /\ ((cellsFrom (s.heap.objs.size + 1) scope.names []).lookup y.1).isSome = true) := fun ⟨n, v⟩ hy => by
  rcases S.par n (List.of_mem_zip hy).1 with q | q
  ·exact .inl q
  ·exact .inr ⟨q, PySem.W.cellsFrom_some _ _ _ (.inl q)⟩
 refine codeAny_call_function (by have := hr.dp; omega) (KX _ _ lk) rfl S.co S.gen rfl (PySem.W.codeRec_of KX hcd) (hb _ _ _ _ ?_)
 refine wpAny_newFunctionEnv_cells S.kind hkind fun env he s1 x => ?_
 subst he
 refine ⟨lim.keeps x.toInCall.keep, codeAny_func ?_⟩
 obtain ⟨t, ht, hq⟩ := hbody A outer s H vs Q E (hr.deeper _) hsp
 have e1 : Env0 P w K mg base { A with handled := none } outer s H := ⟨e0.frames, e0.mod, e0.bs, e0.bsz, e0.funs, e0.frf, e0.hok, e0.bare⟩
 have I0 : Inv (cS CX P w K mg base N qual scope f cdv { A with handled := none } outer s H E) [] (fo N vs) H s1 := tj S rfl e1 hl r x
 have I : Inv (wn CX P w K mg base N qual scope f cdv A outer s H E) [] (fo N vs) H s1 :=
  ⟨I0.ok.re (A.deeper (envOfC qual scope s.heap.objs.size f cdv)) rfl false (fun z => nomatch z) _ _, I0.os, I0.bare, I0.base, I0.loc, I0.cell, I0.free, I0.freeC, I0.pin, I0.hok, I0.len⟩
 refine wpAny_mono (ht [] s1 (fo N vs) H _ I hq) (fun fl s' hs => ?_) fun e s' hs => hs
 have fin : ∀ {σ' : St} {H' : Hp} {v : V} {u : Value}, Inv (wn CX P w K mg base N qual scope f cdv A outer s H E) [] σ' H' s' -> RelV v u -> Q v H' -> CE outer P w H s Q u s' :=
  fun {σ' H' v u} J rv q => ⟨v, H', J.os, J.bare, J.base, J.hok, rv, q⟩
 cases fl with
 | ret u =>
  obtain ⟨v, σ', H', J, rv, q⟩ := hs
  exact fin J rv q
 | next =>
  obtain ⟨σ', H', J, q⟩ := hs
  exact fin (v := V.non) (u := Value.none) J rfl q
 | brk =>
  obtain ⟨_, _, _, q⟩ := hs
  exact False.elim q
 | cont =>
  obtain ⟨_, _, _, q⟩ := hs
  exact False.elim q
theorem Fun.okC {P : Program} {w : World} {K : W.Frag} {mg : Str -> Option Value} {base : Heap} {x qual : Str} {st : Stmt} {f : Addr} {fd : FuncData} {N ps : List Str} {k : Nat} {sp : Sp} (F : Fun K x qual st f fd) (S : aG N ps (af st)) (len : ∀ vs H Q E, sp vs H Q E -> vs.length = ps.length)
 (hbody : ∀ (cdv : Value) (A : Around) (outer : List Env) (s : Shared) (H : Hp) (vs : List V) (Q : VK) (E : XK), RoomC k (A.deeper (envOfC qual (af st) s.heap.objs.size f cdv)) -> sp vs H Q E ->
  ∃ t, PSs (wn (XE P w) P w K mg base N qual (af st) f cdv A outer s H E) (av st) t /\ t { nx := fun _ H' => Q .non H', rt := Q } (fo N vs) H) : yy P w K mg base (XE P w) (k + 1) f fd ps sp := by
 obtain ⟨oc, od, kV, doc, pm, an, cdv, ct, osl, rfl, lk, hcd⟩ := F.ex
 exact E6 lk hcd S len fun A outer s H vs Q E hr hsp => hbody cdv A outer s H vs Q E hr hsp
section
variable {X : Cx} {CX : CXT} {k : Nat} {f : Addr} {fd : FuncData} {ps : List Str} {sp : Sp} {dvs : List V} {ds : List Value} {E : XKs} {x : Str} {p pos : Pos} {e : Expr} {es : List Expr} {t : TA}
theorem z_ (F : yy X.prog X.w X.K X.mg X.base CX k f fd ps sp) (hr : RoomC k X.A) (hg : Gl X x) (hm : X.mg x = some (.ref f)) (hk : PySem.W.keepIn X.K (.ref f) = true) (hb : Binds X.K fd ps ds) (hd : Vals dvs ds) (hx : d7 CX X E)
 (ha : PA X (e :: es) t) (hdb : (x == ("__debug__" : Str)) = false := by decide) (he : starEach (e :: es) X.env = (false, eval e X.env) :: starEach es X.env := by rfl) (hpl : (backTo pos (starEach es X.env)).any (·.1) = false := by rfl) :
 PE X (.Call (.Name x p) (e :: es) [] pos) (xG sp dvs E t) := by
 intro pins s σ H Q I h
 refine wpAny_Call_Name_kw (iS I hg hm ?_ hdb)
 refine PySem.W.callWith_K (h₀ := X.base) I.ok.mod.kin hk (thn (ha pos pins s σ H _ I h) fun us s1 ⟨vs, H1, I1, r, h⟩ => ⟨I1.kIn, ?_⟩) he hpl
 have r2 : Vals (vs ++ dvs) (us ++ ds) := r.append hd
 have hl : (us ++ ds).length = ps.length := by rw [<- r2.length]; exact F.len _ _ _ _ h
 refine wpAny_call (codeAny_mono (F.run X.A X.stack s1 H1 ⟨us, []⟩ (us ++ ds) (vs ++ dvs) Q (E σ) hr I1.env0 (hb s1 us I1.kIn hl) r2 h) fun r s' hq => ?_)
 cases r with
 | error e => exact hx pins σ H1 s1 e s' I1 hq
 | ok fl =>
  cases fl with
  | ret u => exact I1.after hq
  | next => exact False.elim hq
  | brk => exact False.elim hq
  | cont => exact False.elim hq
end
end L2
set_option maxHeartbeats 1000000
namespace L2
open PySem PySem.Spec PyProof.Rows
def wW (lo d : Int) (n : Nat) : It := ⟨fun i _ => i < n, fun i H x H' => H' = H /\ x = .int (lo + i * d), fun i _ => n <= i⟩
theorem we {P : Program} {w : World} {K : W.Frag} {tg : Expr} (it : Addr) (lo d : Int) (n : Nat) : xH P w K tg (wW lo d n) [it] it (fun i h => IsRangeIter h it (lo + (i : Nat) * d) ((n : Int) - (i : Nat)) d) where
 mem := by simp
 obj := fun i h st b hb => by
  have e : b = it := by simpa using hb
  subst e
  exact ⟨_, st, fun v z => by
   have z' : Data.fields _ = Data.cell v := z
   cases z'⟩
 keep := fun i h h' st k => k it (by simp) _ st
 item := by
  intro X hP hw hK hc i pins s σ H E I hf st hg
  subst hP hw hK
  obtain ⟨f0, f1, f2, f3, f4, f5⟩ := hf it (by simp)
  have W := Walks.range (prog := X.prog) (w := X.w) (I.ok.hd hc) it lo d n
  refine W.item i s _ _ hg st fun v h' tk hv st' kk => ?_
  obtain ⟨t, rfl⟩ := hv
  have I1 : Inv X pins σ H { s with heap := h', toks := tk } := I.turned (fun b o hb e => kk b o (by simpa using hb) e) f0 f1 f3 f4 f5
  exact ⟨_, rfl, pG (s := { s with heap := h', toks := tk }) (n := "range_iterator") st' rfl rfl (by decide) ⟨.int (lo + i * d), H, I1, ⟨t, rfl⟩, ⟨rfl, rfl⟩, st', fun b hb => (hf b hb).1⟩⟩
 done := by
  intro X hP hw hK hc i pins s σ H E I hf st hg
  subst hP hw hK
  obtain ⟨f0, f1, f2, f3, f4, f5⟩ := hf it (by simp)
  exact wpAny_pyNext_range_end (I.ok.hd hc) st (by have : n <= i := hg; omega) fun h' eb => ⟨rfl, I.turned (t' := s.toks) (fun b o hb e => eb b o hb e) f0 f1 f3 f4 f5⟩
 self := fun _ _ _ _ _ st h => wpAny_pyIter_rangeiter st h
section
variable {X : Cx} {tg : Expr}
def rsz (i j c : Int) : Nat := if i < j then ((j - i - 1) / c + 1).toNat else 0
theorem xC {lo c : Int} {n : Nat} {g : TG} {tb : TS} {D : fk} {σ : St} {H : Hp} (Pv : Nat -> St -> Hp -> Prop) (h0 : Pv 0 σ H)
 (hs : ∀ i σ H, i < n -> Pv i σ H -> g (.int (lo + i * c)) σ H fun σ2 H2 => tb { D with nx := Pv (i + 1), ct := Pv (i + 1), bk := D.nx } σ2 H2) (hd : ∀ σ H, Pv n σ H -> D.nx σ H) :
 ∃ W : Nat -> Nat -> St -> Hp -> Prop, (∃ m, W 0 m σ H) /\ ∀ i m σ H, W i m σ H ->
  ((wW lo c n).stop i H /\ D.nx σ H) \/ ((wW lo c n).go i H /\ ∃ N : St -> Hp -> Prop, (∀ σ' H', N σ' H' -> ∃ m', m' < m /\ W (i + 1) m' σ' H') /\ ∀ x H', (wW lo c n).yld i H x H' -> g x σ H' fun σ2 H2 => tb { D with nx := N, ct := N, bk := D.nx } σ2 H2) := by
 refine ⟨fun i m σ H => m = n - i /\ i <= n /\ Pv i σ H, ⟨n, by simp, Nat.zero_le _, h0⟩, ?_⟩
 rintro i m σ H ⟨rfl, hi, p⟩
 by_cases hlt : i < n
 ·refine .inr ⟨hlt, Pv (i + 1), fun σ' H' p' => ⟨n - (i + 1), by omega, rfl, hlt, p'⟩, fun x H' y => ?_⟩
  obtain ⟨e, y⟩ := y
  subst e y
  exact hs i σ _ hlt p
 ·have e : i = n := by omega
  subst e
  exact .inl ⟨Nat.le_refl _, hd σ H p⟩
end
end L2
namespace L2
theorem ex1 {α : Type} {us : List α} (hl : us.length = 1) : ∃ a0, us = [a0] := by
 match us, hl with
 | [a0], _ => exact ⟨a0, rfl⟩
theorem ex2 {α : Type} {us : List α} (hl : us.length = 2) : ∃ a0 a1, us = [a0, a1] := by
 match us, hl with
 | [a0, a1], _ => exact ⟨a0, a1, rfl⟩
theorem ex3 {α : Type} {us : List α} (hl : us.length = 3) : ∃ a0 a1 a2, us = [a0, a1, a2] := by
 match us, hl with
 | [a0, a1, a2], _ => exact ⟨a0, a1, a2, rfl⟩
theorem ex4 {α : Type} {us : List α} (hl : us.length = 4) : ∃ a0 a1 a2 a3, us = [a0, a1, a2, a3] := by
 match us, hl with
 | [a0, a1, a2, a3], _ => exact ⟨a0, a1, a2, a3, rfl⟩
theorem ex5 {α : Type} {us : List α} (hl : us.length = 5) : ∃ a0 a1 a2 a3 a4, us = [a0, a1, a2, a3, a4] := by
 match us, hl with
 | [a0, a1, a2, a3, a4], _ => exact ⟨a0, a1, a2, a3, a4, rfl⟩
theorem ex6 {α : Type} {us : List α} (hl : us.length = 6) : ∃ a0 a1 a2 a3 a4 a5, us = [a0, a1, a2, a3, a4, a5] := by
 match us, hl with
 | [a0, a1, a2, a3, a4, a5], _ => exact ⟨a0, a1, a2, a3, a4, a5, rfl⟩
end L2
namespace L2
open Lean Meta Simp
def Es : List Name := [`L2.jd, `L2.tC, `L2.tOp, `L2.tUn, `L2.gEqN, `L2.fi, `L2.xp, `L2.FR, `L2.fOr, `L2.Fm, `L2.BG, `L2.fPickT, `L2.wJ, `L2.lM, `L2.Fj, `L2.tRetN, `L2.i4, `L2.Dd, `L2.Az, `L2.h7, `L2.tIf, `L2.F7, `L2.tOr, `L2.Gg, `L2.BA, `L2.BB, `L2.tCB, `L2.xG, `L2.F9, `L2.F4, `L2.tIsN, `L2.Dy, `L2.tIsB, `L2.Dm, `L2.yp, `L2.tSl, `L2.cs, `L2.Ea, `L2.CMul, `L2.Ev, `L2.AW, `L2.E_, `L2.gcE, `L2.Fr, `L2.tGc, `L2.tBM, `L2.Dv, `L2.fJoinRev, `L2.CDivB, `L2.yB, `L2.E2, `L2.Dh, `L2.FI, `L2.Gk, `L2.De, `L2.Do, `L2.Dr, `L2.xW, `L2.xu, `L2.tDGet1, `L2.tDGet2, `L2.Dp, `L2.DY, `L2.BJ]
def E5 : List Name := [`L2.B5, `L2.gI, `L2.gIC, `L2.D6, `L2.gLe, `L2.gLt, `L2.eqS, `L2.kB, `L2.E8, `L2.DF, `L2.gMax, `L2.Ca, `L2.BY, `L2.gInt, `L2.gIx, `L2.sp0, `L2.sp1, `L2.sp2, `L2.sp3, `L2.sp4, `L2.asI, `L2.asT, `L2.asB, `L2.asR, `L2.tyV, `L2.gSt, `L2.gEn, `L2.gZf, `L2.gStr, `L2.AX, `L2.gIn, `L2.gSl, `L2.GK, `L2.gMulS, `L2.EF, `L2.EG, `L2.gRepT, `L2.gIsiT, `L2.Bu, `L2.wN, `L2.GO, `L2.EH, `L2.Eo, `L2.Ar, `L2.x_, `L2.D2, `L2.AF]
def rdI := And.intro @L2.CK (And.intro @L2.GD (And.intro @L2.V.bl.injEq (And.intro @L2.V.str.injEq (And.intro @L2.zt (And.intro @L2.FL (And.intro @L2.EI (And.intro @L2.DK (And.intro @L2.Er (And.intro @L2.ER (And.intro @L2.qx (And.intro @L2.wq (And.intro @L2.xz (And.intro @L2.xg (And.intro @L2.vt (And.intro @L2.ve (And.intro @L2.vK (And.intro @L2.B_ (And.intro @L2.ny (And.intro @L2.tS (And.intro @L2.vT (And.intro @L2.vZ (And.intro @L2.uy (And.intro @L2.sF (And.intro @L2.uj (And.intro @L2.DB (And.intro @L2.qr (And.intro @L2.wl (And.intro @L2.wZ (And.intro @L2.xr (And.intro @L2.wu (And.intro @L2.uT (And.intro @L2.vP (And.intro @L2.Ct (And.intro @L2.nD (And.intro @L2.uL (And.intro @L2.vN (And.intro @L2.vC (And.intro @L2.uZ (And.intro @L2.sD (And.intro @L2.uh (And.intro @L2.Ay (And.intro @L2.lp (And.intro @L2.so (And.intro @L2.uX (And.intro @L2.uI (And.intro @L2.su (And.intro @L2.rh (And.intro @L2.sA (And.intro @L2.CP (And.intro @L2.ou (And.intro @L2.tU (And.intro @L2.wC (And.intro @L2.vp (And.intro @L2.uQ (And.intro @L2.sq (And.intro @L2.uw (And.intro @L2.F5 (And.intro @L2.E0 (And.intro @L2.DE (And.intro @L2.Ej (And.intro @L2.BX (And.intro @L2.Ec (And.intro @L2.Cm (And.intro @L2.BK (And.intro @L2.CW (And.intro @L2.Cf (And.intro @L2.Ep (And.intro @L2.CF (And.intro @L2.CA (And.intro @L2.BZ (And.intro @true_and (And.intro @and_true (And.intro @and_self (And.intro @true_or (And.intro @or_true (And.intro @decide_eq_true_eq (And.intro @Bool.true_eq_false (And.intro @Bool.false_xor (And.intro @Bool.true_xor (And.intro @Bool.not_true (And.intro @Bool.not_false (And.intro @Bool.false_eq_true (And.intro @Bool.not_eq_true' (And.intro @decide_eq_false_iff_not @Classical.not_not))))))))))))))))))))))))))))))))))))))))))))))))))))))))))))))))))))))))))))))))))))
end L2
namespace L2
namespace Srt
open PySem PyProof.Rows
def kv (κ : Keyed -> Int) (xs : Array Keyed) (i : Nat) : Int := (xs[i]?.map κ).getD 0
def Up (κ : Keyed -> Int) (xs : Array Keyed) (k : Nat) : Prop := ∀ i j, i <= j -> j < k -> kv κ xs i <= kv κ xs j
def Dn (κ : Keyed -> Int) (xs : Array Keyed) (k : Nat) : Prop := ∀ i j, i <= j -> j < k -> kv κ xs j <= kv κ xs i
structure SB (kd : SortKind) (z : Array Keyed) (t : SortSt) : Prop where
 pm : (arrOf t).Perm z
 kn : kindOf t = kd
 fl : failedOf t = none
 pn : pendingOf t = #[]
section
variable {prog : Program} {w : World} {A : Around} {E : Value -> Shared -> Prop} {s : Shared} {z : Array Keyed} {κ : Keyed -> Int} {kd : SortKind} {t : SortSt}
def Lts (prog : Program) (w : World) (A : Around) (s : Shared) (kd : SortKind) (κ : Keyed -> Int) (z : Array Keyed) : Prop :=
 ∀ (E : Value -> Shared -> Prop) (p q : Keyed) (Q : Bool -> Shared -> Prop), p ∈ z.toList -> q ∈ z.toList -> Q (decide (κ p < κ q)) s -> wpAny (model prog w) A (keyLt' kd p.1 q.1) Q E s
end
section
variable {prog : Program} {w : World} {A : Around} {E : Value -> Shared -> Prop} {s : Shared}
theorem pairs_mem {vs : List Value} {p : Keyed} (h : p ∈ (vs.toArray.zip vs.toArray).toList) : p.1 ∈ vs /\ p.2 = p.1 := by
 rw [Array.toList_zip] at h
 simp at h
 rw [List.zip_eq_zipWith, List.zipWith_self] at h
 obtain ⟨a, ha, e⟩ := List.mem_map.mp h
 subst e
 exact ⟨ha, rfl⟩
theorem pairs_fst (vs : List Value) : (vs.toArray.zip vs.toArray).toList.map (·.1) = vs := by
 rw [Array.toList_zip]
 exact List.map_fst_zip (Nat.le_refl _)
end
end Srt
end L2
namespace L2
namespace Srt
open PySem PyProof.Rows
def Two (h : Heap) (p : Addr) (x y : Int) : Prop := ∃ (o : Obj) (t u : Tok) (n : Nat), h.get? p = some o /\ o.cls = .type "tuple" /\ o.data = .seq #[.int x t, .int y u] n
section
variable {prog : Program} {w : World} {A : Around} {E : Value -> Shared -> Prop} {s : Shared}
end
end Srt
end L2
namespace L2
namespace Srt
open PySem PyProof.Rows
section
variable {prog : Program} {w : World} {A : Around} {E : Value -> Shared -> Prop} {R : Result -> Shared -> Prop} {s : Shared} {I S ax : Addr} {items : Array Value} {h₀ : Heap} {κ : Value -> Int}
def Prs (h : Heap) (κ : Value -> Int) (lo : Int) (v : Value) : Prop := ∃ p x y, v = .ref p /\ Two h p x y /\ κ v = x * 64 + y /\ lo <= y /\ y < lo + 64
end
end Srt
end L2
namespace L2
open PySem PyProof.Rows
section
variable {X : Cx} {pins : List (Addr × Obj)} {σ : St} {H : Hp} {s : Shared}
end
end L2
namespace L2
open PySem PyProof.Rows
section
variable {X : Cx} {pins : List (Addr × Obj)} {σ : St} {H : Hp} {s : Shared}
def u0 : Value -> List Nat
 | .str x _ => x.cps.toList
 | _ => []
def IsS (v : Value) : Prop := ∃ x t, v = .str x t
abbrev InO (ls : List (List Nat)) : Prop := ls.Pairwise fun a b => ¬ b < a
theorem mJ : ∀ {a b : List (List Nat)}, a.Perm b -> InO a -> InO b -> a = b
 | [], _, p, _, _ => p.nil_eq
 | x :: r, b, p, ha, hb => by
  cases b with
  | nil => exact absurd p.length_eq (by simp)
  | cons y t =>
   have hx : x ∈ y :: t := p.mem_iff.mp (.head _)
   have hy : y ∈ x :: r := p.mem_iff.mpr (.head _)
   have e : x = y := by
    rcases List.mem_cons.mp hx with h | h
    ·exact h
    ·rcases List.mem_cons.mp hy with h' | h'
     ·exact h'.symm
     ·exact List.le_antisymm (List.not_lt.mp ((List.pairwise_cons.mp ha).1 y h')) (List.not_lt.mp ((List.pairwise_cons.mp hb).1 x h))
   subst e
   rw [mJ (List.Perm.cons_inv p) (List.pairwise_cons.mp ha).2 (List.pairwise_cons.mp hb).2]
theorem wE : ∀ {vs : List Value}, (∀ v ∈ vs, IsS v) -> Vals ((vs.map u0).map T) vs
 | [], _ => .nil
 | v :: vs, h => by
  obtain ⟨x, t, rfl⟩ := h v (List.mem_cons_self ..)
  exact .cons ⟨t, rfl⟩ (wE fun u m => h u (List.mem_cons_of_mem _ m))
theorem wv : ∀ {ls : List (List Nat)} {vs : List Value}, Vals (ls.map T) vs -> (∀ v ∈ vs, IsS v) /\ vs.map u0 = ls
 | [], _, .nil => ⟨(fun _ m => nomatch m), rfl⟩
 | l :: ls, _, .cons e t => by
  obtain ⟨k, rfl⟩ := e
  obtain ⟨a, b⟩ := wv t
  refine ⟨fun v m => ?_, by rw [List.map_cons, b]; rfl⟩
  rcases List.mem_cons.mp m with rfl | m
  ·exact ⟨_, _, rfl⟩
  ·exact a v m
theorem wG : ∀ {vs : List Value}, (∀ v ∈ vs, IsS v) -> ∃ ss, StrsAre vs ss
 | [], _ => ⟨[], .nil⟩
 | v :: vs, h => by
  obtain ⟨x, t, rfl⟩ := h v (List.mem_cons_self ..)
  obtain ⟨ss, r⟩ := wG fun u m => h u (List.mem_cons_of_mem _ m)
  exact ⟨x :: ss, .cons x t r⟩
theorem CJ {vs : List Value} (hv : ∀ v ∈ vs, IsS v) {xs : Array Keyed} (hp : xs.Perm (pairsOf vs)) (hs : SortedToK strKind xs (pairsOf vs).size) :
 (xs.map (·.2)).toList.Perm vs /\ InO ((xs.map (·.2)).toList.map u0) := by
 have pl : xs.toList.Perm (vs.toArray.zip vs.toArray).toList := Array.perm_iff_toList_perm.mp hp
 have e2 : (xs.map (·.2)).toList = xs.toList.map (·.1) := by
  rw [Array.toList_map]
  exact List.map_congr_left fun p m => (Srt.pairs_mem (pl.mem_iff.mp m)).2
 have p1 : (xs.map (·.2)).toList.Perm vs := by
  rw [e2]
  have := pl.map (·.1)
  rwa [Srt.pairs_fst] at this
 refine ⟨p1, ?_⟩
 rw [e2, List.map_map]
 have sz : xs.size = (pairsOf vs).size := hp.size_eq
 refine List.pairwise_iff_getElem.mpr fun i j hi hj hij => ?_
 have hi' : i < xs.size := by simpa using hi
 have hj' : j < xs.size := by simpa using hj
 have l := hs i j (Nat.le_of_lt hij) (by omega)
 have kk : ∀ k (h : k < xs.size), KK strKind xs k = u0 xs[k].1 := fun k h => by
  have m : xs[k] ∈ xs.toList := by simp
  obtain ⟨x, t, e⟩ := hv _ (Srt.pairs_mem (pl.mem_iff.mp m)).1
  unfold KK
  rw [Array.getElem?_eq_getElem h]
  show (strKind.keyOf xs[k].1).getD strKind.dflt = _
  rw [e]; rfl
 rw [kk i hi', kk j hj'] at l
 have l' : decide (u0 xs[j].1 < u0 xs[i].1) = false := l
 simp only [List.getElem_map, Array.getElem_toList, Function.comp_apply]
 exact of_decide_eq_false l'
def DX (K : W.Frag) : List V -> Hp -> VK -> Prop
 | [.ref p], H, Q => ∃ ls : List (List Nat), SqL K H p (ls.map T) /\ ls.length < 64 /\ ∀ out : List (List Nat), out.Perm ls -> InO out -> ∀ l, H l = none -> Q (.ref l) (upd H l (.lst (out.map T)))
 | _, _, _ => False
theorem sV {P : Program} {w : World} : ∀ {vs : List (Key × Value)} {us : List Value}, us.length = vs.length -> (∀ (j : Nat) (v : Value), us[j]? = some v -> ∃ k x, vs[j]? = some (k, x) /\ (b_ P w).is k v = true) -> Vals (vs.map fun e => kV e.1) us
 | [], [], _, _ => .nil
 | e :: vs, u :: us, hl, h => by
  obtain ⟨k, x, e1, r⟩ := h 0 u rfl
  simp at e1
  subst e1
  refine .cons ?_ (sV (by simpa using hl) fun j v q => by simpa using h (j + 1) v (by simpa using q))
  cases k with
  | inl i => obtain ⟨t, z⟩ := Value.isInt_shape r; exact ⟨t, z⟩
  | inr x => obtain ⟨t, z⟩ := Value.isStrOf_shape r; exact ⟨t, z⟩
 | [], _ :: _, hl, _ => by simp at hl
 | _ :: _, [], hl, _ => by simp at hl
def xf : List V -> Hp -> VK -> Prop
 | [.ref d], H, Q => ∃ (kvs : List (Key × V)) (ls : List (List Nat)), H d = some (.dK kvs) /\ kvs.map (fun e => kV e.1) = ls.map T /\ ls.length < 64 /\ ∀ out : List (List Nat), out.Perm ls -> InO out -> ∀ l, H l = none -> Q (.ref l) (upd H l (.lst (out.map T)))
 | _, _, _ => False
theorem rA (hc : X.calm = true) : CallR X (.builtin "sorted") xf := by
 intro pins s σ H xs us Q I r h
 unfold xf at h
 split at h
 ·rename_i d
  obtain ⟨kvs, ls, hd, hks, h64, q⟩ := h
  obtain ⟨u, rfl, rx⟩ := gi r
  cases (show u = Value.ref d from rx)
  obtain ⟨z, lo, vs, kv, D⟩ := yE I.hok hd
  obtain ⟨ep, hat⟩ := D.dictAt
  have len : vs.length = kvs.length := (KV.length kv).symm
  have ek : kvs.map (fun e => kV e.1) = vs.map fun e => kV e.1 := by
   have := congrArg (List.map kV) (KV.keys kv)
   simpa [List.map_map, Function.comp_def] using this
  refine Calls.call_function_entry kind_sorted plain_sorted entry_sorted (args_sorted1 _) ?_
  unfold Builtin.«sorted»
  refine wpAny_bind (m := checkCount "sorted" 1 1 _) (wpAny_pure ?_)
  refine wpAny_bind (PySem.W.kdu_collect (PySem.W.kdl_dict (knd := b_ X.prog X.w) (kvs := vs) (ep := ep) lo) (I.ok.hd hc) hat (by omega) fun h' tk acc kp it => ?_)
  have rv : Vals (ls.map T) acc.toList := by
   rw [<- hks, ek]
   exact sV (P := X.prog) (w := X.w) (by rw [Array.length_toList]; exact it.1) fun j v e => it.2 j v (by rw [<- Array.getElem?_toList]; exact e)
  obtain ⟨hv, em⟩ := wv rv
  obtain ⟨ss, hS⟩ := wG hv
  have len2 : acc.toList.length < 64 := by have := rv.length; rw [List.length_map] at this; omega
  refine wpAny_bind (wpAny_newList ?_)
  have hoL : (h'.push (seqObj "list" acc.toList.toArray 0)).get? h'.objs.size = some (seqObj "list" acc.toList.toArray 0) := Heap.get?_push_size _ rfl
  refine wpAny_bind (wpAny_holding (wpAny_call_entry slot_list_sort ⟨_, hoL, rfl⟩ entry_list_sort (list_sort_treeK strKind_oneLt hoL hS.keysOf (fun v₁ v₂ rest e => keyKind_strs (by rw [<- e]; exact hS)) len2 fun st' hp hs => ⟨_, rfl, ?_⟩) (args_list_sort _)))
  refine wpAny_pure ⟨_, rfl, ?_⟩
  obtain ⟨p1, o1⟩ := CJ hv hp hs
  generalize hout : (arrOf st').map (·.2) = out at p1 o1
  obtain ⟨c, ea⟩ := sortedHeap_at (out := out) hoL
  have I1 : Inv X pins σ H { s with heap := h', toks := tk } := I.kept kp
  have kp2 : ∀ b o, h'.get? b = some o -> (sortedHeap (h'.push (seqObj "list" acc.toList.toArray 0)) h'.objs.size acc.toList out).get? b = some o := fun b o e => by
   have l1 := Heap.lt_size e
   rw [sortedHeap_old (Nat.ne_of_lt l1) (by rw [size_push']; exact Nat.lt_succ_of_lt l1), Heap.get?_push_ne _ _ _ (Nat.ne_of_lt l1)]
   exact e
  have hv2 : ∀ v ∈ out.toList, IsS v := fun v m => hv v (p1.mem_iff.mp m)
  have pm : (out.toList.map u0).Perm ls := by have := p1.map u0; rwa [em] at this
  refine ⟨.ref h'.objs.size, _, I1.laid (t' := tk) (a := h'.objs.size) kp2 (Nat.le_refl _) (show ObjOk X.prog X.w _ _ _ (.lst ((out.toList.map u0).map T)) from ⟨?_, out.toList, c, wE hv2, by rw [Array.toArray_toList]; exact ea⟩), rfl, q _ pm o1 _ (I1.hok.fresh (Nat.le_refl _))⟩
  rw [List.length_map, pm.length_eq, sizeLine_eq]; omega
 ·exact h.elim
end
section
variable {X : Cx} {tg : Expr}
theorem wT {pins : List (Addr × Obj)} {σ : St} {H : Hp} {s : Shared} {R : It -> Hp -> Prop} {E : Value -> Shared -> Prop} {lo hi c : Int} {t u v : Tok} {tk : Nat} (I : Inv X pins σ H s) (h1 : 0 <= lo) (h2 : lo < 1000000) (h3 : -1000000 <= hi) (h4 : hi < 1000000) (h5 : 1 <= c) (h6 : c < 1000000)
 (q : R (wW lo c (rsz lo hi c)) H) : wpAny (model X.prog X.w) X.A (pyIter (.ref s.heap.objs.size)) (PIE X pins σ tg R) E { s with heap := s.heap.push { cls := .type "range", data := .fields #[.int lo t, .int hi u, .int c v] }, toks := tk } := by
 have hd : 0 <= (hi - lo - 1) / c \/ ¬ lo < hi := by
  by_cases h : lo < hi
  ·exact .inl (Int.ediv_nonneg (by omega) (by omega))
  ·exact .inr h
 have hd2 : lo < hi -> (hi - lo - 1) / c < 1000000 := fun h => by
  have := Int.ediv_le_self c (show 0 <= hi - lo - 1 by omega)
  omega
 have e2 : ((rsz lo hi c : Nat) : Int) - ((0 : Nat) : Int) = Builtin.Range.rangeSize lo hi c := by
  unfold rsz Builtin.Range.rangeSize
  rw [if_pos (show c > 0 by omega)]
  split <;> omega
 refine wpAny_pyIter_range (IsRange.new ..) ?_ ?_
 ·have fits : ∀ z : Int, -(2 ^ 62) <= z -> z < 2 ^ 62 -> Builtin.Range.rangeFitsLong z = true := fun z z1 z2 => by
   simp only [Builtin.Range.rangeFitsLong, Bool.and_eq_true, decide_eq_true_eq]; omega
  have hr : 0 <= ((rsz lo hi c : Nat) : Int) /\ ((rsz lo hi c : Nat) : Int) <= 1000000 := by
   unfold rsz
   split
   ·rename_i h; have := hd2 h; omega
   ·omega
  unfold Builtin.Range.small
  rw [<- e2, fits lo (by omega) (by omega), fits hi (by omega) (by omega), fits c (by omega) (by omega), fits _ (by omega) (by omega), if_pos (show c > 0 by omega), fits (hi + (c - 1)) (by omega) (by omega), Bool.or_true]
  rfl
 have I1 : Inv X pins σ H { s with heap := s.heap.push { cls := .type "range", data := .fields #[.int lo t, .int hi u, .int c v] }, toks := tk } := I.kept fun b o e => Heap.get?_push_of_some _ e
 refine ⟨(s.heap.push { cls := .type "range", data := .fields #[.int lo t, .int hi u, .int c v] }).objs.size, [(s.heap.push { cls := .type "range", data := .fields #[.int lo t, .int hi u, .int c v] }).objs.size], _, _, H, rfl,
  I1.kept (t' := tk) fun b o e => Heap.get?_push_of_some _ e, we _ lo c (rsz lo hi c), ?_, fun b hb => ?_, q⟩
 ·have e1 : lo + ((0 : Nat) : Int) * c = lo := by simp
  show IsRangeIter _ _ (lo + ((0 : Nat) : Int) * c) (((rsz lo hi c : Nat) : Int) - ((0 : Nat) : Int)) c
  rw [e1, e2]
  exact Heap.get?_push_size _ rfl
 ·have e : b = (s.heap.push { cls := .type "range", data := .fields #[.int lo t, .int hi u, .int c v] }).objs.size := by simpa using hb
  subst e
  exact I1.fpOk (Nat.le_refl _) (I1.hok.fresh (Nat.le_refl _))
def Al (ta : TA) : TI := fun σ H R => ta σ H fun vs H1 => ∃ i j c : Int, vs = [.int i, .int j, .int c] /\ (0 <= i /\ i < 1000000 /\ -1000000 <= j /\ j < 1000000 /\ 1 <= c /\ c < 1000000) /\ R (wW i c (rsz i j c)) H1
theorem xl {a b c : Expr} {ta : TA} {p pos : Pos} (hg : Gl X "range") (hm : X.mg "range" = none) (ha : PA X [a, b, c] ta) (hs : starEach [a, b, c] X.env = [(false, eval a X.env), (false, eval b X.env), (false, eval c X.env)] := by rfl) (hs2 : starEach [b, c] X.env = [(false, eval b X.env), (false, eval c X.env)] := by rfl) :
 PI X tg (.Call (.Name "range" p) [a, b, c] [] pos) (Al ta) := by
 intro pins s σ H R I h
 refine Call_ (nZ I hg hm boot_range (PyProof.Rows.callWith_type1 (thn (ha pos pins s σ H _ I h) fun us s1 ⟨vs, H1, I1, r1, q1⟩ => ?_) (by rw [hs, hs2]) (by rw [hs2]; rfl)))
 obtain ⟨i, j, k, e, ⟨q1, q2, q3, q4, q5, q6⟩, q⟩ := q1
 subst e
 cases r1 with
 | cons r rr =>
  cases rr with
  | cons r' rr =>
   cases rr with
   | cons r'' rr =>
    cases rr
    obtain ⟨t, rfl⟩ := r
    obtain ⟨t', rfl⟩ := r'
    obtain ⟨t'', rfl⟩ := r''
    exact call_range_3 (by omega) (wT I1 q1 q2 q3 q4 q5 q6 q) (Or.inl (PyProof.noPylong_small (by omega)))
end
open Lean Meta Simp
def Cq : List Name := Es ++ [`L2.FS, `L2.yR, `L2.Dw, `L2.tTryN]
def CU : List Name := E5 ++ [`L2.DX, `L2.xf, `L2.gListD, `L2.gAny, `L2.gInL, `L2.EL]
end L2
namespace L2
open PySem PyProof.Rows
section
variable {X : Cx} {pins : List (Addr × Obj)} {σ : St} {H : Hp} {s : Shared}
end
namespace Srt
def GS (h : Heap) (p : Addr) (x y z : Int) : Prop := ∃ (o : Obj) (t u r : Tok) (n : Nat), h.get? p = some o /\ o.cls = .type "tuple" /\ o.data = .seq #[.int x t, .int y u, .int z r] n
section
variable {prog : Program} {w : World} {A : Around} {E : Value -> Shared -> Prop} {s : Shared}
end
end Srt
section
variable {X : Cx} {pins : List (Addr × Obj)} {σ : St} {H : Hp} {s : Shared}
end
end L2
namespace L2
namespace Rv
open PySem PyProof.Rows
section
variable {prog : Program} {w : World} {A : Around} {E : Value -> Shared -> Prop} {s : Shared}
end
end Rv
open PySem PyProof.Rows
section
variable {X : Cx} {pins : List (Addr × Obj)} {σ : St} {H : Hp} {s : Shared}
end
end L2
namespace L2
open PySem PyProof.Rows
def FE (J : It) (g : TG) (tb : TS) (D : fk) (σ : St) (H : Hp) : Prop := ∃ W : Nat -> Nat -> St -> Hp -> Prop, (∃ m, W 0 m σ H) /\ ∀ i m σ H, W i m σ H ->
 (J.stop i H /\ D.nx σ H) \/ (J.go i H /\ ∃ N : St -> Hp -> Prop, (∀ σ' H', N σ' H' -> ∃ m', m' < m /\ W (i + 1) m' σ' H') /\ ∀ x H', J.yld i H x H' -> g x σ H' fun σ2 H2 => tb { D with nx := N, ct := N, bk := D.nx } σ2 H2)
theorem nv {J : It} {H1 : Hp} {D : Addr} {Q : VK} {σr : St} {tt : TT} {te : TE} (h : ∃ W : Nat -> Nat -> List V -> Hp -> Prop, (∃ m, W 0 m [] (upd H1 D (.lst []))) /\
 ∀ i m ys H2, W i m ys H2 -> H2 D = some (.lst ys) /\ ((J.stop i H2 /\ Q (.ref D) H2) \/ (J.go i H2 /\ ∀ x H3, J.yld i H2 x H3 ->
  tt (some x :: σr) H3 fun b H4 => if b = true then te (some x :: σr) H4 fun y H5 => H5 D = some (.lst ys) /\ ys.length < sizeLine /\ ∃ m', m' < m /\ W (i + 1) m' (ys ++ [y]) (upd H5 D (.lst (ys ++ [y])))
   else ∃ m', m' < m /\ W (i + 1) m' ys H4))) :
 ∃ W : Nat -> Nat -> List V -> Hp -> Prop, (∃ m, W 0 m [] (upd H1 D (.lst []))) /\
  ∀ i m ys H2, W i m ys H2 -> H2 D = some (.lst ys) /\ ((J.stop i H2 /\ Q (.ref D) H2) \/ (J.go i H2 /\ ∀ x H3, J.yld i H2 x H3 -> ∀ zs : St, zs.length = 1 ->
   h7 0 x (zs ++ σr) H3 fun σ4 H4 => (∃ zs4 : St, zs4.length = 1 /\ σ4 = zs4 ++ σr) /\
    tt σ4 H4 fun b H5 => if b = true then te σ4 H5 fun y H6 => H6 D = some (.lst ys) /\ ys.length < sizeLine /\ ∃ m', m' < m /\ W (i + 1) m' (ys ++ [y]) (upd H6 D (.lst (ys ++ [y])))
     else ∃ m', m' < m /\ W (i + 1) m' ys H5)) := by
 obtain ⟨W, h0, h⟩ := h
 refine ⟨W, h0, fun i m ys H2 w => ?_⟩
 obtain ⟨h1, h2⟩ := h i m ys H2 w
 refine ⟨h1, h2.imp id fun ⟨g1, g2⟩ => ⟨g1, fun x H3 y zs hz => ?_⟩⟩
 obtain ⟨z, rfl⟩ := ex1 hz
 exact ⟨⟨[some x], rfl, rfl⟩, g2 x H3 y⟩
theorem cmS {tl : TE} {ks : List Nat} {σ : St} {H : Hp} {Q : VK} {tt : TT} {te : TE} (C : Hp -> Prop) (hC : ∀ D ys, H D = none -> C (upd H D (.lst ys))) (l : List Nat) (p : Nat -> Bool) (f : Nat -> V) (hl : ∀ R : VK, R (T l) H -> tl σ H R) (ha : ∀ c ∈ l, c < 128) (hz : l.length <= sizeLine)
 (hp : ∀ c ∈ l, ∀ H (R : Bool -> Hp -> Prop), C H -> R (p c) H -> tt (some (T [c]) :: ks.map fun k => (σ[k]?).join) H R) (hf : ∀ c ∈ l, p c = true -> ∀ H (R : VK), C H -> R (f c) H -> te (some (T [c]) :: ks.map fun k => (σ[k]?).join) H R)
 (q : ∀ D, H D = none -> Q (.ref D) (upd H D (.lst ((l.filter p).map f)))) : ii (FQ tl) 1 (h7 0) ks tt te σ H Q := by
 refine hl _ ⟨by simpa [cs] using ha, fun D hD => ?_⟩
 have P : ∀ x ∈ l.map fun c => T [c], ∃ c ∈ l, x = T [c] := fun x hx => by
  obtain ⟨c, hc, rfl⟩ := List.mem_map.mp hx; exact ⟨c, hc, rfl⟩
 let hd : V -> Nat := fun v => match v with | .str y => (cs y).headD 0 | _ => 0
 have hhd : ∀ c, hd (T [c]) = c := fun c => rfl
 refine nv (sR (Bm l) C (fun v => p (hd v)) (fun v => f (hd v)) (by simpa using hz) (fun x hx H R c r => ?_) (fun x hx hb H R c r => ?_) D hD (fun ys => hC D ys hD) ?_)
 ·obtain ⟨y, hy, rfl⟩ := P x hx
  exact hp y hy H R c r
 ·obtain ⟨y, hy, rfl⟩ := P x hx
  exact hf y hy hb H R c r
 ·have e : ((l.map fun c => T [c]).filter fun v => p (hd v)).map (fun v => f (hd v)) = (l.filter p).map f := by
   rw [List.filter_map, List.map_map]
   rfl
  rw [e]; exact q D hD
theorem cmR {ta : TA} {ks : List Nat} {σ : St} {H : Hp} {Q : VK} {tt : TT} {te : TE} (C : Hp -> Prop) (hC : ∀ D ys, H D = none -> C (upd H D (.lst ys))) (n : Nat) (p : Nat -> Bool) (f : Nat -> V) (hl : ∀ R : List V -> Hp -> Prop, R [.int n] H -> ta σ H R) (hz : n <= sizeLine)
 (hp : ∀ k, k < n -> ∀ H (R : Bool -> Hp -> Prop), C H -> R (p k) H -> tt (some (.int k) :: ks.map fun k => (σ[k]?).join) H R) (hf : ∀ k, k < n -> p k = true -> ∀ H (R : VK), C H -> R (f k) H -> te (some (.int k) :: ks.map fun k => (σ[k]?).join) H R)
 (q : ∀ D, H D = none -> Q (.ref D) (upd H D (.lst (((List.range n).filter p).map f)))) : ii (Bf ta) 1 (h7 0) ks tt te σ H Q := by
 have hz' : (n : Int) < 2 ^ 62 := by
  have : sizeLine < 2 ^ 62 := by rw [sizeLine_eq]; decide
  have h2 : n < 2 ^ 62 := by omega
  have e : ((2 ^ 62 : Nat) : Int) = (2 : Int) ^ 62 := by decide
  omega
 refine hl _ ⟨n, rfl, by omega, hz', ?_⟩
 rw [Int.toNat_natCast]
 intro D hD
 have P : ∀ x ∈ (List.range n).map fun k => V.int (k : Nat), ∃ k, k < n /\ x = .int (k : Nat) := fun x hx => by
  obtain ⟨c, hc, rfl⟩ := List.mem_map.mp hx; exact ⟨c, by simpa using hc, rfl⟩
 let hd : V -> Nat := fun v => match v with | .int i => i.toNat | _ => 0
 have hhd : ∀ c : Nat, hd (.int c) = c := fun c => Int.toNat_natCast c
 refine nv (sR (BI n) C (fun v => p (hd v)) (fun v => f (hd v)) (by simpa using hz) (fun x hx H R c' r => ?_) (fun x hx hb H R c' r => ?_) D hD (fun ys => hC D ys hD) ?_)
 ·obtain ⟨c, hc, rfl⟩ := P x hx
  rw [hhd] at r
  exact hp c hc H R c' r
 ·obtain ⟨c, hc, rfl⟩ := P x hx
  rw [hhd] at r hb
  exact hf c hc hb H R c' r
 ·have e : (((List.range n).map fun k => V.int (k : Nat)).filter fun v => p (hd v)).map (fun v => f (hd v)) = ((List.range n).filter p).map f := by
   rw [List.filter_map, List.map_map]
   have e1 : ((fun v => p (hd v)) ∘ fun k : Nat => V.int (k : Nat)) = p := by funext k; simp only [Function.comp, hhd]
   have e2 : ((fun v => f (hd v)) ∘ fun k : Nat => V.int (k : Nat)) = f := by funext k; simp only [Function.comp, hhd]
   rw [e1, e2]
  rw [e]; exact q D hD
theorem cmT {K : W.Frag} {tl : TE} {ks : List Nat} {σ : St} {H H1 : Hp} {Q : VK} {tt : TT} {te : TE} (a : Addr) (vs : List V) (C : Hp -> Prop) (hC : ∀ D ys, H1 D = none -> C (upd H1 D (.lst ys))) (hT : ∀ H, C H -> SqT K H a vs) (p : V -> Bool) (f : V -> V)
 (hl : ∀ R : VK, R (.ref a) H1 -> tl σ H R) (h1 : SqT K H1 a vs) (hz : vs.length <= sizeLine)
 (hp : ∀ x ∈ vs, ∀ H (R : Bool -> Hp -> Prop), C H -> R (p x) H -> tt (some x :: ks.map fun k => (σ[k]?).join) H R) (hf : ∀ x ∈ vs, p x = true -> ∀ H (R : VK), C H -> R (f x) H -> te (some x :: ks.map fun k => (σ[k]?).join) H R)
 (q : ∀ D, H1 D = none -> Q (.ref D) (upd H1 D (.lst ((vs.filter p).map f)))) : ii (Em K tl) 1 (h7 0) ks tt te σ H Q :=
 hl _ ⟨a, rfl, ⟨vs, h1⟩, fun D hD => nv (xP C (BF hT) p f hz hp hf D hD (fun ys => hC D ys hD) (q D hD))⟩
inductive A2 {α β : Type} (R : α -> β -> Prop) : List α -> List β -> Prop
 | nil : A2 R [] []
 | cons {a : α} {b : β} {as : List α} {bs : List β} : R a b -> A2 R as bs -> A2 R (a :: as) (b :: bs)
namespace A2
variable {α β : Type} {R S : α -> β -> Prop}
theorem len {as : List α} {bs : List β} (h : A2 R as bs) : as.length = bs.length := by
 induction h with
 | nil => rfl
 | cons _ _ ih => simp [ih]
theorem imp {as : List α} {bs : List β} (h : A2 R as bs) (f : ∀ a b, a ∈ as -> b ∈ bs -> R a b -> S a b) : A2 S as bs := by
 induction h with
 | nil => exact .nil
 | cons r _ ih => exact .cons (f _ _ (.head _) (.head _) r) (ih fun a b ha hb => f a b (.tail _ ha) (.tail _ hb))
theorem app {as : List α} {bs : List β} (h : A2 R as bs) {cs : List α} {ds : List β} (g : A2 R cs ds) : A2 R (as ++ cs) (bs ++ ds) := by
 induction h with
 | nil => exact g
 | cons r _ ih => exact .cons r ih
theorem snoc {as : List α} {bs : List β} {a : α} {b : β} (h : A2 R as bs) (r : R a b) : A2 R (as ++ [a]) (bs ++ [b]) := h.app (.cons r .nil)
end A2
def sp6 (f : V -> V -> V -> V -> V -> V -> Hp -> VK -> XK -> Prop) : Sp := fun vs H Q E => match vs with
 | [x, y, z, u, v, a] => f x y z u v a H Q E
 | _ => False
theorem sp6.inv {vs : List V} {H : Hp} {Q : VK} {E : XK} {f} (h : sp6 f vs H Q E) : ∃ x y z u v a, vs = [x, y, z, u, v, a] /\ f x y z u v a H Q E := by
 unfold sp6 at h
 split at h
 ·exact ⟨_, _, _, _, _, _, rfl, h⟩
 ·exact h.elim
theorem sp6.len {vs : List V} {H : Hp} {Q : VK} {E : XK} {f} (h : sp6 f vs H Q E) : vs.length = 6 := by obtain ⟨_, _, _, _, _, _, rfl, _⟩ := sp6.inv h; rfl
def sp7 (f : V -> V -> V -> V -> V -> V -> V -> Hp -> VK -> XK -> Prop) : Sp := fun vs H Q E => match vs with
 | [x, y, z, u, v, a, b] => f x y z u v a b H Q E
 | _ => False
theorem sp7.inv {vs : List V} {H : Hp} {Q : VK} {E : XK} {f} (h : sp7 f vs H Q E) : ∃ x y z u v a b, vs = [x, y, z, u, v, a, b] /\ f x y z u v a b H Q E := by
 unfold sp7 at h
 split at h
 ·exact ⟨_, _, _, _, _, _, _, rfl, h⟩
 ·exact h.elim
theorem sp7.len {vs : List V} {H : Hp} {Q : VK} {E : XK} {f} (h : sp7 f vs H Q E) : vs.length = 7 := by obtain ⟨_, _, _, _, _, _, _, rfl, _⟩ := sp7.inv h; rfl
theorem ex7 {α : Type} {us : List α} (hl : us.length = 7) : ∃ a0 a1 a2 a3 a4 a5 a6, us = [a0, a1, a2, a3, a4, a5, a6] := by
 match us, hl with
 | [a0, a1, a2, a3, a4, a5, a6], _ => exact ⟨_, _, _, _, _, _, _, rfl⟩
open Lean Meta Simp
def BO : List Name := Cq ++ [`L2.fo, `Option.join]
def Cw : List Name := CU ++ [`L2.gCnt, `L2.gSortT, `L2.sp5, `L2.sp6, `L2.sp7]
def EK : Name -> Bool
 | .str _ s => s.startsWith "sp_"
 | _ => false
end L2
namespace L2
open PySem PyProof.Rows Builtin Builtin.Str
section
variable {X : Cx}
end
end L2
namespace L2
open PySem PyProof.Rows
section
variable {prog : Program} {w : World} {A : Around} {E : Value -> Shared -> Prop} {s : Shared} {it d : Addr} {i ep : Nat} {od : Obj} {es : Array DictEntry}
theorem BU {Q : Value -> Shared -> Prop} (lo : (d == sysModules) = false) (ho : s.heap.get? d = some od) (ex : od.ExactDict) (hd : od.data = .dict es ep)
 (q : Q (.ref s.heap.objs.size) { s with heap := s.heap.push { cls := .type "dict_keyiterator", data := .fields #[.ref d, .int 0 0, .int es.size 0, .int ep 0] } }) : wpAny (model prog w) A (pyIter (.ref d)) Q E s := by
 have ty : s.TypeIs (.ref d) "dict" := ⟨od, ho, ex.1⟩
 refine wpAny_pyIter_slot ty F.slot_dict_iter (wpAny_call_entry F.slot_dict_iter ty F.entry_dict_iter ?_ (F.args_dict_iter_1 _))
 unfold Builtin.«dict.__iter__» Builtin.Dict.dictSlotNone
 refine wpAny_bind (wpAny_bind (wpAny_notOrdered_dict ty ?_)); show wpAny _ _ (pure (Value.ref d)) _ _ s
 refine wpAny_pure ?_; show wpAny _ _ (Builtin.Dict.showsAll d >>= _) _ _ s
 unfold Builtin.Dict.showsAll; rw [if_neg (by rw [lo]; exact Bool.false_ne_true)]
 refine wpAny_bind (wpAny_pure (wpAny_bind (wpAny_dictEntries ho hd (wpAny_bind (wpAny_dictEpoch ho hd ?_)))))
 refine wpAny_bind (wpAny_newObj_type (wpAny_pure ⟨_, rfl, "dict_keyiterator", _, ⟨_, Heap.get?_push_size _ rfl, rfl⟩, F.slot_dict_keyiterator_next.lookup, by simpa [rawInt] using q⟩))
theorem B2 {e : DictEntry} {Q : Option Value -> Shared -> Prop} (hi : s.heap.IsKeyIter it d i es.size ep) (hod : s.heap.get? d = some od) (hdd : od.data = .dict es ep) (hx : es[i]? = some e)
 (q : ∀ h', h'.IsKeyIter it d (i + 1) es.size ep -> Heap.SameBut it s.heap h' -> Q (some e.key) { s with heap := h' }) : wpAny (model prog w) A (pyNext (.ref it)) Q E s := by
 obtain ⟨o, ho, hc, hd⟩ := id hi
 have ty := hi.typeIs
 unfold pyNext
 refine wpAny_bind (wpAny_attempt (wpAny_callSpecial?_slot (name := Str.ofString "__next__") ty F.slot_dict_keyiterator_next (wpAny_call_entry F.slot_dict_keyiterator_next ty F.entry_dict_keyiterator_next ?_ (F.args_dict_keyiterator_next_1 _))))
 refine wpAny_bind (wpAny_pure (wpAny_bind (wpAny_bind ?_)))
 first | refine wpAny_bind (wpAny_typeNameOfWhole_keyiter ty (wpAny_pure (wpAny_bind (wpAny_fieldsOf ho hd ?_)))) | refine wpAny_bind (wpAny_typeNameOf_keyiter ty (wpAny_pure (wpAny_bind (wpAny_fieldsOf ho hd ?_))))
 simp only [show Builtin.Dict_items.ownsTuple "dict_keyiterator" = false by decide, Bool.false_eq_true, if_false]
 show wpAny _ _ (if (Value.ref d == Value.none) = true then _ else _) _ _ s; rw [if_neg (show ¬ ((Value.ref d == Value.none) = true) from Bool.false_ne_true)]
 refine wpAny_bind (wpAny_pure (wpAny_bind (wpAny_dictEntries hod hdd ?_))); rw [if_neg (by simp)]
 refine wpAny_bind (wpAny_pure (wpAny_bind (wpAny_dictEpoch hod hdd ?_))); rw [if_neg (by simp)]
 refine wpAny_pure ?_
 have lt : i < es.size := (Array.getElem?_eq_some_iff.mp hx).1
 have ee : es[i] = e := (Array.getElem?_eq_some_iff.mp hx).2
 simp only [show ¬ ((i : Int) < 0) from by omega, if_false, Int.toNat_natCast, Array.getElem?_eq_getElem lt]; refine wpAny_bind ?_
 first | refine wpAny_bind (wpAny_typeNameOfWhole_keyiter ty (wpAny_pure (wpAny_bind (wpAny_isOneOf_keyiter ty ?_)))) | refine wpAny_bind (wpAny_typeNameOf_keyiter ty (wpAny_pure (wpAny_bind (wpAny_isOneOf_keyiter ty ?_))))
 show wpAny _ _ (setField (.ref it) 1 (rawInt ((i : Int) + 1)) >>= _) _ _ s; refine wpAny_bind (wpAny_setField ho hd (by simp) ?_)
 have hi' : (s.heap.update it (Obj.mapFields (·.setIfInBounds 1 (rawInt ((i : Int) + 1))))).IsKeyIter it d (i + 1) es.size ep := ⟨_, Heap.get?_update_self _ ho (Obj.isFreed_of_fields (Obj.data_mapFields hd _)), (Obj.cls_mapFields ..).trans hc, by rw [Obj.data_mapFields hd]; simp [rawInt]⟩
 refine wpAny_bind (wpAny_holding (wpAny_bind (wpAny_isOneOf_keyiter (s := { s with heap := s.heap.update it (Obj.mapFields (·.setIfInBounds 1 (rawInt ((i : Int) + 1)))) }) hi'.typeIs ?_)))
 show wpAny _ _ (pure es[i].key) _ _ _; rw [ee]
 exact wpAny_pure (wpAny_pure ⟨_, rfl, wpAny_pure (q _ hi' (Heap.SameBut.update ..))⟩)
theorem D7 {Q : Option Value -> Shared -> Prop} (hh : A.handled = none) (hi : s.heap.IsKeyIter it d i es.size ep) (hod : s.heap.get? d = some od) (hdd : od.data = .dict es ep) (hx : es.size <= i)
 (q : ∀ h', Heap.ExtBut it s.heap h' -> Q none { s with heap := h' }) : wpAny (model prog w) A (pyNext (.ref it)) Q E s := by
 obtain ⟨o, ho, hc, hd⟩ := id hi
 have ty := hi.typeIs
 unfold pyNext
 refine wpAny_bind (wpAny_attempt (wpAny_callSpecial?_slot (name := Str.ofString "__next__") ty F.slot_dict_keyiterator_next (wpAny_call_entry F.slot_dict_keyiterator_next ty F.entry_dict_keyiterator_next ?_ (F.args_dict_keyiterator_next_1 _))))
 refine wpAny_bind (wpAny_pure (wpAny_bind (wpAny_bind ?_)))
 first | refine wpAny_bind (wpAny_typeNameOfWhole_keyiter ty (wpAny_pure (wpAny_bind (wpAny_fieldsOf ho hd ?_)))) | refine wpAny_bind (wpAny_typeNameOf_keyiter ty (wpAny_pure (wpAny_bind (wpAny_fieldsOf ho hd ?_))))
 simp only [show Builtin.Dict_items.ownsTuple "dict_keyiterator" = false by decide, Bool.false_eq_true, if_false]
 show wpAny _ _ (if (Value.ref d == Value.none) = true then _ else _) _ _ s; rw [if_neg (show ¬ ((Value.ref d == Value.none) = true) from Bool.false_ne_true)]
 refine wpAny_bind (wpAny_pure (wpAny_bind (wpAny_dictEntries hod hdd ?_))); rw [if_neg (by simp)]
 refine wpAny_bind (wpAny_pure (wpAny_bind (wpAny_dictEpoch hod hdd ?_))); rw [if_neg (by simp)]
 refine wpAny_pure ?_
 simp only [show ¬ ((i : Int) < 0) from by omega, if_false, Int.toNat_natCast, Array.getElem?_eq_none hx]; refine wpAny_bind ?_
 first | refine wpAny_bind (wpAny_typeNameOfWhole_keyiter ty (wpAny_pure ?_)) | refine wpAny_bind (wpAny_typeNameOf_keyiter ty (wpAny_pure ?_))
 show wpAny _ _ (setField (.ref it) 0 .none >>= _) _ _ s; refine wpAny_bind (wpAny_setField ho hd (by simp) ?_)
 show wpAny _ _ (newExc (.type "StopIteration") [] >>= _) _ _ _; refine wpAny_bind ?_
 simp only [newExc, newTuple]; refine wpAny_bind (wpAny_newObj_type ?_ (by size_fits))
 refine wpAny_bind (m := firstArgMember _ _) (wpAny_of_eq (a := Value.none) (by first | rfl | (simp only [firstArgMember]; rfl)) (wpAny_newObj_type ?_ (by size_fits)))
 simp only [raiseNew]; refine wpAny_bind (wpAny_handled ?_)
 rw [show A.in1.handled = none from hh]; refine wpAny_bind (wpAny_pure (wpAny_throw ?_))
 refine wpAny_bind (wpAny_isInstance (T := "StopIteration") (b := true) ⟨_, Heap.get?_push_size _ rfl, rfl⟩ isSubtype_stop (wpAny_pure (q _ (((Heap.SameBut.update ..).extBut.push _).push _))))
end
abbrev Pt := List Nat × List Nat
def ltP (a b : Pt) : Prop := a.1 < b.1 \/ (a.1 = b.1 /\ a.2 < b.2)
instance (a b : Pt) : Decidable (ltP a b) := by unfold ltP; infer_instance
namespace Srt
def GU (h : Heap) (p : Addr) (e : Pt) : Prop := ∃ (o : Obj) (t u : Tok) (n : Nat), h.get? p = some o /\ o.cls = .type "tuple" /\ o.data = .seq #[.str ⟨⟨e.1⟩⟩ t, .str ⟨⟨e.2⟩⟩ u] n
section
variable {prog : Program} {w : World} {A : Around} {E : Value -> Shared -> Prop} {s : Shared}
end
end Srt
section
variable {X : Cx} {pins : List (Addr × Obj)} {σ : St} {H : Hp} {s : Shared}
end
def CEl (J : It) (n : Nat) (g : TG) (ks : List Nat) (tt : TT) (te : TE) (σ : St) (H1 : Hp) (Q : VK) : Prop := ∀ D, H1 D = none -> ∃ W : Nat -> Nat -> List V -> Hp -> Prop, (∃ m, W 0 m [] (upd H1 D (.lst []))) /\
 ∀ i m ys H2, W i m ys H2 -> H2 D = some (.lst ys) /\ ((J.stop i H2 /\ Q (.ref D) H2) \/ (J.go i H2 /\ ∀ x H3, J.yld i H2 x H3 -> ∀ zs : St, zs.length = n ->
  g x (zs ++ ks.map fun k => (σ[k]?).join) H3 fun σ4 H4 => (∃ zs4 : St, zs4.length = n /\ σ4 = zs4 ++ ks.map fun k => (σ[k]?).join) /\
   tt σ4 H4 fun b H5 => if b = true then te σ4 H5 fun y H6 => H6 D = some (.lst ys) /\ ys.length < sizeLine /\ ∃ m', m' < m /\ W (i + 1) m' (ys ++ [y]) (upd H6 D (.lst (ys ++ [y])))
    else ∃ m', m' < m /\ W (i + 1) m' ys H5))
theorem AT {K : W.Frag} {tl : TE} {n : Nat} {g : TG} {ks : List Nat} {tt : TT} {te : TE} {σ : St} {H : Hp} {Q : VK} (h : tl σ H fun x H1 => ∃ a, x = .ref a /\ (∃ xs, SqL K H1 a xs) /\ CEl (Itl K a) n g ks tt te σ H1 Q) : ii (tL K tl) n g ks tt te σ H Q := h
theorem Bx {K : W.Frag} {n : Nat} {g : TG} {ks : List Nat} {tt : TT} {te : TE} {σ : St} {H1 : Hp} {Q : VK} (a : Addr) (xs : List V) (P : Addr -> Nat -> List V -> Hp -> Prop) (hz : xs.length < sizeLine)
 (h0 : ∀ D, H1 D = none -> P D 0 [] (upd H1 D (.lst []))) (hD : ∀ D i ys H', P D i ys H' -> H' D = some (.lst ys) /\ SqL K H' a xs /\ ys.length <= i)
 (hs : ∀ D i y ys H' (zs : St) (N1 : VK) (N0 : Hp -> Prop), xs[i]? = some y -> P D i ys H' -> zs.length = n -> (∀ v H6, H6 D = some (.lst ys) -> P D (i + 1) (ys ++ [v]) (upd H6 D (.lst (ys ++ [v]))) -> N1 v H6) -> (∀ H6, P D (i + 1) ys H6 -> N0 H6) ->
  g y (zs ++ ks.map fun k => (σ[k]?).join) H' fun σ4 H4 => (∃ zs4 : St, zs4.length = n /\ σ4 = zs4 ++ ks.map fun k => (σ[k]?).join) /\ tt σ4 H4 fun b H5 => if b = true then te σ4 H5 N1 else N0 H5)
 (hd : ∀ D ys H', P D xs.length ys H' -> Q (.ref D) H') : CEl (Itl K a) n g ks tt te σ H1 Q := by
 intro D hDn
 refine ⟨fun i m ys H' => m = xs.length - i /\ i <= xs.length /\ P D i ys H', ⟨_, rfl, Nat.zero_le _, h0 D hDn⟩, ?_⟩
 rintro i m ys H' ⟨rfl, hi, p⟩
 obtain ⟨d1, d2, d3⟩ := hD D i ys H' p
 refine ⟨d1, ?_⟩
 rcases Nat.lt_or_ge i xs.length with lt | ge
 ·refine .inr ⟨⟨xs, xs[i], d2, by simp [lt]⟩, ?_⟩
  rintro x H3 ⟨rfl, hx⟩ zs hzs
  exact hs D i x ys _ zs _ _ (hx xs d2) p hzs (fun v H6 h6 p6 => ⟨h6, by omega, _, by omega, rfl, lt, p6⟩) fun H6 p6 => ⟨_, by omega, rfl, lt, p6⟩
 ·obtain rfl : i = xs.length := Nat.le_antisymm hi ge
  exact .inl ⟨⟨xs, d2, Nat.le_refl _⟩, hd D ys H' p⟩
section
variable {X : Cx} {pos : Pos}
end
open Lean Meta Simp
def Cs : List Name := BO ++ [`L2.tDNewT, `L2.rExtT, `L2.tPar3]
def CV : List Name := Cw ++ [`L2.gSortDT, `L2.gRp]
def CI (e : Lean.Expr) : MetaM (Option Lean.Expr) := do
 let .const n us := e.getAppFn | return none
 let fr := EK n || Cs.contains n
 unless fr || CV.contains n do return none
 let some (.defnInfo d) := (<- getEnv).find? n | return none
 let v := d.value.instantiateLevelParams d.levelParams us
 if e.getAppNumArgs < v.getNumHeadLambdas then return none
 let b := v.beta e.getAppArgs
 if fr then return some b
 match <- reduceMatcher? b with
 | .reduced r => return some r
 | .notMatcher => return some b
 | _ => return none
dsimproc_decl Aj (_) := fun e => do
 match <- CI e with
 | some r => return .visit r
 | none => return .continue
end L2
namespace L2
open PySem PyProof.Rows
theorem vg {H : Hp} {a : Addr} {o : HO} (h : H a = some o) : upd H a o = H := by
 funext b
 by_cases e : b = a
 ·subst e; rw [ai, h]
 ·rw [ay e]
def isD : HO -> Bool
 | .dK _ => true
 | .dT _ => true
 | _ => false
def oI : HO -> Nat
 | .dK kvs => kvs.length
 | .dT kvs => kvs.length
 | _ => 0
def yV (H : Hp) (u : HO) (i : Nat) (x v : V) : Prop := match u with
 | .dK kvs => ∃ k, kvs[i]? = some (k, v) /\ x = kV k
 | .dT kvs => ∃ k q, kvs[i]? = some (k, v) /\ x = .ref q /\ H q = some (.tup (k.map kV))
 | _ => False
theorem B3 {P : Program} {w : World} {k : Key} {u : Value} (h : (b_ P w).is k u = true) : RelV (kV k) u := by
 cases k with
 | inl i => obtain ⟨t, z⟩ := Value.isInt_shape h; exact ⟨t, z⟩
 | inr x => obtain ⟨t, z⟩ := Value.isStrOf_shape h; exact ⟨t, z⟩
theorem Dl {α β : Type} {R : α -> β -> Prop} {xs : List α} {ys : List β} (h : Paired R xs ys) : ∀ {i : Nat} {y : β}, ys[i]? = some y -> ∃ x, xs[i]? = some x /\ R x y := by
 induction h with
 | nil => intro i y e; simp at e
 | cons r _ ih =>
  intro i y e
  cases i with
  | zero => cases e; exact ⟨_, rfl, r⟩
  | succ i => exact ih (i := i) (by simpa using e)
section
variable {X : Cx} {pins : List (Addr × Obj)} {σ : St} {H : Hp} {s : Shared} {a : Addr}
theorem yc (I : Inv X pins σ H s) {u : HO} (hu : isD u = true) (x : ObjOk X.prog X.w H s.heap a u) : ∃ (o : Obj) (es : Array DictEntry) (ep : Nat), s.heap.get? a = some o /\ o.ExactDict /\ o.data = .dict es ep /\ (a == sysModules) = false /\ es.size = oI u /\
 ∀ i e, es[i]? = some e -> ∃ x v, yV H u i x v /\ RelV x e.key /\ RelV v e.val := by
 cases u with
 | dK kvs =>
  obtain ⟨z, lo, vs, rel, o, es, ep, ho, ex, hd, hk, hp, hn⟩ := x
  have hl : es.size = vs.length := by rw [<- hp.length]; simp
  refine ⟨o, es, ep, ho, ex, hd, lo, by rw [hl]; exact rel.length.symm, fun i e he => ?_⟩
  have hi : i < vs.length := by rw [<- hl]; exact (Array.getElem?_eq_some_iff.mp he).1
  obtain ⟨p1, p2⟩ := hp.get? (e := e) (k := vs[i].1) (v := vs[i].2) (by rw [Array.getElem?_toList]; exact he) (by simp [hi])
  obtain ⟨⟨k, v⟩, hx, e1, e2⟩ := Dl rel (y := vs[i]) (List.getElem?_eq_getElem hi)
  have e1' : k = vs[i].1 := e1
  refine ⟨kV k, v, ⟨k, hx, rfl⟩, by rw [e1']; exact B3 p1, by rw [p2]; exact e2⟩
 | dT kvs =>
  obtain ⟨z, lo, xs, rel, o, es, ep, ho, ex, hd, he, hn⟩ := x
  have hl : es.size = xs.length := size_of_entries he
  refine ⟨o, es, ep, ho, ex, hd, lo, by rw [hl]; exact (Paired.length rel).symm, fun i e h => ?_⟩
  rw [entry_at he i] at h
  obtain ⟨q, hq, rfl⟩ := Option.map_eq_some_iff.mp h
  obtain ⟨⟨k, v⟩, hx, e1, e2, e3⟩ := Dl rel hq
  exact ⟨.ref q.2.1, v, ⟨k, q.2.1, hx, rfl, e2⟩, rfl, e3⟩
 | _ => cases hu
theorem Inv.freeze (I : Inv X pins σ H s) {u : HO} (hu : isD u = true) (e : Rd H a u) : ∃ (o : Obj) (es : Array DictEntry) (ep : Nat), s.heap.get? a = some o /\ o.ExactDict /\ o.data = .dict es ep /\ (a == sysModules) = false /\ es.size = oI u /\ (H a = some u \/ H a = some (.frz o u)) /\ Inv X pins σ (upd H a (.frz o u)) s := by
 have x := Bt I.hok e
 obtain ⟨o, es, ep, ho, ex, hd, lo, hz, _⟩ := yc I hu x
 rcases e with e | ⟨o', e⟩
 ·refine ⟨o, es, ep, ho, ex, hd, lo, hz, .inl e, ?_⟩
  have no : ∀ b w, H b = some w -> isD w = false -> b ≠ a := fun b w q n z => by rw [z, e] at q; cases q; rw [hu] at n; cases n
  exact I.write (x := a) (e := a) (t' := s.toks) (h' := s.heap) (by rw [e]; cases u <;> first | exact True.intro | cases hu) (.inl rfl) (fun _ _ _ q => q) ⟨o, ho⟩ ⟨ho, x.stay (fun _ _ _ q => q) (fun c z => by rw [ay (no c _ z rfl)]; exact z) fun c xs z => by rw [ay (no c _ z rfl)]; exact z⟩
 ·have h1 := (show ObjOk X.prog X.w H s.heap a (.frz o' u) from I.hok a _ e).1
  rw [ho] at h1; cases h1
  refine ⟨o, es, ep, ho, ex, hd, lo, hz, .inr e, ?_⟩
  rw [vg e]; exact I
theorem Inv.thaw (I : Inv X pins σ H s) {o : Obj} {u : HO} (e : H a = some (.frz o u)) (nf : ∀ o' u', X.H₀ a ≠ some (.frz o' u')) : Inv X pins σ (upd H a u) s := by
 have na : ∀ b, H b = none -> b ≠ a := fun b n z => by rw [z, e] at n; cases n
 have no : ∀ b w, H b = some w -> (∀ o x, w ≠ .frz o x) -> b ≠ a := fun b w q n z => by rw [z, e] at q; cases q; exact n _ _ rfl
 have own : ∀ {d : Addr} c, H c = some (.own d) -> upd H a u c = some (.own d) := fun c z => by rw [ay (no c _ z (by intro _ _ y; cases y))]; exact z
 have tup : ∀ c xs, H c = some (.tup xs) -> upd H a u c = some (.tup xs) := fun c xs z => by rw [ay (no c _ z (by intro _ _ y; cases y))]; exact z
 refine ⟨I.ok, I.os, I.bare, ⟨I.base.keep, I.base.slot, fun b ob q n hx => ?_, I.base.there, fun b xs q => tup b xs (I.base.tups b xs q), fun b ob x q => ?_, fun b ps q => ?_⟩, I.loc, I.cell, ?_, fun x c ec => ?_, fun p hp => ?_, fun b ob q => ?_, I.len⟩
 ·have h := I.base.free b ob q n hx
  rw [ay (na b h)]; exact h
 ·have h := I.base.frzs b ob x q
  by_cases eb : b = a
  ·subst eb; exact absurd q (nf _ _)
  ·rw [ay eb]; exact h
 ·obtain ⟨m, h⟩ := I.base.tbls b ps q
  exact ⟨m, by rw [ay (no b _ h (by intro _ _ z; cases z))]; exact h⟩
 ·rw [ay (na _ I.free)]; exact I.free
 ·have h := I.freeC x c ec
  rw [ay (na _ h)]; exact h
 ·obtain ⟨p1, p2, p3⟩ := I.pin p hp
  exact ⟨p1, by rw [ay (na _ p2)]; exact p2, p3⟩
 ·by_cases eb : b = a
  ·subst eb
   rw [ai] at q; cases q
   exact (show ObjOk X.prog X.w H s.heap b (.frz o u) from I.hok _ _ e).2.stay (fun _ _ _ z => z) own tup
  ·rw [ay eb] at q
   exact (I.hok b ob q).stay (fun _ _ _ z => z) own tup
def Th (H H1 : Hp) (P : Hp -> Prop) : Prop := ∃ a o u, H1 a = some (.frz o u) /\ ((H a = some u /\ isD u = true /\ P (upd H1 a u)) \/ (H a = some (.frz o u) /\ P H1))
theorem Inv.th {H1 : Hp} {s1 : Shared} {σ1 : St} {P : Hp -> Prop} (I : Inv X pins σ H s) (I1 : Inv X pins σ1 H1 s1) (h : Th H H1 P) : ∃ H2, Inv X pins σ1 H2 s1 /\ P H2 := by
 obtain ⟨a, o, u, e1, ⟨e2, hu, q⟩ | ⟨e2, q⟩⟩ := h
 ·exact ⟨_, I1.thaw e1 (fun o' u' z => by rw [I.base.frzs _ _ _ z] at e2; cases e2; cases hu), q⟩
 ·exact ⟨_, I1, q⟩
def Bp (te : TE) : TE := fun σ H Q => te σ H fun v H1 => Th H H1 (Q v)
theorem Cn {e : Expr} {te : TE} (he : PE X e te) : PE X e (Bp te) := by
 intro pins s σ H Q I h
 refine thn (he pins s σ H _ I h) fun u s1 ⟨v, H1, I1, r, q⟩ => ?_
 obtain ⟨H2, I2, q2⟩ := I.th I1 q
 exact ⟨v, H2, I2, r, q2⟩
def Itk (a : Addr) (o : Obj) (u : HO) : It :=
 ⟨fun i H => i < oI u /\ H a = some (.frz o u), fun i H x H' => H' = H /\ ∃ v, yV H u i x v, fun i H => oI u <= i /\ H a = some (.frz o u)⟩
theorem AN (I : Inv X pins σ H s) {o : Obj} {es : Array DictEntry} {ep : Nat} {u : HO} (hu : isD u = true) (hd : o.data = .dict es ep) (e : H a = some (.frz o u)) : s.heap.get? a = some o /\ es.size = oI u /\ ∀ i e, es[i]? = some e -> ∃ x v, yV H u i x v /\ RelV x e.key /\ RelV v e.val := by
 obtain ⟨ho, x⟩ := (show ObjOk X.prog X.w H s.heap a (.frz o u) from I.hok a _ e)
 obtain ⟨o', es', ep', ho', ex, hd', lo, hz, h⟩ := yc I hu x
 rw [ho] at ho'; cases ho'
 rw [hd] at hd'
 injection hd' with h2 h3
 subst h2
 exact ⟨ho, hz, h⟩
theorem y_ {P : Program} {w : World} {K : W.Frag} {tg : Expr} (a it : Addr) (o : Obj) (es : Array DictEntry) (ep : Nat) (u : HO) (hu : isD u = true) (hd : o.data = .dict es ep) : xH P w K tg (Itk a o u) [it] it (fun i h => h.IsKeyIter it a i es.size ep) where
 mem := by simp
 obj := fun i h st b hb => by
  have e : b = it := by simpa using hb
  subst e
  obtain ⟨o, e, c, d⟩ := st
  exact ⟨o, e, fun v z => by rw [d] at z; cases z⟩
 keep := fun i h h' st k => st.at fun o e => k it (by simp) o e
 item := by
  intro X hP hw hK hc i pins s σ H E I hf st hg
  subst hP hw hK
  obtain ⟨hi, hq⟩ := hg
  obtain ⟨ho, hz, hen⟩ := AN I hu hd hq
  obtain ⟨f0, f1, f2, f3, f4, f5⟩ := hf it (by simp)
  have hx : es[i]? = some es[i] := by simp [show i < es.size by omega]
  obtain ⟨x, v, en, rx, rv⟩ := hen i _ hx
  refine B2 st ho hd hx fun h' st' sb => ?_
  have I1 : Inv X pins σ H { s with heap := h' } := I.turned (t' := s.toks) (fun b o hb e => (sb.2 b hb).trans e) f0 f1 f3 f4 f5
  obtain ⟨oi, e, c, d⟩ := id st'
  exact ⟨_, rfl, pG (s := { s with heap := h' }) e c d (by decide) ⟨x, H, I1, rx, ⟨rfl, v, en⟩, st', fun b hb => (hf b hb).1⟩⟩
 done := by
  intro X hP hw hK hc i pins s σ H E I hf st hg
  subst hP hw hK
  obtain ⟨hi, hq⟩ := hg
  obtain ⟨ho, hz, hen⟩ := AN I hu hd hq
  obtain ⟨f0, f1, f2, f3, f4, f5⟩ := hf it (by simp)
  exact D7 (I.ok.hd hc) st ho hd (by omega) fun h' eb => ⟨rfl, I.turned (t' := s.toks) (fun b o hb e => eb b o hb e) f0 f1 f3 f4 f5⟩
 self := fun _ _ _ _ _ st h => wpAny_pyIter_keyiter st h
def AC (td : TE) : TI := fun σ H R => td σ H fun x H1 => ∃ b u, x = .ref b /\ isD u = true /\ Rd H1 b u /\ ∀ o, (H1 b = some u \/ H1 b = some (.frz o u)) -> R (Itk b o u) (upd H1 b (.frz o u))
theorem CB {tg l : Expr} {td : TE} (hl : PE X l td) : PI X tg l (AC td) := by
 intro pins s σ H R I h
 refine thn (hl pins s σ H _ I h) fun v s1 ⟨x, H1, I1, rx, b, u, ex, hu, hr, q⟩ => ?_
 subst ex
 cases (show v = Value.ref b from rx)
 obtain ⟨o, es, ep, ho, ex, hd, lo, hz, hor, I2⟩ := I1.freeze hu hr
 refine BU lo ho ex hd ?_
 refine ⟨s1.heap.objs.size, [s1.heap.objs.size], _, Itk b o u, _, rfl, I2.kept (t' := s1.toks) (fun c ob e => Heap.get?_push_of_some _ e), y_ b _ o es ep u hu hd, ⟨_, Heap.get?_push_size _ rfl, rfl, rfl⟩, fun c hc => ?_, q o hor⟩
 rw [List.mem_singleton.mp hc]
 exact I2.fpOk (Nat.le_refl _) (I2.hok.fresh (Nat.le_refl _))
end
theorem Fo {td : TE} {n : Nat} {g : TG} {ks : List Nat} {tt : TT} {te : TE} {σ : St} {H : Hp} {Q : VK} (h : td σ H fun x H1 => ∃ b u, x = .ref b /\ isD u = true /\ Rd H1 b u /\ ∀ o, (H1 b = some u \/ H1 b = some (.frz o u)) -> CEl (Itk b o u) n g ks tt te σ (upd H1 b (.frz o u)) fun v H2 => Th H H2 (Q v)) : Bp (ii (AC td) n g ks tt te) σ H Q := h
theorem Gh {n : Nat} {g : TG} {ks : List Nat} {tt : TT} {te : TE} {σ : St} {H1 : Hp} {Q : VK} (b : Addr) (o : Obj) (u : HO) (P : Addr -> Nat -> List V -> Hp -> Prop) (hz : oI u < sizeLine)
 (h0 : ∀ D, H1 D = none -> P D 0 [] (upd H1 D (.lst []))) (hD : ∀ D i ys H', P D i ys H' -> H' D = some (.lst ys) /\ H' b = some (.frz o u) /\ ys.length <= i)
 (hs : ∀ D i y v ys H' (zs : St) (N1 : VK) (N0 : Hp -> Prop), i < oI u -> yV H' u i y v -> P D i ys H' -> zs.length = n -> (∀ v H6, H6 D = some (.lst ys) -> P D (i + 1) (ys ++ [v]) (upd H6 D (.lst (ys ++ [v]))) -> N1 v H6) -> (∀ H6, P D (i + 1) ys H6 -> N0 H6) ->
  g y (zs ++ ks.map fun k => (σ[k]?).join) H' fun σ4 H4 => (∃ zs4 : St, zs4.length = n /\ σ4 = zs4 ++ ks.map fun k => (σ[k]?).join) /\ tt σ4 H4 fun b H5 => if b = true then te σ4 H5 N1 else N0 H5)
 (hd : ∀ D ys H', P D (oI u) ys H' -> Q (.ref D) H') : CEl (Itk b o u) n g ks tt te σ H1 Q := by
 intro D hDn
 refine ⟨fun i m ys H' => m = oI u - i /\ i <= oI u /\ P D i ys H', ⟨_, rfl, Nat.zero_le _, h0 D hDn⟩, ?_⟩
 rintro i m ys H' ⟨rfl, hi, p⟩
 obtain ⟨d1, d2, d3⟩ := hD D i ys H' p
 refine ⟨d1, ?_⟩
 rcases Nat.lt_or_ge i (oI u) with lt | ge
 ·refine .inr ⟨⟨lt, d2⟩, ?_⟩
  rintro x H3 ⟨rfl, v, hx⟩ zs hzs
  exact hs D i x v ys _ zs _ _ lt hx p hzs (fun v H6 h6 p6 => ⟨h6, by omega, _, by omega, rfl, lt, p6⟩) fun H6 p6 => ⟨_, by omega, rfl, lt, p6⟩
 ·obtain rfl : i = oI u := Nat.le_antisymm hi ge
  exact .inl ⟨⟨Nat.le_refl _, d2⟩, hd D ys H' p⟩
theorem cmK {td : TE} {ks : List Nat} {tt : TT} {te : TE} {σ : St} {H : Hp} {Q : VK} (b : Addr) (kvs : List (Key × V)) (p : V -> Bool) (f : V -> V) (hl : ∀ R : VK, R (.ref b) H -> td σ H R) (hr : Rd H b (.dK kvs)) (hz : kvs.length < sizeLine)
 (hp : ∀ x ∈ kvs.map (fun e => kV e.1), ∀ D ys o (R : Bool -> Hp -> Prop), H D = none -> D ≠ b -> R (p x) (upd (upd H b (.frz o (.dK kvs))) D (.lst ys)) -> tt (some x :: ks.map fun k => (σ[k]?).join) (upd (upd H b (.frz o (.dK kvs))) D (.lst ys)) R)
 (hf : ∀ x ∈ kvs.map (fun e => kV e.1), p x = true -> ∀ D ys o (R : VK), H D = none -> D ≠ b -> R (f x) (upd (upd H b (.frz o (.dK kvs))) D (.lst ys)) -> te (some x :: ks.map fun k => (σ[k]?).join) (upd (upd H b (.frz o (.dK kvs))) D (.lst ys)) R)
 (q : ∀ D, H D = none -> Q (.ref D) (upd H D (.lst (((kvs.map fun e => kV e.1).filter p).map f)))) : Bp (ii (AC td) 1 (h7 0) ks tt te) σ H Q := by
 have hb : ∃ u, H b = some u := by rcases hr with e | ⟨o, e⟩ <;> exact ⟨_, e⟩
 obtain ⟨u, hb⟩ := hb
 refine Fo (hl _ ⟨b, .dK kvs, rfl, rfl, hr, fun o hor => Gh b o (.dK kvs) (fun D i ys G => G = upd (upd H b (.frz o (.dK kvs))) D (.lst ys) /\ H D = none /\ ys = (((kvs.map fun e => kV e.1).take i).filter p).map f) hz (fun D hD => ⟨rfl, ?_, by simp⟩) ?_ ?_ ?_⟩)
 ·have nb : D ≠ b := fun z => by rw [z, ai] at hD; cases hD
  rwa [ay nb] at hD
 ·rintro D i ys G ⟨rfl, hD, rfl⟩
  have nb : b ≠ D := au hb hD
  refine ⟨ai, (ay nb).trans ai, ?_⟩
  rw [List.length_map]
  exact Nat.le_trans (List.length_filter_le _ _) (by rw [List.length_take]; omega)
 ·rintro D i y vv ys G zs N1 N0 hi ⟨kk, hk, rfl⟩ ⟨rfl, hD, rfl⟩ hzs n1 n0
  have hy : (kvs.map fun e => kV e.1)[i]? = some (kV kk) := by rw [List.getElem?_map, hk]; rfl
  generalize kV kk = y at hy
  obtain ⟨z, rfl⟩ := ex1 hzs
  have nb : D ≠ b := Ne.symm (au hb hD)
  have my := List.mem_of_getElem? hy
  have et : (kvs.map fun e => kV e.1).take (i + 1) = (kvs.map fun e => kV e.1).take i ++ [y] := by rw [List.take_succ, hy]; rfl
  rw [et, List.filter_append] at n1 n0
  refine ⟨⟨[some y], rfl, rfl⟩, hp y my D _ o _ hD nb ?_⟩
  cases py : p y with
  | true =>
   rw [if_pos rfl]
   refine hf y my py D _ o _ hD nb (n1 _ _ ai ⟨lJ, hD, ?_⟩)
   rw [List.filter_cons_of_pos py, List.map_append]; rfl
  | false =>
   rw [if_neg (by decide)]
   refine n0 _ ⟨rfl, hD, ?_⟩
   rw [List.filter_cons_of_neg (by rw [py]; decide), List.filter_nil, List.append_nil]
 ·rintro D ys G ⟨rfl, hD, rfl⟩
  rw [show oI (.dK kvs) = kvs.length from rfl, List.take_of_length_le (by rw [List.length_map]; exact Nat.le_refl _)]
  have nb : b ≠ D := au hb hD
  have q1 := q D hD
  refine ⟨b, o, .dK kvs, (ay nb).trans ai, ?_⟩
  have e1 : ∀ w z, upd (upd (upd H b w) D z) b u = upd H D z := fun w z => by
   funext c
   by_cases h1 : c = b
   ·subst h1; rw [ai, ay nb, hb]
   ·rw [ay h1]
    by_cases h2 : c = D
    ·subst h2; rw [ai, ai]
    ·rw [ay h2, ay h1, ay h2]
  rcases hor with e | e
  ·refine .inl ⟨e, rfl, ?_⟩
   rw [hb] at e; cases e
   rw [e1]; exact q1
  ·refine .inr ⟨e, ?_⟩
   rw [vg e]; exact q1
section
variable {X : Cx} {pos : Pos}
def Ak (K : W.Frag) (n : Nat) (t : TGs) : TG := fun v σ H Q => ∃ a xs, v = .ref a /\ SqL K H a xs /\ xs.length = n /\ t xs σ H Q
theorem BM (K : W.Frag) {es : List Expr} {k : Nat} {t : TGs} {n : Nat} (hc : X.calm = true) (h : PGs X es t) (hK : X.K = K := by rfl)
 (hn : (assignEach es X.env).length = n := by rfl) (hst : (assignEach es X.env).findIdx? (·.1) = none := by rfl) : PG X (.Tuple es k pos) (Ak K n t) := by
 subst hK
 intro pins s σ H v u Q I r hw
 obtain ⟨a, xs, e1, hq, hl, hw⟩ := hw
 subst e1
 cases r
 obtain ⟨its, rv, pl, hz⟩ := I.list hq
 have hl2 := rv.length
 rw [PyProof.Rows.assign_Tuple]
 refine wpAny_bind (wpAny_standAt ?_)
 have hs : (assignEach es X.env).length = its.toArray.size := by rw [hn, List.size_toArray]; omega
 unfold unpack
 rw [hs, hst]
 refine wpAny_bind (wpAny_holding (PySem.W.kun_itemsOf (I.ok.hd hc) pl.isList fun h' hx => ?_))
 exact h pins _ σ H xs _ Q (I.kept (t' := s.toks) fun b o e => hx b o (Nat.ne_of_lt (Heap.lt_size e)) e) (by simpa using rv) hw
end
section
variable {X : Cx}
def zq : Value -> Bool
 | .bool b => b
 | _ => false
def FC (K : W.Frag) : V -> List V -> Hp -> VK -> Prop := fun x vs H Q => ∃ (p : Addr) (bs : List Bool), x = .ref p /\ vs = [.bl true] /\ SqL K H p (bs.map V.bl) /\ Q (.int (bs.countP id : Nat)) H
theorem qS {A : Around} {s : Shared} {bs : List Bool} {its : List Value} (r : Vals (bs.map V.bl) its) : ∀ y, y ∈ its.toArray -> SeqAt.EqAt A s y (.bool true) (zq y) := fun y hy => by
 obtain ⟨j, hj⟩ := List.getElem?_of_mem (by simpa using hy)
 obtain ⟨b, _, rfl⟩ := (ra r).get j y hj
 have := SeqAt.EqAt.bool_bool (A := A) (s := s) b true
 rwa [show (b == true) = zq (.bool b) by cases b <;> rfl] at this
theorem vR : ∀ {bs : List Bool} {its : List Value}, Vals (bs.map V.bl) its -> its.countP zq = bs.countP id
 | [], _, .nil => rfl
 | b :: r, _, .cons e t => by
  cases (show _ = Value.bool b from e)
  rw [List.countP_cons, List.countP_cons, vR t]; rfl
theorem Da (K : W.Frag) (hK : X.K = K := by rfl) : MtM X "list.count" (FC K) := by
 subst hK
 intro pins s σ H x vs v us Q I rx rv h
 obtain ⟨p, bs, rfl, rfl, hq, q⟩ := h
 cases rx
 obtain ⟨u, rfl, ru⟩ := rv.one
 cases (show u = Value.bool true from ru)
 obtain ⟨its, r, pl, hz⟩ := I.list hq
 obtain ⟨⟨oc, od, ot, os⟩, e, c, n, d⟩ := pl.isList
 simp only at c d
 subst c; subst d
 refine call_meets F.slot_list_count ⟨_, e, rfl⟩ F.entry_list_count (F.args_list_count_2 _ _) (SeqAt.list_countAt p its.toArray n od os (.bool true) zq) ⟨e, qS r, ?_⟩
 exact ⟨.int _, H, I.tok _, ⟨_, by rw [List.toList_toArray, vR r]⟩, q⟩
def FV (K : W.Frag) : V -> List V -> Hp -> VK -> Prop := fun x vs H Q => ∃ (p : Addr) (bs : List Bool) (j : Nat), x = .ref p /\ vs = [.bl true] /\ SqL K H p (bs.map V.bl) /\ bs[j]? = some true /\ (∀ i, i < j -> bs[i]? = some false) /\ Q (.int j) H
theorem tY : ∀ {bs : List Bool} {its : List Value}, Vals (bs.map V.bl) its -> ∀ {j : Nat} {b : Bool}, bs[j]? = some b -> ∃ h : j < its.length, zq its[j] = b
 | [], _, .nil, j, b, h => by simp at h
 | c :: r, _, .cons e t, j, b, h => by
  cases (show _ = Value.bool c from e)
  cases j with
  | zero => cases h; exact ⟨by simp, rfl⟩
  | succ j =>
   obtain ⟨h1, h2⟩ := tY t (j := j) (by simpa using h)
   exact ⟨by simp; omega, by simpa using h2⟩
theorem B9 (K : W.Frag) (hK : X.K = K := by rfl) : MtM X "list.index" (FV K) := by
 subst hK
 intro pins s σ H x vs v us Q I rx rv h
 obtain ⟨p, bs, j, rfl, rfl, hq, hj, hi, q⟩ := h
 cases rx
 obtain ⟨u, rfl, ru⟩ := rv.one
 cases (show u = Value.bool true from ru)
 obtain ⟨its, r, pl, hz⟩ := I.list hq
 obtain ⟨⟨oc, od, ot, os⟩, e, c, n, d⟩ := pl.isList
 simp only at c d
 subst c; subst d
 obtain ⟨jl, jt⟩ := tY r hj
 have hl := r.length
 refine call_meets F.slot_list_index ⟨_, e, rfl⟩ F.entry_list_index (F.args_list_index_2 _ _) (SeqAt.list_indexAt p its.toArray n od os (.bool true) zq j (by simpa using jl) (by have : sizeLine < 2 ^ 62 := (by rw [sizeLine_eq]; decide); omega) (by simpa using jt) fun m hm lt => ?_) ⟨e, qS r, ?_⟩
 ·obtain ⟨_, h2⟩ := tY r (hi m lt)
  simpa using h2
 ·exact ⟨.int _, H, I.tok _, ⟨_, rfl⟩, q⟩
end
end L2
namespace L2
open PySem
end L2
namespace L2
open PySem PySem.Spec PyProof.Rows
theorem zy (ls : List (List Nat)) : (ls.map T).all cC = true := by
 rw [List.all_eq_true]; intro v m
 obtain ⟨l, _, rfl⟩ := List.mem_map.mp m; rfl
section
variable {X : Cx}
end
end L2
namespace L2
open PySem PyProof.Rows
section
variable {prog : Program} {w : World} {A : Around} {E : Value -> Shared -> Prop} {s : Shared} {it d : Addr} {i ep : Nat} {od : Obj} {es : Array DictEntry}
end
section
variable {X : Cx} {pins : List (Addr × Obj)} {σ : St} {H : Hp} {s : Shared}
end
end L2
namespace L2
open PySem PyProof.Rows Builtin Builtin.Str
def stN (c : Nat) (l : List Nat) : List Nat := ((l.dropWhile fun d => [c].contains d).reverse.dropWhile fun d => [c].contains d).reverse
theorem Ac (p : Nat -> Bool) (m : List Nat) : m.take (m.length - (m.reverse.takeWhile p).length) = (m.reverse.dropWhile p).reverse := by
 have e : m = (m.reverse.dropWhile p).reverse ++ (m.reverse.takeWhile p).reverse := by
  rw [<- List.reverse_append, List.takeWhile_append_dropWhile, List.reverse_reverse]
 have l : m.length = (m.reverse.dropWhile p).length + (m.reverse.takeWhile p).length := by
  have := congrArg List.length e
  rwa [List.length_append, List.length_reverse, List.length_reverse] at this
 rw [l, Nat.add_sub_cancel]
 have q : ∀ a b : List Nat, m = a.reverse ++ b -> m.take a.length = a.reverse := fun a b z => by rw [z, List.take_left' (List.length_reverse ..)]
 exact q _ _ e
theorem wm (p : Nat -> Bool) (l : List Nat) : l.drop (l.takeWhile p).length = l.dropWhile p := by
 induction l with
 | nil => rfl
 | cons a r ih =>
  by_cases h : p a = true
  ·rw [List.takeWhile_cons_of_pos h, List.dropWhile_cons_of_pos h, List.length_cons, List.drop_succ_cons]; exact ih
  ·rw [List.takeWhile_cons_of_neg h, List.dropWhile_cons_of_neg h]; rfl
theorem zW (c : Nat) (l : List Nat) : Txt.stripChars ⟨⟨l⟩⟩ ⟨⟨[c]⟩⟩ = ⟨⟨stN c l⟩⟩ := by
 show Txt.stripBy _ true true _ = _
 rw [PyProof.Rows.stripBy_eq]
 unfold strSub stripLo stripHi
 rw [if_pos rfl, if_pos rfl]
 have e : (fun d => (#[c] : Array Nat).contains d) = fun d => [c].contains d := by funext d; simp
 have e2 : (Array.contains (#[c] : Array Nat)) = fun d => [c].contains d := e
 show (⟨Array.extract ⟨l⟩ _ _⟩ : Str) = _
 rw [e2]
 congr 1
 apply Array.ext'
 rw [Array.toList_extract]
 show List.extract l _ _ = stN c l
 unfold stN
 rw [List.extract_eq_drop_take, wm, <- Ac]
 congr 1
 have hl : (⟨⟨l⟩⟩ : Str).length = l.length := rfl
 rw [hl]
 show l.length - (List.takeWhile (fun d => [c].contains d) (List.dropWhile (fun d => [c].contains d) l).reverse).length - (List.takeWhile (fun d => [c].contains d) l).length = _
 have := congrArg List.length (wm (fun d => [c].contains d) l)
 rw [List.length_drop] at this
 omega
section
variable {X : Cx}
def uH : V -> List V -> Hp -> VK -> Prop
 | .str x, [.str y], H, Q => ∃ c, cs y = [c] /\ (cs x).length <= sizeLine /\ Q (T (stN c (cs x))) H
 | _, _, _, _ => False
theorem A_ : MtR X "str.strip" uH := by
 intro pins s σ H x xs v us Q I rx rs h
 unfold uH at h
 split at h
 ·rename_i x y
  obtain ⟨c, hc, h2, q⟩ := h
  obtain ⟨t, rfl⟩ := rx
  obtain ⟨u, rfl, t', rfl⟩ := gi rs
  have hy := A9 hc
  subst hy
  obtain ⟨⟨l⟩⟩ := x
  refine SC.stripChars (fun t' k => ⟨.str _, H, I.kept (t' := k) (fun b o e => e), ⟨_, rfl⟩, ?_⟩) h2
  have := zW c l
  rw [show (Txt.stripChars { cps := { toList := l } } { cps := #[c] }) = ⟨⟨stN c l⟩⟩ from this]
  exact q
 ·exact h.elim
end
end L2
namespace L2
open PySem PySem.Spec PyProof.Rows
def Tp (H : Hp) (xs : List V) (Q : VK) : Prop := ∀ p H', H' p = some (.tup xs) -> Same H H' -> (NoT H -> NoT H') -> Q (.ref p) H'
def Dq : R2
 | .ref x, .ref y, H, Q => ∃ xs ys, H x = some (.tup xs) /\ H y = some (.tup ys) /\ xs.length + ys.length <= sizeLine /\ Tp H (xs ++ ys) Q
 | _, _, _, _ => False
theorem Tp.new {H : Hp} {xs : List V} {Q : VK} (h : Tp H xs Q) {p : Addr} (hp : H p = none) : Q (.ref p) (upd H p (.tup xs)) := h p _ ai (ak _ hp) fun n => aA n rfl
theorem Tp.old {H : Hp} {xs : List V} {Q : VK} (h : Tp H xs Q) {p : Addr} (hp : H p = some (.tup xs)) : Q (.ref p) H := h p _ hp (fun _ _ e => e) id
section
variable {prog : Program} {w : World} {A : Around} {E : Value -> Shared -> Prop} {s : Shared}
theorem BN {t b : Addr} {ws : List Value} {Q : Value -> Shared -> Prop} (ht : IsTup s.heap t (#[] : Array Value)) (hb : IsTup s.heap b ws.toArray) (h : Q (.ref b) s) : wpAny (model prog w) A (binaryOp .Add (.ref t) (.ref b)) Q E s := by
 obtain ⟨⟨cls, dd, data, sl⟩, ho, hc, n, hd⟩ := id ht
 obtain ⟨⟨cls2, dd2, data2, sl2⟩, ho2, hc2, n2, hd2⟩ := id hb
 simp only at hc hd hc2 hd2
 subst hc hd hc2 hd2
 exact concat_meets ⟨_, ho, rfl⟩ ⟨_, ho2, rfl⟩ noFill_tuple_add seq_tuple_add PySem.F.slot_tuple_add PySem.F.entry_tuple_add (PySem.F.args_tuple_add_2 _ _)
  (tuple_addW0 t b #[] ws.toArray n n2 dd dd2 sl sl2 rfl) ⟨ho, ho2, h⟩
end
section
variable {X : Cx}
theorem yK : OpR X (binaryOp .Add) Dq := by
 intro pins s σ H x y v u Q I rx ry h
 unfold Dq at h; split at h
 ·rename_i x y
  obtain ⟨xs, ys, h1, h2, h3, q⟩ := h
  by_cases hx : xs = []
  ·subst hx
   cases rx; cases ry
   obtain ⟨its, r1, p1, _⟩ := I.tuple (SqT.of h1)
   obtain ⟨its2, r2, p2, _⟩ := I.tuple (SqT.of h2)
   cases r1
   exact BN p1 p2 ⟨.ref y, H, I, rfl, q.old h2⟩
  ·exact CC pins s σ H _ _ v u Q I rx ry ⟨_, _, xs, ys, rfl, rfl, SqT.of h1, SqT.of h2, hx, h3, fun z => by subst z; rw [List.append_nil] at q; exact q.old h1, fun _ p hp => q.new hp⟩
 ·exact h.elim
end
end L2
set_option maxHeartbeats 4000000
namespace K3
def S (a : Int) : Int :=
 if a <= 0 then 0 else if a = 1 then 31 else if a = 2 then 59 else if a = 3 then 90 else if a = 4 then 120
 else if a = 5 then 151 else if a = 6 then 181 else if a = 7 then 212 else if a = 8 then 243 else if a = 9 then 273
 else if a = 10 then 304 else 334
def LD (y : Int) : Int := (y + 3) / 4 - (y + 99) / 100 + (y + 399) / 400
def FD (m : Int) : Int := 365 * (m / 12) + (if m % 12 > 1 then LD (m / 12 + 1) else LD (m / 12)) + S (m % 12)
def LG (y m : Int) : Int :=
 if m = 2 then (if (y % 4 = 0 /\ y % 100 ≠ 0) \/ y % 400 = 0 then 29 else 28)
 else if m = 4 \/ m = 6 \/ m = 9 \/ m = 11 then 30 else 31
theorem yI {m y a : Int} (h : m = 12 * y + a) (h0 : 0 <= a) (h1 : a < 12) :
 FD m = 365 * y + (if a > 1 then LD (y + 1) else LD y) + S a := by
 have e1 : m / 12 = y := by omega
 have e2 : m % 12 = a := by omega
 unfold FD; rw [e1, e2]
theorem q4 (y : Int) : (y + 4) / 4 = (y + 3) / 4 + if y % 4 = 0 then 1 else 0 := by split <;> omega
theorem Gv (y : Int) : (y + 100) / 100 = (y + 99) / 100 + if y % 100 = 0 then 1 else 0 := by split <;> omega
theorem Gx (y : Int) : (y + 400) / 400 = (y + 399) / 400 + if y % 400 = 0 then 1 else 0 := by split <;> omega
theorem B1 (y : Int) : LD (y + 1) = LD y + (if (y % 4 = 0 /\ y % 100 ≠ 0) \/ y % 400 = 0 then 1 else 0) := by
 unfold LD
 rw [Int.add_assoc, Int.add_assoc, Int.add_assoc]
 show (y + 4) / 4 - (y + 100) / 100 + (y + 400) / 400 = _
 rw [q4, Gv, Gx]
 generalize (y + 3) / 4 = A
 generalize (y + 99) / 100 = B
 generalize (y + 399) / 400 = C
 by_cases a : y % 400 = 0
 ·have b : y % 100 = 0 := by omega
  have c : y % 4 = 0 := by clear b; omega
  rw [if_pos a, if_pos b, if_pos c, if_pos (.inr a)]
  clear a b c; omega
 ·by_cases b : y % 100 = 0
  ·have c : y % 4 = 0 := by clear a; omega
   rw [if_neg a, if_pos b, if_pos c, if_neg (fun z => z.elim (fun w => w.2 b) a)]
   clear a b c; omega
  ·by_cases c : y % 4 = 0
   ·rw [if_neg a, if_neg b, if_pos c, if_pos (.inl ⟨c, b⟩)]
    clear a b c; omega
   ·rw [if_neg a, if_neg b, if_neg c, if_neg (fun z => z.elim (fun w => c w.1) a)]
    clear a b c; omega
theorem Et : ∀ a : Nat, a < 11 -> a ≠ 1 -> S (a + 1) = S a + LG 1 (1 + a) := by decide
theorem DD (y z m : Int) (h : m ≠ 2) : LG y m = LG z m := by unfold LG; rw [if_neg h, if_neg h]
theorem DS (y : Int) : LG (2000 + y) 2 = 28 + (LD (y + 1) - LD y) := by
 have h : (((2000 + y) % 4 = 0 /\ (2000 + y) % 100 ≠ 0) \/ (2000 + y) % 400 = 0) ↔ ((y % 4 = 0 /\ y % 100 ≠ 0) \/ y % 400 = 0) := by
  have e (k : Int) (d : 2000 = k * (2000 / k)) : (2000 + y) % k = y % k := by rw [Int.add_comm, d, Int.add_mul_emod_self_left]
  rw [e 4 rfl, e 100 rfl, e 400 rfl]
 rw [B1, LG, if_pos rfl]
 by_cases c : (y % 4 = 0 /\ y % 100 ≠ 0) \/ y % 400 = 0
 ·rw [if_pos c, if_pos (h.mpr c)]; omega
 ·rw [if_neg c, if_neg (fun q => c (h.mp q))]; omega
theorem uJ (m : Int) : FD (m + 1) = FD m + LG (2000 + m / 12) (1 + m % 12) := by
 have b0 : 0 <= m % 12 := Int.emod_nonneg _ (by decide)
 have b1 : m % 12 < 12 := Int.emod_lt_of_pos _ (by decide)
 have e : m = 12 * (m / 12) + m % 12 := (Int.mul_ediv_add_emod m 12).symm
 have a1 := yI e b0 b1
 generalize m / 12 = y at *
 generalize m % 12 = z at *
 obtain ⟨a, rfl⟩ := Int.eq_ofNat_of_zero_le b0
 by_cases c : a = 11
 ·subst c
  rw [a1, yI (m := m + 1) (y := y + 1) (a := 0) (by omega) (by decide) (by decide)]
  show _ + LD (y + 1) + 0 = _ + LD (y + 1) + 334 + 31
  omega
 ·have a2 := yI (m := m + 1) (y := y) (a := a + 1) (by omega) (by omega) (by omega)
  by_cases c1 : a = 1
  ·subst c1
   rw [a1, a2]
   show _ + LD (y + 1) + 59 = _ + LD y + 31 + LG (2000 + y) 2
   rw [DS]; omega
  ·have s := Et a (by omega) c1
   rw [a1, a2, DD _ 1 _ (by omega), s]
   by_cases c2 : a = 0
   ·subst c2; exact (Int.add_assoc _ _ _).symm
   ·rw [if_pos (by omega), if_pos (by omega)]; omega
theorem Ah (y m : Int) : 28 <= LG y m /\ LG y m <= 31 := by
 unfold LG; repeat' split
 all_goals omega
theorem Fu (m : Int) : FD m + 28 <= FD (m + 1) /\ FD (m + 1) <= FD m + 31 := by
 have h := uJ m
 have g := Ah (2000 + m / 12) (1 + m % 12)
 omega
theorem wc (m : Int) (k : Nat) : FD m + 28 * k <= FD (m + k) := by
 induction k with
 | zero => simp
 | succ k ih =>
  have h := Fu (m + k)
  have e : m + ((k + 1 : Nat) : Int) = m + k + 1 := by omega
  rw [e]; omega
theorem m8 {m n : Int} (h : m <= n) : FD m + 28 * (n - m) <= FD n := by
 have g := wc m (n - m).toNat
 have e : m + ((n - m).toNat : Int) = n := by omega
 rw [e] at g; omega
theorem DJ : FD 0 = 0 := by decide
theorem xO : FD 4800 = 146097 := by decide
open Classical in
noncomputable def MO (d : Int) : Int := if h : ∃ m, FD m <= d /\ d < FD (m + 1) then Classical.choose h else 0
theorem Fs {m d : Int} (h1 : FD m <= d) (h2 : d < FD (m + 1)) : m = MO d := by
 have h : ∃ m, FD m <= d /\ d < FD (m + 1) := ⟨m, h1, h2⟩
 have g := Classical.choose_spec h
 unfold MO
 rw [dif_pos h]
 generalize Classical.choose h = n at g
 obtain ⟨g1, g2⟩ := g
 by_cases c : m + 1 <= n
 ·have := m8 c; omega
 ·by_cases c2 : n + 1 <= m
  ·have := m8 c2; omega
  ·omega
theorem wa {m d : Int} (h1 : FD m <= d) (h2 : d < FD (m + 1)) : MO d = m := (Fs h1 h2).symm
theorem Dc {m : Int} (h0 : 0 <= m) : 0 <= FD m := by
 have := m8 h0
 rw [DJ] at this; omega
theorem Di {m : Int} (h1 : m <= 4799) : FD (m + 1) <= 146097 := by
 have := m8 (show m + 1 <= 4800 by omega)
 rw [xO] at this; omega
theorem FZ {d : Int} (h0 : 0 <= d) (h1 : d <= 146096) : 0 <= MO d /\ MO d <= 4799 /\ FD (MO d) <= d /\ d < FD (MO d + 1) := by
 have ex : ∀ (n : Nat), FD n <= d \/ ∃ k : Nat, k < n /\ FD k <= d /\ d < FD (k + 1) := by
  intro n
  induction n with
  | zero => left; show FD 0 <= d; rw [DJ]; exact h0
  | succ n ih =>
   rcases ih with h | ⟨k, hk, h⟩
   ·by_cases c : FD ((n : Int) + 1) <= d
    ·left; exact c
    ·right; exact ⟨n, by omega, h, by omega⟩
   ·right; exact ⟨k, by omega, h⟩
 rcases ex 4800 with h | ⟨k, hk, h2, h3⟩
 ·have e : FD ((4800 : Nat) : Int) = 146097 := xO
  rw [e] at h; omega
 ·have e := wa h2 h3
  rw [e]; exact ⟨by omega, by omega, h2, h3⟩
noncomputable def nR (d n : Int) : Int := if FD (MO d + n + 1) - 1 < FD (MO d + n) + (d - FD (MO d)) then FD (MO d + n + 1) - 1 else FD (MO d + n) + (d - FD (MO d))
theorem BR {d n m : Int} (hm : MO d = m) (h1 : FD m <= d) (h2 : 0 <= m + n) (h3 : m + n <= 4799) :
 0 <= nR d n /\ nR d n <= 146096 /\ MO (nR d n) = m + n /\ nR d n - FD (m + n) + 1 = (if LG (2000 + (m + n) / 12) (1 + (m + n) % 12) < d - FD m + 1 then LG (2000 + (m + n) / 12) (1 + (m + n) % 12) else d - FD m + 1) := by
 have hs := uJ (m + n)
 have hl := Ah (2000 + (m + n) / 12) (1 + (m + n) % 12)
 have a0 := Dc h2
 have a1 := Di h3
 unfold nR
 rw [hm]
 have hM : MO (if FD (m + n + 1) - 1 < FD (m + n) + (d - FD m) then FD (m + n + 1) - 1 else FD (m + n) + (d - FD m)) = m + n := by
  apply wa <;> (split <;> omega)
 refine ⟨?_, ?_, hM, ?_⟩
 ·split <;> omega
 ·split <;> omega
 ·split <;> split <;> omega
end K3
namespace K3
def lg (m : Int) : Int := LG (2000 + m / 12) (1 + m % 12)
theorem Df (m : Int) : 28 <= lg m /\ lg m <= 31 := Ah _ _
theorem yr (m : Int) : FD (m + 1) = FD m + lg m := uJ m
def dy (m pl : Int) : Int := FD m + (if lg m < pl then lg m else pl) - 1
theorem Ai {m pl : Int} (h : 1 <= pl) : FD m <= dy m pl /\ dy m pl < FD (m + 1) := by
 have := Df m
 rw [yr]
 unfold dy
 split <;> omega
theorem Fx {m m' pl : Int} (h : 1 <= pl) (lt : m < m') : dy m pl < dy m' pl := by
 have a := (Ai (m := m) h).2
 have b := (Ai (m := m') h).1
 have c := m8 (show m + 1 <= m' by omega)
 omega
theorem Cr {m pl n : Int} (p0 : 1 <= pl) (p1 : pl <= lg m) (h2 : 0 <= m + n) (h3 : m + n <= 4799) : nR (FD m + pl - 1) n = dy (m + n) pl := by
 have hm : MO (FD m + pl - 1) = m := wa (by omega) (by rw [yr]; omega)
 obtain ⟨_, _, _, e⟩ := BR (d := FD m + pl - 1) (n := n) hm (by omega) h2 h3
 unfold dy
 have e' : nR (FD m + pl - 1) n - FD (m + n) + 1 = (if lg (m + n) < pl then lg (m + n) else pl) := by
  rw [e]
  have : FD m + pl - 1 - FD m + 1 = pl := by omega
  rw [this]; rfl
 omega
theorem Fk {m pl : Int} (p1 : pl <= lg m) : dy m pl = FD m + pl - 1 := by unfold dy; rw [if_neg (by omega)]
def NN (m e n : Int) : Nat := min n.toNat ((4799 - m) / e + 1).toNat
theorem wR {m e : Int} (he : 1 <= e) (hm : m <= 4799) (n : Nat) : (List.range n).filter (fun j : Nat => decide (m + e * j <= 4799)) = List.range (min n ((4799 - m) / e + 1).toNat) := by
 have key : ∀ j : Nat, m + e * j <= 4799 ↔ j < ((4799 - m) / e + 1).toNat := fun j => by
  have h0 : 0 <= (4799 - m) / e := Int.ediv_nonneg (by omega) (by omega)
  have h1 : e * (j : Int) <= 4799 - m ↔ (j : Int) <= (4799 - m) / e := by
   rw [Int.mul_comm]; exact (Int.le_ediv_iff_mul_le (by omega)).symm
  omega
 generalize ((4799 - m) / e + 1).toNat = b at key
 induction n with
 | zero => rw [Nat.zero_min]; rfl
 | succ n ih =>
  rw [List.range_succ, List.filter_append, ih]
  by_cases h : n < b
  ·rw [List.filter_cons_of_pos (by simpa using (key n).mpr h), List.filter_nil, Nat.min_eq_left (by omega), Nat.min_eq_left (by omega), List.range_succ]
  ·rw [List.filter_cons_of_neg (by have := mt (key n).mp h; simpa using this), List.filter_nil, List.append_nil, Nat.min_eq_right (by omega), Nat.min_eq_right (by omega)]
theorem DP {m pl e n : Int} (he : 1 <= e) (m0 : 0 <= m) (hm : m <= 4799) (p0 : 1 <= pl) (p1 : pl <= lg m) : ((List.range n.toNat).filter fun j : Nat => decide (MO (FD m + pl - 1) + e * j <= 4799)).map (fun j : Nat => nR (FD m + pl - 1) (e * j)) = (List.range (NN m e n)).map fun j : Nat => dy (m + j * e) pl := by
 have hM : MO (FD m + pl - 1) = m := wa (by omega) (by rw [yr]; omega)
 rw [hM, wR he hm]
 apply List.map_congr_left
 intro j hj
 have hj := List.mem_range.mp hj
 have h0 : 0 <= (4799 - m) / e := Int.ediv_nonneg (by omega) (by omega)
 have h1 : (j : Int) <= (4799 - m) / e := by omega
 have h2 : (j : Int) * e <= 4799 - m := (Int.le_ediv_iff_mul_le (by omega)).mp h1
 have h3 : 0 <= (j : Int) * e := Int.mul_nonneg (by omega) (by omega)
 rw [Int.mul_comm e, Cr p0 p1 (by omega) (by omega)]
theorem tF {u : Int} : ∀ {l : List Int}, l.Pairwise (· < ·) -> l.filter (fun i => decide (i <= u)) = l.takeWhile fun i => decide (i <= u)
 | [], _ => rfl
 | a :: r, h => by
  rw [List.pairwise_cons] at h
  by_cases ha : a <= u
  ·rw [List.filter_cons_of_pos (by simpa using ha), List.takeWhile_cons_of_pos (by simpa using ha), tF h.2]
  ·rw [List.filter_cons_of_neg (by simpa using ha), List.takeWhile_cons_of_neg (by simpa using ha), List.filter_eq_nil_iff]
   intro b hb
   have := h.1 b hb
   simp; omega
theorem BS {m pl e : Int} (he : 1 <= e) (p0 : 1 <= pl) (n : Nat) : ((List.range n).map fun j : Nat => dy (m + j * e) pl).Pairwise (· < ·) := by
 rw [List.pairwise_map]
 refine List.Pairwise.imp (fun {a b} h => ?_) List.pairwise_lt_range
 refine Fx p0 ?_
 have : (a : Int) * e < b * e := Int.mul_lt_mul_of_pos_right (by omega) (by omega)
 omega
end K3
namespace L2
open PySem PyProof.Rows
section
variable {prog : Program} {w : World} {A : Around} {E : Value -> Shared -> Prop} {s : Shared}
theorem wU {x y z : Value} (hh : A.handled = none) {P : Value -> Shared -> Prop} {op : _} {bt : Nat -> Nat -> Bool} (hcmp : CmpOf prog w A op (fun i v => (#[x, y, z] : Array Value)[i]? = some v) bt)
 (h : ∀ v h' tk, (#[x, y, z] : Array Value)[argBest bt 2]? = some v -> (∀ c o, s.heap.get? c = some o -> h'.get? c = some o) -> P v { s with heap := h', toks := tk }) :
 wpAny (model prog w) A (pyIter (.ref s.heap.objs.size)) (fun it s₂ => ∃ I fp wr n P' St bt, it = .ref I /\ Walks prog w A I fp wr n P' St /\ St 0 s₂.heap /\ (∀ b ∈ fp, b < s₂.heap.objs.size) /\ 0 < n /\ CmpOf prog w A op P' bt /\
  ∀ v h' tk, P' (argBest bt (n - 1)) v -> (∀ b o, b ∉ wr -> s₂.heap.get? b = some o -> h'.get? b = some o) -> P v { s₂ with heap := h', toks := tk }) E
  { s with heap := s.heap.push { cls := .type "tuple", data := .seq #[x, y, z] } } := by
 have hT : (s.heap.push { cls := .type "tuple", data := .seq #[x, y, z] }).IsTuple s.heap.objs.size #[x, y, z] := ⟨_, Heap.get?_push_size _ rfl, rfl, 0, by simp⟩
 refine wpAny_pyIter_tuple hT ?_
 have hsz : (s.heap.push { cls := .type "tuple", data := .seq #[x, y, z] }).objs.size = s.heap.objs.size + 1 := Heap.size_push ..
 refine ⟨_, [_, s.heap.objs.size], [_], _, _, _, _, rfl, Walks.tuple (A := A) hh _ s.heap.objs.size (by rw [hsz]; exact Nat.ne_of_lt (Nat.lt_succ_self _)) #[x, y, z],
  ⟨⟨_, Heap.get?_push_size _ rfl, rfl, rfl⟩, hT.push _⟩, fun c hc => ?_, by simp, hcmp, fun v h' tk hP hk => ?_⟩
 ·show c < ((s.heap.push _).push _).objs.size
  rw [Heap.size_push, hsz]
  rcases List.mem_cons.mp hc with rfl | hc
  ·rw [hsz]; exact Nat.lt_succ_self _
  ·rcases List.mem_cons.mp hc with rfl | hc
   ·exact Nat.lt_succ_of_lt (Nat.lt_succ_self _)
   ·cases hc
 ·refine h v h' tk hP fun c o e => ?_
  refine hk c o (fun hm => ?_) (Heap.get?_push_of_some _ (Heap.get?_push_of_some _ e))
  rcases List.mem_cons.mp hm with e1 | hm
  ·have := Heap.lt_size e; rw [e1, hsz] at this; exact Nat.lt_irrefl _ (Nat.lt_of_succ_lt this)
  ·cases hm
end
variable {X : Cx}
def Ds : List V -> Hp -> VK -> Prop
 | [.int i, .int j, .int k], H, Q => ∀ m, (m = i \/ m = j \/ m = k) -> m <= i -> m <= j -> m <= k -> Q (.int m) H
 | _, _, _ => False
theorem Gb {x y z : V} {us : List Value} (r : Vals [x, y, z] us) : ∃ u v w', us = [u, v, w'] /\ RelV x u /\ RelV y v /\ RelV z w' := by
 cases r with
 | cons r1 r2 =>
  obtain ⟨u, w', rfl, h1, h2⟩ := yk r2
  exact ⟨_, _, _, rfl, r1, h1, h2⟩
theorem Co (hc : X.calm = true) : CallR X (.builtin "min") Ds := by
 intro pins s σ H xs us Q I r h
 unfold Ds at h
 split at h
 ·rename_i i j k
  obtain ⟨u, v, w', rfl, ⟨t, rfl⟩, ⟨t', rfl⟩, ⟨t'', rfl⟩⟩ := Gb r
  have go : ∀ (a : Nat) (v : Value), (#[Value.int i t, .int j t', .int k t''] : Array Value)[a]? = some v -> ∃ tk, v = .int (([i, j, k] : List Int).getD a 0) tk := fun a v hv => by
   match a, hv with
   | 0, hv => exact ⟨t, by simpa using hv.symm⟩
   | 1, hv => exact ⟨t', by simpa using hv.symm⟩
   | 2, hv => exact ⟨t'', by simpa using hv.symm⟩
   | a + 3, hv => simp at hv
  refine call_min_three (wU (A := X.A.in1) (I.ok.hd hc) (CmpOf.ints_lt (fun a => ([i, j, k] : List Int).getD a 0) go) fun v h' tk hv hk => ?_)
  obtain ⟨b1, b2⟩ := argBest_lt (fun a => ([i, j, k] : List Int).getD a 0) 2
  generalize argBest _ 2 = m at hv b1 b2
  obtain ⟨tk', rfl⟩ := go m v hv
  have h0 : _ <= i := b2 0 (by decide)
  have h1 : _ <= j := b2 1 (by decide)
  have h2 : _ <= k := b2 2 (by decide)
  refine ⟨.int (([i, j, k] : List Int).getD m 0), H, I.kept hk, ⟨_, rfl⟩, h _ ?_ h0 h1 h2⟩
  match m, b1 with
  | 0, _ => exact .inl rfl
  | 1, _ => exact .inr (.inl rfl)
  | 2, _ => exact .inr (.inr rfl)
 ·exact h.elim
end L2
set_option maxHeartbeats 400000
namespace K27
open PySem L2
structure Adr where
 kL : Addr
 pz : FuncData
 lj : Addr
 pv : FuncData
 js : Addr
 nn : FuncData
 oU : Addr
 qV : FuncData
 nY : Addr
 rZ : FuncData
 jr : Addr
 lC : FuncData
 ic : Addr
 jn : FuncData
 sh : Addr
 sY : FuncData
 jm : Addr
 mF : FuncData
 rP : Addr
 tB : FuncData
 k9 : Addr
 pW : FuncData
 jk : Addr
 mR : FuncData
 jw : Addr
 lP : FuncData
 ki : Addr
 pO : FuncData
 ko : Addr
 pU : FuncData
 nN : Addr
 qO : FuncData
 jE : Addr
 m9 : FuncData
 gg : Addr
 i6 : FuncData
 gw : Addr
 i9 : FuncData
 ju : Addr
 nc : FuncData
 li : Addr
 pQ : FuncData
 hU : Addr
 mi : FuncData
 gX : Addr
 mD : FuncData
 jG : Addr
 mT : FuncData
 jP : Addr
 ni : FuncData
 bD : Addr
 jx : FuncData
 jN : Addr
 lW : FuncData
 ej : Addr
 gG : FuncData
 fM : Addr
 iq : FuncData
 fK : Addr
 iL : FuncData
 gs : Addr
 pT : FuncData
 dL : Addr
 iw : FuncData
 cy : Addr
 gE : FuncData
 jV : Addr
 mP : FuncData
 fO : Addr
 iE : FuncData
 d5 : Addr
 gj : FuncData
 dt : Addr
 h_ : FuncData
 dG : Addr
 ir : FuncData
 dv : Addr
 ib : FuncData
 ka : Addr
 A0 : FuncData
 bP : Addr
 dC : FuncData
 cM : Addr
 fm : FuncData
 gn : Addr
 i_ : FuncData
 eC : Addr
 g_ : FuncData
 fH : Addr
 iN : FuncData
 eS : Addr
 hZ : FuncData
 eM : Addr
 hV : FuncData
 fE : Addr
 iu : FuncData
 fF : Addr
 iH : FuncData
 fG : Addr
 iC : FuncData
 bO : Addr
 aZ : Addr
 a_ : Addr
 be : Addr
 aT : Addr
 bF : Addr
 bh : Addr
 aR : Addr
 aj : Addr
 aq : Addr
 dX : Addr
abbrev zzK (K : W.Frag) (a b : Addr) (c : Bool) : Prop := PySem.W.kitOne K (.ref a) (.ref b) = some c
abbrev zzX (K : W.Frag) (a : Addr) : Prop := PySem.W.excIn K a [.type "ValueError", .type "Exception", .type "BaseException", .type "object"] "ValueError.__new__" = true
structure Txt (K : W.Frag) (mg : Str -> Option Value) (a : Adr) : Prop where
 km : Fun K "is_whole" "is_whole" dN a.kL a.pz
 xK : mg "is_whole" = some (.ref a.kL)
 cK : Fun K "is_among" "is_among" dS a.lj a.pv
 gp : mg "is_among" = some (.ref a.lj)
 dm : Fun K "signs_lie" "signs_lie" cY a.js a.nn
 jI : mg "signs_lie" = some (.ref a.js)
 oE : Fun K "is_name" "is_name" eO a.oU a.qV
 zw : mg "is_name" = some (.ref a.oU)
 nV : Fun K "is_note" "is_note" eB a.nY a.rZ
 zR : mg "is_note" = some (.ref a.nY)
 jF : Fun K "is_amount" "is_amount" dq a.jr a.lC
 wH : mg "is_amount" = some (.ref a.jr)
 ie : Fun K "is_currency" "is_currency" cJ a.ic a.jn
 sk : mg "is_currency" = some (.ref a.ic)
 rB : Fun K "is_row" "is_row" f_ a.sh a.sY
 Bl : mg "is_row" = some (.ref a.sh)
 jh : Fun K "need_form" "need_form" di a.jm a.mF
 vo : mg "need_form" = some (.ref a.jm)
 rz : Fun K "is_day" "is_day" gF a.rP a.tB
 zY : mg "is_day" = some (.ref a.rP)
 gN : Fun K "is_month" "is_month" dO a.k9 a.pW
 rN : mg "is_month" = some (.ref a.k9)
 gW : Fun K "leap_days" "leap_days" dk a.jk a.mR
 pq : mg "leap_days" = some (.ref a.jk)
 cQ : Fun K "first_day" "first_day" df a.jw a.lP
 gR : mg "first_day" = some (.ref a.jw)
 gL : Fun K "last_day" "last_day" dP a.ki a.pO
 rL : mg "last_day" = some (.ref a.ki)
 gK : Fun K "month_of" "month_of" dR a.ko a.pU
 r_ : mg "month_of" = some (.ref a.ko)
 nK : Fun K "stepped" "stepped" eu a.nN a.qO
 zl : mg "stepped" = some (.ref a.nN)
 jB : Fun K "days_from" "days_from" de a.jE a.m9
 vX : mg "days_from" = some (.ref a.jE)
 cN : Fun K "_law_cell_at" "_law_cell_at" cg a.gg a.i6
 ei : mg "_law_cell_at" = some (.ref a.gg)
 gh : Fun K "_law_name_by" "_law_name_by" cc a.gw a.i9
 qI : mg "_law_name_by" = some (.ref a.gw)
 dY : Fun K "_law_long" "_law_long" cX a.ju a.nc
 ji : mg "_law_long" = some (.ref a.ju)
 c_ : Fun K "_law_day" "_law_day" dQ a.li a.pQ
 iR : mg "_law_day" = some (.ref a.li)
 jA : Fun K "_law_left" "_law_left" cz a.hU a.mi
 vn : mg "_law_left" = some (.ref a.hU)
 jy : Fun K "_law_word" "_law_word" cP a.gX a.mD
 wA : mg "_law_word" = some (.ref a.gX)
 jp : Fun K "_law_note" "_law_note" dg a.jG a.mT
 vV : mg "_law_note" = some (.ref a.jG)
 je : Fun K "_law_rows" "_law_rows" da a.jP a.ni
 wj : mg "_law_rows" = some (.ref a.jP)
 e_ : Fun K "_law_spoilt" "_law_spoilt" aM a.bD a.jx
 j9 : mg "_law_spoilt" = some (.ref a.bD)
 bQ : Fun K "_law_told" "_law_told" db a.jN a.lW
 dW : mg "_law_told" = some (.ref a.jN)
 cB : Fun K "_law_names_good" "_law_names_good" bG a.ej a.gG
 gT : mg "_law_names_good" = some (.ref a.ej)
 fA : Fun K "_law_way_good" "_law_way_good" bX a.fM a.iq
 pZ : mg "_law_way_good" = some (.ref a.fM)
 cT : Fun K "_law_one_good" "_law_one_good" bW a.fK a.iL
 i8 : mg "_law_one_good" = some (.ref a.fK)
 eZ : Fun K "_law_put" "_law_put" cf a.gs a.pT
 kq : mg "_law_put" = some (.ref a.gs)
 fJ : Fun K "_law_odd_good" "_law_odd_good" bw a.dL a.iw
 qy : mg "_law_odd_good" = some (.ref a.dL)
 bH : Fun K "_law_other_good" "_law_other_good" aV a.cy a.gE
 cV : mg "_law_other_good" = some (.ref a.cy)
 fb : Fun K "_law_made" "_law_made" cZ a.jV a.mP
 pi : mg "_law_made" = some (.ref a.jV)
 dI : Fun K "_law_met_good" "_law_met_good" bT a.fO a.iE
 i5 : mg "_law_met_good" = some (.ref a.fO)
 d_ : Fun K "_law_again_good" "_law_again_good" bE a.d5 a.gj
 lV : mg "_law_again_good" = some (.ref a.d5)
 eQ : Fun K "_law_none_good" "_law_none_good" bj a.dt a.h_
 nL : mg "_law_none_good" = some (.ref a.dt)
 fL : Fun K "_law_end_good" "_law_end_good" bu a.dG a.ir
 qe : mg "_law_end_good" = some (.ref a.dG)
 eL : Fun K "_law_deed_good" "_law_deed_good" bo a.dv a.ib
 oJ : mg "_law_deed_good" = some (.ref a.dv)
 FP : Fun K "law" "law" dU a.ka a.A0
 GQ : mg "law" = some (.ref a.ka)
 dF : Fun K "__init__" "StandingOrder.__init__" aX a.bP a.dC
 si : oV K a.aj "__init__" a.bP
 fQ : Fun K "__init__" "Standing.__init__" bq a.cM a.fm
 v9 : oV K a.aq "__init__" a.cM
 jH : Fun K "put" "Standing.put" cr a.gn a.i_
 qm : oV K a.aq "put" a.gn
 cb : Fun K "order" "Standing.order" bL a.eC a.g_
 cG : oV K a.aq "order" a.eC
 i7 : Fun K "drop" "Standing.drop" bY a.fH a.iN
 oR : oV K a.aq "drop" a.fH
 iz : Fun K "names" "Standing.names" bM a.eS a.hZ
 gS : oV K a.aq "names" a.eS
 eT : Fun K "terms" "Standing.terms" bK a.eM a.hV
 hG : oV K a.aq "terms" a.eM
 dH : Fun K "done" "Standing.done" bV a.fE a.iu
 eV : oV K a.aq "done" a.fE
 ja : Fun K "step" "Standing.step" bU a.fF a.iH
 nW : oV K a.aq "step" a.fF
 fP : Fun K "days" "Standing.days" bZ a.fG a.iC
 eG : oV K a.aq "days" a.fG
 uG : mg "HouseError" = some (.ref a.bO)
 tm : mg "BadName" = some (.ref a.aZ)
 tN : mg "BadNote" = some (.ref a.a_)
 rM : mg "BadDay" = some (.ref a.be)
 rp : mg "BadCount" = some (.ref a.aT)
 yM : mg "Twice" = some (.ref a.bF)
 qJ : mg "BadRow" = some (.ref a.bh)
 sG : mg "NoOrder" = some (.ref a.aR)
 qf : mg "StandingOrder" = some (.ref a.aj)
 q_ : mg "Standing" = some (.ref a.aq)
 bg : Cls K a.aj
 d9 : NoAttr K a.aj "agreed"
 cI : NoAttr K a.aj "all_days"
 bR : NoAttr K a.aj "gone"
 oW : Mk K a.aj a.bP
 aN : Cls K a.aq
 bB : NoAttr K a.aq "by_name"
 ph : Mk K a.aq a.cM
 xL : zzX K a.aT
 w8 : dh K a.aT
 jc : PySem.W.exmOne K (.ref a.aT) (.ref a.bO) = some true
 j7 : zzK K a.aT a.aT true
 ma : zzK K a.aT a.be false
 kG : zzK K a.aT a.aZ false
 lb : zzK K a.aT a.a_ false
 mW : zzK K a.aT a.bh false
 kF : zzK K a.aT a.aR false
 o_ : zzK K a.aT a.bF false
 jb : PySem.W.kitOne K (.ref a.aT) (.type "ValueError") = some true
 vE : zzX K a.be
 AZ : dh K a.be
 j8 : PySem.W.exmOne K (.ref a.be) (.ref a.bO) = some true
 lQ : zzK K a.be a.aT false
 qv : zzK K a.be a.be true
 om : zzK K a.be a.aZ false
 nP : zzK K a.be a.a_ false
 qA : zzK K a.be a.bh false
 nX : zzK K a.be a.aR false
 rF : zzK K a.be a.bF false
 j4 : PySem.W.kitOne K (.ref a.be) (.type "ValueError") = some true
 zH : zzX K a.aZ
 zO : dh K a.aZ
 jz : PySem.W.exmOne K (.ref a.aZ) (.ref a.bO) = some true
 kJ : zzK K a.aZ a.aT false
 oG : zzK K a.aZ a.be false
 lB : zzK K a.aZ a.aZ true
 mh : zzK K a.aZ a.a_ false
 nB : zzK K a.aZ a.bh false
 nj : zzK K a.aZ a.aR false
 qw : zzK K a.aZ a.bF false
 jC : PySem.W.kitOne K (.ref a.aZ) (.type "ValueError") = some true
 zI : zzX K a.a_
 zc : dh K a.a_
 jO : PySem.W.exmOne K (.ref a.a_) (.ref a.bO) = some true
 kj : zzK K a.a_ a.aT false
 nz : zzK K a.a_ a.be false
 lF : zzK K a.a_ a.aZ false
 l_ : zzK K a.a_ a.a_ true
 nJ : zzK K a.a_ a.bh false
 lA : zzK K a.a_ a.aR false
 pX : zzK K a.a_ a.bF false
 jD : PySem.W.kitOne K (.ref a.a_) (.type "ValueError") = some true
 vF : zzX K a.bh
 BH : dh K a.bh
 j6 : PySem.W.exmOne K (.ref a.bh) (.ref a.bO) = some true
 lS : zzK K a.bh a.aT false
 qj : zzK K a.bh a.be false
 oB : zzK K a.bh a.aZ false
 oj : zzK K a.bh a.a_ false
 qz : zzK K a.bh a.bh true
 pb : zzK K a.bh a.aR false
 qZ : zzK K a.bh a.bF false
 j5 : PySem.W.kitOne K (.ref a.bh) (.type "ValueError") = some true
 zp : zzX K a.aR
 zk : dh K a.aR
 bS : PySem.W.exmOne K (.ref a.aR) (.ref a.bO) = some true
 k_ : zzK K a.aR a.aT false
 oX : zzK K a.aR a.be false
 lI : zzK K a.aR a.aZ false
 mr : zzK K a.aR a.a_ false
 oq : zzK K a.aR a.bh false
 lX : zzK K a.aR a.aR true
 qg : zzK K a.aR a.bF false
 jK : PySem.W.kitOne K (.ref a.aR) (.type "ValueError") = some true
 CN : zzX K a.bF
 Ch : dh K a.bF
 kg : PySem.W.exmOne K (.ref a.bF) (.ref a.bO) = some true
 oZ : zzK K a.bF a.aT false
 rJ : zzK K a.bF a.be false
 qu : zzK K a.bF a.aZ false
 qh : zzK K a.bF a.a_ false
 se : zzK K a.bF a.bh false
 qk : zzK K a.bF a.aR false
 sx : zzK K a.bF a.bF true
 kM : PySem.W.kitOne K (.ref a.bF) (.type "ValueError") = some true
 zL : mg "LENGTHS" = some (.ref a.dX)
 dX : ∃ (o : Obj) (its : Array Value) (n : Nat), K.lookup a.dX = some o /\ o.cls = .type "tuple" /\ o.data = .seq its n /\ its.size <= sizeLine /\ Vals (([31, 28, 31, 30, 31, 30, 31, 31, 30, 31, 30, 31] : List Int).map V.int) its.toList
 uU : mg "ValueError" = none
 Fi : mg "abs" = none
 Fl : mg "all" = none
 Bk : mg "bool" = none
 yO : mg "int" = none
 aK : mg "isinstance" = none
 kb : mg "len" = none
 qP : mg "list" = none
 qL : mg "min" = none
 cx : mg "range" = none
 qX : mg "sorted" = none
 tP : mg "str" = none
 Gm : mg "sum" = none
 j3 : mg "tuple" = none
theorem sr : bootBuiltins "ValueError" = some (.type "ValueError") := by decide +kernel
theorem Ed : bootBuiltins "abs" = some (.builtin "abs") := by decide +kernel
theorem DT : bootBuiltins "all" = some (.builtin "all") := by decide +kernel
theorem yl : bootBuiltins "bool" = some (.type "bool") := by decide +kernel
theorem ur : bootBuiltins "int" = some (.type "int") := by decide +kernel
theorem aI : bootBuiltins "isinstance" = some (.builtin "isinstance") := by decide +kernel
theorem ig : bootBuiltins "len" = some (.builtin "len") := by decide +kernel
theorem me : bootBuiltins "list" = some (.type "list") := by decide +kernel
theorem kK : bootBuiltins "min" = some (.builtin "min") := by decide +kernel
theorem oP : bootBuiltins "sorted" = some (.builtin "sorted") := by decide +kernel
theorem nE : bootBuiltins "str" = some (.type "str") := by decide +kernel
theorem E4 : bootBuiltins "sum" = some (.builtin "sum") := by decide +kernel
theorem iJ : bootBuiltins "tuple" = some (.type "tuple") := by decide +kernel
local macro_rules | `(tactic| walk_at "sc") => `(tactic| exact ⟨rfl, rfl, rfl, by decide +kernel, rfl, by decide +kernel, by decide +kernel⟩)
section
variable {K : W.Frag} {f : Addr} {fd : FuncData}
theorem vA : aG ["thing"] ["thing"] (af dN) := by walk_at "sc"
theorem v8 (F : Fun K "is_whole" "is_whole" dN f fd) : Binds K fd ["thing"] [] := F.binds fun _ _ _ _ _ _ us hl => by obtain ⟨_, rfl⟩ := ex1 hl; rfl
theorem vi : aG ["thing", "least", "most"] ["thing", "least", "most"] (af dS) := by walk_at "sc"
theorem h8 (F : Fun K "is_among" "is_among" dS f fd) : Binds K fd ["thing", "least", "most"] [] := F.binds fun _ _ _ _ _ _ us hl => by obtain ⟨_, _, _, rfl⟩ := ex3 hl; rfl
theorem uE : aG ["text", "least", "most"] ["text", "least", "most"] (af cY) := by walk_at "sc"
theorem iT (F : Fun K "signs_lie" "signs_lie" cY f fd) : Binds K fd ["text", "least", "most"] [] := F.binds fun _ _ _ _ _ _ us hl => by obtain ⟨_, _, _, rfl⟩ := ex3 hl; rfl
theorem xj : aG ["thing"] ["thing"] (af eO) := by walk_at "sc"
theorem xm (F : Fun K "is_name" "is_name" eO f fd) : Binds K fd ["thing"] [] := F.binds fun _ _ _ _ _ _ us hl => by obtain ⟨_, rfl⟩ := ex1 hl; rfl
theorem xF : aG ["thing"] ["thing"] (af eB) := by walk_at "sc"
theorem xV (F : Fun K "is_note" "is_note" eB f fd) : Binds K fd ["thing"] [] := F.binds fun _ _ _ _ _ _ us hl => by obtain ⟨_, rfl⟩ := ex1 hl; rfl
theorem uk : aG ["thing"] ["thing"] (af dq) := by walk_at "sc"
theorem t_ (F : Fun K "is_amount" "is_amount" dq f fd) : Binds K fd ["thing"] [] := F.binds fun _ _ _ _ _ _ us hl => by obtain ⟨_, rfl⟩ := ex1 hl; rfl
theorem rn : aG ["thing"] ["thing"] (af cJ) := by walk_at "sc"
theorem rD (F : Fun K "is_currency" "is_currency" cJ f fd) : Binds K fd ["thing"] [] := F.binds fun _ _ _ _ _ _ us hl => by obtain ⟨_, rfl⟩ := ex1 hl; rfl
theorem zN : aG ["thing"] ["thing"] (af f_) := by walk_at "sc"
theorem zG (F : Fun K "is_row" "is_row" f_ f fd) : Binds K fd ["thing"] [] := F.binds fun _ _ _ _ _ _ us hl => by obtain ⟨_, rfl⟩ := ex1 hl; rfl
theorem ng : aG ["rows", "row"] ["rows"] (af di) := by walk_at "sc"
theorem vc (F : Fun K "need_form" "need_form" di f fd) : Binds K fd ["rows"] [] := F.binds fun _ _ _ _ _ _ us hl => by obtain ⟨_, rfl⟩ := ex1 hl; rfl
theorem zo : aG ["thing"] ["thing"] (af gF) := by walk_at "sc"
theorem zE (F : Fun K "is_day" "is_day" gF f fd) : Binds K fd ["thing"] [] := F.binds fun _ _ _ _ _ _ us hl => by obtain ⟨_, rfl⟩ := ex1 hl; rfl
theorem vG : aG ["thing"] ["thing"] (af dO) := by walk_at "sc"
theorem pJ (F : Fun K "is_month" "is_month" dO f fd) : Binds K fd ["thing"] [] := F.binds fun _ _ _ _ _ _ us hl => by obtain ⟨_, rfl⟩ := ex1 hl; rfl
theorem ul : aG ["years"] ["years"] (af dk) := by walk_at "sc"
theorem uA (F : Fun K "leap_days" "leap_days" dk f fd) : Binds K fd ["years"] [] := F.binds fun _ _ _ _ _ _ us hl => by obtain ⟨_, rfl⟩ := ex1 hl; rfl
theorem mL : aG ["month", "years", "ahead", "leaps"] ["month"] (af df) := by walk_at "sc"
theorem iZ (F : Fun K "first_day" "first_day" df f fd) : Binds K fd ["month"] [] := F.binds fun _ _ _ _ _ _ us hl => by obtain ⟨_, rfl⟩ := ex1 hl; rfl
theorem vI : aG ["month"] ["month"] (af dP) := by walk_at "sc"
theorem pA (F : Fun K "last_day" "last_day" dP f fd) : Binds K fd ["month"] [] := F.binds fun _ _ _ _ _ _ us hl => by obtain ⟨_, rfl⟩ := ex1 hl; rfl
theorem pP : aG ["day", "month"] ["day"] (af dR) := by walk_at "sc"
theorem pN (F : Fun K "month_of" "month_of" dR f fd) : Binds K fd ["day"] [] := F.binds fun _ _ _ _ _ _ us hl => by obtain ⟨_, rfl⟩ := ex1 hl; rfl
theorem rK : aG ["day", "months", "month", "place", "other"] ["day", "months"] (af eu) := by walk_at "sc"
theorem xB (F : Fun K "stepped" "stepped" eu f fd) : Binds K fd ["day", "months"] [] := F.binds fun _ _ _ _ _ _ us hl => by obtain ⟨_, _, rfl⟩ := ex2 hl; rfl
theorem mI : aG ["first", "every", "times", "month"] ["first", "every", "times"] (af de) := by walk_at "sc"
theorem uM (F : Fun K "days_from" "days_from" de f fd) : Binds K fd ["first", "every", "times"] [] := F.binds fun _ _ _ _ _ _ us hl => by obtain ⟨_, _, _, rfl⟩ := ex3 hl; rfl
theorem qi : aG ["_law_script", "_law_k"] ["_law_script", "_law_k"] (af cg) := by walk_at "sc"
theorem qp (F : Fun K "_law_cell_at" "_law_cell_at" cg f fd) : Binds K fd ["_law_script", "_law_k"] [] := F.binds fun _ _ _ _ _ _ us hl => by obtain ⟨_, _, rfl⟩ := ex2 hl; rfl
theorem i3 : aG ["_law_cell", "_law_k", "_law_letters", "_law_first", "_law_size", "_law_at", "_law_signs"] ["_law_cell", "_law_k"] (af cc) := by walk_at "sc"
theorem qb (F : Fun K "_law_name_by" "_law_name_by" cc f fd) : Binds K fd ["_law_cell", "_law_k"] [] := F.binds fun _ _ _ _ _ _ us hl => by obtain ⟨_, _, rfl⟩ := ex2 hl; rfl
theorem mX : aG ["_law_month", "_law_year"] ["_law_month"] (af cX) := by walk_at "sc"
theorem mw (F : Fun K "_law_long" "_law_long" cX f fd) : Binds K fd ["_law_month"] [] := F.binds fun _ _ _ _ _ _ us hl => by obtain ⟨_, rfl⟩ := ex1 hl; rfl
theorem pH : aG ["_law_month", "_law_place", "_law_years", "_law_day_here", "_law_other"] ["_law_month", "_law_place"] (af dQ) := by walk_at "sc"
theorem jM (F : Fun K "_law_day" "_law_day" dQ f fd) : Binds K fd ["_law_month", "_law_place"] [] := F.binds fun _ _ _ _ _ _ us hl => by obtain ⟨_, _, rfl⟩ := ex2 hl; rfl
theorem mj : aG ["_law_order", "_law_until", "_law_month", "_law_place", "_law_every", "_law_times", "_law_gone", "_law_found", "_law_k", "_law_day_here"] ["_law_order", "_law_until"] (af cz) := by walk_at "sc"
theorem uP (F : Fun K "_law_left" "_law_left" cz f fd) : Binds K fd ["_law_order", "_law_until"] [] := F.binds fun _ _ _ _ _ _ us hl => by obtain ⟨_, _, rfl⟩ := ex2 hl; rfl
theorem lT : aG ["_law_e", "_law_found"] ["_law_e"] (af cP) := by walk_at "sc"
theorem vd (F : Fun K "_law_word" "_law_word" cP f fd) : Binds K fd ["_law_e"] [] := F.binds fun _ _ _ _ _ _ us hl => by obtain ⟨_, rfl⟩ := ex1 hl; rfl
theorem mE : aG ["_law_cell", "_law_signs"] ["_law_cell"] (af dg) := by walk_at "sc"
theorem vb (F : Fun K "_law_note" "_law_note" dg f fd) : Binds K fd ["_law_cell"] [] := F.binds fun _ _ _ _ _ _ us hl => by obtain ⟨_, rfl⟩ := ex1 hl; rfl
theorem mf : aG ["_law_cell", "_law_rows_here", "_law_k", "_law_amount", "_law_path"] ["_law_cell"] (af da) := by walk_at "sc"
theorem ua (F : Fun K "_law_rows" "_law_rows" da f fd) : Binds K fd ["_law_cell"] [] := F.binds fun _ _ _ _ _ _ us hl => by obtain ⟨_, rfl⟩ := ex1 hl; rfl
theorem jv : aG ["_law_put_here", "_law_at", "_law_more", "_law_name", "_law_first", "_law_every", "_law_times", "_law_note_here", "_law_rows_here", "_law_pick", "_law_far", "_law_row", "_law_odd", "_law_one"] ["_law_put_here", "_law_at", "_law_more"] (af aM) := by walk_at "sc"
theorem rS (F : Fun K "_law_spoilt" "_law_spoilt" aM f fd) : Binds K fd ["_law_put_here", "_law_at", "_law_more"] [] := F.binds fun _ _ _ _ _ _ us hl => by obtain ⟨_, _, _, rfl⟩ := ex3 hl; rfl
theorem mK : aG ["_law_standing", "_law_kind", "_law_thing", "_law_found", "_law_e"] ["_law_standing", "_law_kind", "_law_thing"] (af db) := by walk_at "sc"
theorem fU (F : Fun K "_law_told" "_law_told" db f fd) : Binds K fd ["_law_standing", "_law_kind", "_law_thing"] [] := F.binds fun _ _ _ _ _ _ us hl => by obtain ⟨_, _, _, rfl⟩ := ex3 hl; rfl
theorem gu : aG ["_law_standing", "_law_orders", "_law_held", "_law_found"] ["_law_standing", "_law_orders", "_law_held"] (af bG) := by walk_at "sc"
theorem gz (F : Fun K "_law_names_good" "_law_names_good" bG f fd) : Binds K fd ["_law_standing", "_law_orders", "_law_held"] [] := F.binds fun _ _ _ _ _ _ us hl => by obtain ⟨_, _, _, rfl⟩ := ex3 hl; rfl
theorem im : aG ["_law_standing", "_law_orders", "_law_name", "_law_until", "_law_way", "_law_held", "_law_order", "_law_terms", "_law_done", "_law_due", "_law_found"] ["_law_standing", "_law_orders", "_law_name", "_law_until", "_law_way", "_law_held"] (af bX) := by walk_at "sc"
theorem n_ (F : Fun K "_law_way_good" "_law_way_good" bX f fd) : Binds K fd ["_law_standing", "_law_orders", "_law_name", "_law_until", "_law_way", "_law_held"] [] := F.binds fun _ _ _ _ _ _ us hl => by obtain ⟨_, _, _, _, _, _, rfl⟩ := ex6 hl; rfl
theorem iI : aG ["_law_standing", "_law_orders", "_law_name", "_law_until", "_law_held", "_law_turn", "_law_k"] ["_law_standing", "_law_orders", "_law_name", "_law_until", "_law_held"] (af bW) := by walk_at "sc"
theorem iD (F : Fun K "_law_one_good" "_law_one_good" bW f fd) : Binds K fd ["_law_standing", "_law_orders", "_law_name", "_law_until", "_law_held"] [] := F.binds fun _ _ _ _ _ _ us hl => by obtain ⟨_, _, _, _, _, rfl⟩ := ex5 hl; rfl
theorem pD : aG ["_law_standing", "_law_orders", "_law_put_here", "_law_month", "_law_place", "_law_handed", "_law_due"] ["_law_standing", "_law_orders", "_law_put_here", "_law_month", "_law_place"] (af cf) := by walk_at "sc"
theorem pV (F : Fun K "_law_put" "_law_put" cf f fd) : Binds K fd ["_law_standing", "_law_orders", "_law_put_here", "_law_month", "_law_place"] [] := F.binds fun _ _ _ _ _ _ us hl => by obtain ⟨_, _, _, _, _, rfl⟩ := ex5 hl; rfl
theorem iM : aG ["_law_standing", "_law_put_here", "_law_cell", "_law_more", "_law_at", "_law_odd"] ["_law_standing", "_law_put_here", "_law_cell", "_law_more"] (af bw) := by walk_at "sc"
theorem oo (F : Fun K "_law_odd_good" "_law_odd_good" bw f fd) : Binds K fd ["_law_standing", "_law_put_here", "_law_cell", "_law_more"] [] := F.binds fun _ _ _ _ _ _ us hl => by obtain ⟨_, _, _, _, rfl⟩ := ex4 hl; rfl
theorem gJ : aG ["_law_standing", "_law_orders", "_law_name", "_law_kind", "_law_many", "_law_turn", "_law_order"] ["_law_standing", "_law_orders", "_law_name", "_law_kind", "_law_many"] (af aV) := by walk_at "sc"
theorem gH (F : Fun K "_law_other_good" "_law_other_good" aV f fd) : Binds K fd ["_law_standing", "_law_orders", "_law_name", "_law_kind", "_law_many"] [] := F.binds fun _ _ _ _ _ _ us hl => by obtain ⟨_, _, _, _, _, rfl⟩ := ex5 hl; rfl
theorem lR : aG ["_law_names", "_law_month", "_law_kind", "_law_cell", "_law_more", "_law_place", "_law_every", "_law_times", "_law_put_here"] ["_law_names", "_law_month", "_law_kind", "_law_cell", "_law_more"] (af cZ) := by walk_at "sc"
theorem mZ (F : Fun K "_law_made" "_law_made" cZ f fd) : Binds K fd ["_law_names", "_law_month", "_law_kind", "_law_cell", "_law_more"] [] := F.binds fun _ _ _ _ _ _ us hl => by obtain ⟨_, _, _, _, _, rfl⟩ := ex5 hl; rfl
theorem o9 : aG ["_law_standing", "_law_orders", "_law_name", "_law_until", "_law_held"] ["_law_standing", "_law_orders", "_law_name", "_law_until", "_law_held"] (af bT) := by walk_at "sc"
theorem oN (F : Fun K "_law_met_good" "_law_met_good" bT f fd) : Binds K fd ["_law_standing", "_law_orders", "_law_name", "_law_until", "_law_held"] [] := F.binds fun _ _ _ _ _ _ us hl => by obtain ⟨_, _, _, _, _, rfl⟩ := ex5 hl; rfl
theorem gk : aG ["_law_standing", "_law_orders", "_law_put_here", "_law_month", "_law_place", "_law_turn"] ["_law_standing", "_law_orders", "_law_put_here", "_law_month", "_law_place"] (af bE) := by walk_at "sc"
theorem kh (F : Fun K "_law_again_good" "_law_again_good" bE f fd) : Binds K fd ["_law_standing", "_law_orders", "_law_put_here", "_law_month", "_law_place"] [] := F.binds fun _ _ _ _ _ _ us hl => by obtain ⟨_, _, _, _, _, rfl⟩ := ex5 hl; rfl
theorem mO : aG ["_law_standing", "_law_orders", "_law_thing"] ["_law_standing", "_law_orders", "_law_thing"] (af bj) := by walk_at "sc"
theorem mY (F : Fun K "_law_none_good" "_law_none_good" bj f fd) : Binds K fd ["_law_standing", "_law_orders", "_law_thing"] [] := F.binds fun _ _ _ _ _ _ us hl => by obtain ⟨_, _, _, rfl⟩ := ex3 hl; rfl
theorem iy : aG ["_law_standing", "_law_orders", "_law_names", "_law_until", "_law_turn", "_law_things"] ["_law_standing", "_law_orders", "_law_names", "_law_until"] (af bu) := by walk_at "sc"
theorem oH (F : Fun K "_law_end_good" "_law_end_good" bu f fd) : Binds K fd ["_law_standing", "_law_orders", "_law_names", "_law_until"] [] := F.binds fun _ _ _ _ _ _ us hl => by obtain ⟨_, _, _, _, rfl⟩ := ex4 hl; rfl
theorem gY : aG ["_law_standing", "_law_orders", "_law_names", "_law_cells", "_law_base", "_law_kind", "_law_month", "_law_put_here", "_law_place"] ["_law_standing", "_law_orders", "_law_names", "_law_cells", "_law_base"] (af bo) := by walk_at "sc"
theorem lU (F : Fun K "_law_deed_good" "_law_deed_good" bo f fd) : Binds K fd ["_law_standing", "_law_orders", "_law_names", "_law_cells", "_law_base"] [] := F.binds fun _ _ _ _ _ _ us hl => by obtain ⟨_, _, _, _, _, rfl⟩ := ex5 hl; rfl
theorem Ad : aG ["_law_script", "_law_names", "_law_base", "_law_both", "_law_orders", "_law_until", "_law_held", "_law_kept", "_law_k", "_law_side", "_law_name", "_law_which", "_law_put_here", "_law_place"] ["_law_script"] (af dU) := by walk_at "sc"
theorem gO : aG ["self", "first", "every", "times", "note", "rows"] ["self", "first", "every", "times", "note", "rows"] (af aX) := by walk_at "sc"
theorem gQ (F : Fun K "__init__" "StandingOrder.__init__" aX f fd) : Binds K fd ["self", "first", "every", "times", "note", "rows"] [] := F.binds fun _ _ _ _ _ _ us hl => by obtain ⟨_, _, _, _, _, _, rfl⟩ := ex6 hl; rfl
theorem jq : aG ["self"] ["self"] (af bq) := by walk_at "sc"
theorem jf (F : Fun K "__init__" "Standing.__init__" bq f fd) : Binds K fd ["self"] [] := F.binds fun _ _ _ _ _ _ us hl => by obtain ⟨_, rfl⟩ := ex1 hl; rfl
theorem ql : aG ["self", "name", "first", "every", "times", "note", "rows"] ["self", "name", "first", "every", "times", "note", "rows"] (af cr) := by walk_at "sc"
theorem qo (F : Fun K "put" "Standing.put" cr f fd) : Binds K fd ["self", "name", "first", "every", "times", "note", "rows"] [] := F.binds fun _ _ _ _ _ _ us hl => by obtain ⟨_, _, _, _, _, _, _, rfl⟩ := ex7 hl; rfl
theorem lZ : aG ["self", "name"] ["self", "name"] (af bL) := by walk_at "sc"
theorem cD (F : Fun K "order" "Standing.order" bL f fd) : Binds K fd ["self", "name"] [] := F.binds fun _ _ _ _ _ _ us hl => by obtain ⟨_, _, rfl⟩ := ex2 hl; rfl
theorem ow : aG ["self", "name"] ["self", "name"] (af bY) := by walk_at "sc"
theorem oF (F : Fun K "drop" "Standing.drop" bY f fd) : Binds K fd ["self", "name"] [] := F.binds fun _ _ _ _ _ _ us hl => by obtain ⟨_, _, rfl⟩ := ex2 hl; rfl
theorem md : aG ["self"] ["self"] (af bM) := by walk_at "sc"
theorem lO (F : Fun K "names" "Standing.names" bM f fd) : Binds K fd ["self"] [] := F.binds fun _ _ _ _ _ _ us hl => by obtain ⟨_, rfl⟩ := ex1 hl; rfl
theorem mH : aG ["self", "name"] ["self", "name"] (af bK) := by walk_at "sc"
theorem hE (F : Fun K "terms" "Standing.terms" bK f fd) : Binds K fd ["self", "name"] [] := F.binds fun _ _ _ _ _ _ us hl => by obtain ⟨_, _, rfl⟩ := ex2 hl; rfl
theorem nC : aG ["self", "name"] ["self", "name"] (af bV) := by walk_at "sc"
theorem eU (F : Fun K "done" "Standing.done" bV f fd) : Binds K fd ["self", "name"] [] := F.binds fun _ _ _ _ _ _ us hl => by obtain ⟨_, _, rfl⟩ := ex2 hl; rfl
theorem iB : aG ["self", "name", "order"] ["self", "name"] (af bU) := by walk_at "sc"
theorem oA (F : Fun K "step" "Standing.step" bU f fd) : Binds K fd ["self", "name"] [] := F.binds fun _ _ _ _ _ _ us hl => by obtain ⟨_, _, rfl⟩ := ex2 hl; rfl
theorem iF : aG ["self", "name", "until", "order"] ["self", "name", "until"] (af bZ) := by walk_at "sc"
theorem ix (F : Fun K "days" "Standing.days" bZ f fd) : Binds K fd ["self", "name", "until"] [] := F.binds fun _ _ _ _ _ _ us hl => by obtain ⟨_, _, _, rfl⟩ := ex3 hl; rfl
end
seal L2.PE L2.PT L2.PW L2.PA L2.PS L2.PSs L2.PI L2.PG L2.PGs L2.PO
local macro_rules | `(tactic| walk_at "rd") => `(tactic| try simp only [Aj, rdI, V.int.injEq, V.ref.injEq, yf, Bs, yb, yh, Bj, AK, AU, Bn, BE, L2.fo, List.map_cons, List.map_nil, List.cons_append, List.nil_append, List.append_nil, List.length_cons, List.length_nil, List.replicate, List.getElem?_cons_zero, List.getElem?_cons_succ, List.set_cons_zero, List.set_cons_succ, Nat.reduceSub, Nat.reduceAdd, Int.reduceLT, Int.reduceLE, Int.reducePow, Int.reduceNeg, Nat.reducePow, List.cons.injEq, exists_eq_left', exists_eq_left, eq_self, if_false, if_true, ↓reduceIte, ite_not, forall_const, Option.bind_some, id_eq, Ak, xQ, uH])
local macro_rules | `(tactic| walk_at "om") => `(tactic| first | exact Nat.le_trans (by decide) (by assumption : 1000 <= sizeLine) | omega)
section
variable {pS : Addr} {ns : List Int} {P : Program} {w : World} {K : W.Frag} {mg : Str -> Option Value} {base : Heap} {a : Adr}
theorem szl : 1000 <= sizeLine := by rw [sizeLine_eq]; decide
theorem GT : 1000 < sizeLine := by rw [sizeLine_eq]; decide
theorem itp {c : Prop} [Decidable c] {t e : Prop} (h : c) (x : t) : ite c t e := by rw [if_pos h]; exact x
theorem itn {c : Prop} [Decidable c] {t e : Prop} (h : ¬ c) (x : e) : ite c t e := by rw [if_neg h]; exact x
def sp_pE : Sp := sp1 fun x H Q _ => NoT H /\ asK H x fun _ => Q (.bl (isI x)) H
theorem vH (T : Txt K mg a) : bv P w K mg base (XE P w) 1 a.kL a.pz ["thing"] sp_pE := by
 refine T.km.okG vA (fun vs H Q E h => sp1.len h) (fun cdv A outer s H vs Q E hr h => ?_)
 obtain ⟨x0, rfl, h⟩ := sp1.inv h
 try dsimp only [sp_pE, sp1] at h
 obtain ⟨hN, h1⟩ := h
 obtain ⟨t, ht, hb, k⟩ := asK.inv h1
 refine ⟨hN, _, (ao (aC (d8 (aE (bC K) rfl T.aK aI (FA.pa (aa (fv 0) (aa (cE (v := .ty "int") rfl T.yO ur rfl) ae)))) (iQ (zZ (aE (bC K) rfl T.aK aI (FA.pa (aa (fv 0) (aa (cE (v := .ty "bool") rfl T.Bk yl rfl) ae))))))))), ?_⟩
 walk_at "rd"
 simp only [ht]
 rw [<- Bz ht] at k
 rcases hb with rfl | rfl | rfl | rfl | rfl | rfl | rfl
 all_goals first
  | exact F6 k
  | exact An k
def amg (x : V) (lo hi : Int) : Bool := match x with
 | .int i => decide (lo <= i) && decide (i <= hi)
 | _ => false
theorem CM {x : V} {lo hi : Int} (h : isI x = false) : amg x lo hi = false := by
 unfold amg
 split
 ·cases h
 ·rfl
def sp_pL : Sp := sp3 fun x y z H Q _ => NoT H /\ asI y fun lo => asI z fun hi => asK H x fun _ => Q (.bl (amg x lo hi)) H
theorem g9 (T : Txt K mg a) : bv P w K mg base (XE P w) 2 a.lj a.pv ["thing", "least", "most"] sp_pL := by
 refine T.cK.okG vi (fun vs H Q E h => sp3.len h) (fun cdv A outer s H vs Q E hr h => ?_)
 obtain ⟨x0, x1, x2, rfl, h⟩ := sp3.inv h
 try dsimp only [sp_pL, sp3] at h
 obtain ⟨hN, h1⟩ := h
 obtain ⟨lo, rfl, h2⟩ := asI.inv h1
 obtain ⟨hi, rfl, h3⟩ := asI.inv h2
 obtain ⟨t, ht, hb, k⟩ := asK.inv h3
 have G_is_whole := @vH P w K mg base a T
 have b_is_whole := v8 T.km
 refine ⟨hN, _, (ao (aC (d8 (ar G_is_whole (hr.mono (by decide)) rfl T.xK T.km.kp b_is_whole .nil aL (FA.pa (aa (fv 0) ae))) (iQ (rV mB mB (fv 1) (fv 0) (fv 2)))))), ?_⟩
 walk_at "rd"
 refine ⟨hN, asK.of ht ?_⟩
 cases e : isI x0 with
 | false =>
  rw [CM e] at k
  exact An k
 | true =>
  cases x0 with
  | int i =>
   refine F6 ?_
   walk_at "rd"
   split
   ·rename_i h1
    have e : amg (.int i) lo hi = decide (i <= hi) := by simp [amg, h1]
    rw [e] at k; exact k
   ·rename_i h1
    have e : amg (.int i) lo hi = false := by simp [amg, h1]
    rw [e] at k; exact k
  | _ => cases e
theorem qH {x : V} {lo hi : Int} (h : amg x lo hi = true) : ∃ i, x = .int i /\ lo <= i /\ i <= hi := by
 unfold amg at h
 split at h
 ·rename_i i; simp at h; exact ⟨i, rfl, h.1, h.2⟩
 ·cases h
def sp_tH : Sp := sp1 fun x H Q _ => NoT H /\ asK H x fun _ => Q (.bl (amg x 0 146096)) H
theorem zr (T : Txt K mg a) : bv P w K mg base (XE P w) 3 a.rP a.tB ["thing"] sp_tH := by
 refine T.rz.okG zo (fun vs H Q E h => sp1.len h) (fun cdv A outer s H vs Q E hr h => ?_)
 obtain ⟨x0, rfl, h⟩ := sp1.inv h
 try dsimp only [sp_tH, sp1] at h
 obtain ⟨hN, h1⟩ := h
 have G_is_among := @g9 P w K mg base a T
 have b_is_among := h8 T.cK
 refine ⟨hN, _, (ao (aC (ar G_is_among (hr.mono (by decide)) rfl T.gp T.cK.kp b_is_among .nil aL (FA.pa (aa (fv 0) (aa ac (aa ac ae))))))), ?_⟩
 walk_at "rd"
 exact ⟨hN, h1⟩
theorem Eu (a b : Nat) : leN [a] [b] = decide (a <= b) := by
 unfold leN
 have h : ([b] < [a]) ↔ b < a := by
  rw [List.cons_lt_cons_iff]; simp
 rw [decide_eq_decide.mpr h]
 by_cases h2 : b < a
 ·rw [decide_eq_true h2, decide_eq_false (by walk_at "om")]; rfl
 ·rw [decide_eq_false h2, decide_eq_true (by walk_at "om")]; rfl
local macro_rules | `(tactic| walk_at "rd") => `(tactic| try simp only [Aj, rdI, V.int.injEq, V.ref.injEq, yf, Bs, yb, yh, Bj, AK, AU, Bn, BE, L2.fo, List.map_cons, List.map_nil, List.cons_append, List.nil_append, List.append_nil, List.length_cons, List.length_nil, List.replicate, List.getElem?_cons_zero, List.getElem?_cons_succ, List.set_cons_zero, List.set_cons_succ, Nat.reduceSub, Nat.reduceAdd, Int.reduceLT, Int.reduceLE, Int.reducePow, Int.reduceNeg, Nat.reducePow, List.cons.injEq, exists_eq_left', exists_eq_left, eq_self, if_false, if_true, ↓reduceIte, ite_not, forall_const, Option.bind_some, id_eq, Ak, xQ, uH, Eu])
def ok (l : List Nat) : Prop := (∀ c ∈ l, c < 128) /\ l.length <= 1000
theorem qG {l : List Nat} (h : ok l) : l.length <= sizeLine := Nat.le_trans h.2 (by rw [sizeLine_eq]; decide)
def lie (l : List Nat) (a b : Nat) : Bool := l.all fun c => decide (a <= c) && decide (c <= b)
def sp_lu : Sp := sp3 fun x y z H Q _ => NoT H /\ asT x fun l => asT y fun lo => asT z fun hi => ok l /\ ∃ a b, lo = [a] /\ hi = [b] /\ Q (.bl (lie l a b)) H
theorem iU (T : Txt K mg a) : bv P w K mg base (XE P w) 1 a.js a.nn ["text", "least", "most"] sp_lu := by
 refine T.dm.okG uE (fun vs H Q E h => sp3.len h) (fun cdv A outer s H vs Q E hr h => ?_)
 obtain ⟨x0, x1, x2, rfl, h⟩ := sp3.inv h
 try dsimp only [sp_lu, sp3] at h
 obtain ⟨hN, h1⟩ := h
 obtain ⟨l, rfl, h2⟩ := asT.inv h1
 obtain ⟨lo, rfl, h3⟩ := asT.inv h2
 obtain ⟨hi, rfl, hl, a, b, rfl, rfl, k⟩ := asT.inv h3
 refine ⟨hN, _, (ao (aC (aE (B8 K rfl) rfl T.Fl DT (FA.pa (aa (dE rfl (cl := _) (x := "sign") (xs := ["sign"]) (fr := ["least", "most"]) (ks := [1, 2]) (by exact ⟨rfl, by decide +kernel, rfl, by decide +kernel, rfl, dA rfl, rfl, bb rfl, bb (k := fun y => List.lookup y _) rfl, dB rfl⟩) rfl (DW (fv 0)) (fun _ _ _ _ _ => (aS (i := 0) (iA (l := ["sign", "least", "most"]) (by decide)) rfl (Or.inl rfl))) (fun _ _ _ _ _ => iX) (fun _ _ _ _ _ => (rV mB mB (fv 1) (fv 0) (fv 2)))) ae))))), ?_⟩
 walk_at "rd"
 refine cmS (fun _ => True) (fun _ _ _ => trivial) l (fun _ => true) (fun c => .bl (decide (a <= c) && decide (c <= b))) (fun R r => r) hl.1 (qG hl) (fun c _ H R _ r => r) (fun c _ _ H R _ r => ?_) (fun D hD => ?_)
 ·walk_at "rd"
  by_cases h1 : a <= c
  ·simp only [h1, decide_true, Bool.true_and] at r ⊢
   exact r
  ·simp only [h1, decide_false, Bool.false_and] at r ⊢
   exact r
 ·refine ⟨l.map fun c => decide (a <= c) && decide (c <= b), SqL.of (by rw [ai, List.filter_eq_self.mpr (by simp), List.map_map]; rfl), H, Gc.none (ak _ hD), ?_⟩
  have e : (l.map fun c => decide (a <= c) && decide (c <= b)).all id = lie l a b := by
   rw [List.all_map]; rfl
  rw [e]; exact k
theorem jX {H : Hp} {x : V} {t : String} (ht : bi H x = some t) (h : ¬ ∃ l, x = .str ⟨⟨l⟩⟩) : cp t "str" = false := by
 unfold bi at ht
 split at ht
 case h_4 y => exact absurd ⟨y.cps.toList, rfl⟩ h
 case h_5 => split at ht <;> cases ht <;> decide
 all_goals (cases ht <;> decide)
def okV (x : V) : Prop := ∀ l, x = .str ⟨⟨l⟩⟩ -> ok l
def nm (l : List Nat) : Bool := decide (1 <= l.length) && decide (l.length <= 12) && lie l 97 122
def nameV : V -> Bool
 | .str y => nm (cs y)
 | _ => false
def sp_rG : Sp := sp1 fun x H Q _ => NoT H /\ okV x /\ asK H x fun _ => Q (.bl (nameV x)) H
theorem xE (T : Txt K mg a) : bv P w K mg base (XE P w) 2 a.oU a.qV ["thing"] sp_rG := by
 refine T.oE.okG xj (fun vs H Q E h => sp1.len h) (fun cdv A outer s H vs Q E hr h => ?_)
 obtain ⟨x0, rfl, h⟩ := sp1.inv h
 try dsimp only [sp_rG, sp1] at h
 obtain ⟨hN, ho, h1⟩ := h
 obtain ⟨t, ht, hb, k⟩ := asK.inv h1
 have G_signs_lie := @iU P w K mg base a T
 have b_signs_lie := iT T.dm
 refine ⟨hN, _, (ao (aC (d8 (aE (bC K) rfl T.aK aI (FA.pa (aa (fv 0) (aa (cE (v := .ty "str") rfl T.tP nE rfl) ae)))) (d8 (rV mB mB ac (aE (e7 K) rfl T.kb ig (FA.pa (aa (fv 0) ae))) ac) (iQ (ar G_signs_lie (hr.mono (by decide)) rfl T.jI T.dm.kp b_signs_lie .nil aL (FA.pa (aa (fv 0) (aa (aB [97]) (aa (aB [122]) ae)))))))))), ?_⟩
 by_cases hx : ∃ l, x0 = .str ⟨⟨l⟩⟩
 ·obtain ⟨l, rfl⟩ := hx
  have hl := ho l rfl
  have k' : Q (.bl (nm l)) H := k
  cases ht
  walk_at "rd"
  refine ⟨qG hl, ?_⟩
  split
  ·rename_i h1
   split
   ·rename_i h2
    have e : nm l = lie l 97 122 := by
     unfold nm; rw [decide_eq_true (by walk_at "om"), decide_eq_true (by walk_at "om")]; rfl
    rw [e] at k'
    exact ⟨hN, hl, 97, 122, rfl, rfl, k'⟩
   ·rename_i h2
    have e : nm l = false := by
     unfold nm; rw [decide_eq_false (by walk_at "om" : ¬ l.length <= 12)]; simp
    rw [e] at k'; exact k'
  ·rename_i h1
   have e : nm l = false := by
    unfold nm; rw [decide_eq_false (by walk_at "om" : ¬ 1 <= l.length)]; simp
   rw [e] at k'; exact k'
 ·have e := jX ht hx
  have e2 : nameV x0 = false := by
   cases x0 with
   | str y => exact absurd ⟨y.cps.toList, rfl⟩ hx
   | _ => rfl
  rw [e2] at k
  walk_at "rd"
  simp only [ht]
  rw [e]
  exact An k
def cur (l : List Nat) : Bool := decide (l.length = 3) && lie l 65 90
def sy : V -> Bool
 | .str y => cur (cs y)
 | _ => false
theorem AR {x : V} (h : ¬ ∃ l, x = .str ⟨⟨l⟩⟩) : sy x = false := by
 cases x with
 | str y => exact absurd ⟨y.cps.toList, rfl⟩ h
 | _ => rfl
def sp_tD : Sp := sp1 fun x H Q _ => NoT H /\ okV x /\ asK H x fun _ => Q (.bl (sy x)) H
theorem rm (T : Txt K mg a) : bv P w K mg base (XE P w) 2 a.ic a.jn ["thing"] sp_tD := by
 refine T.ie.okG rn (fun vs H Q E h => sp1.len h) (fun cdv A outer s H vs Q E hr h => ?_)
 obtain ⟨x0, rfl, h⟩ := sp1.inv h
 try dsimp only [sp_tD, sp1] at h
 have HU := bJ hr
 obtain ⟨hN, ho, h1⟩ := h
 obtain ⟨t, ht, hb, k⟩ := asK.inv h1
 have G_signs_lie := @iU P w K mg base a T
 have b_signs_lie := iT T.dm
 refine ⟨hN, _, (ao (aC (d8 (aE (bC K) rfl T.aK aI (FA.pa (aa (fv 0) (aa (cE (v := .ty "str") rfl T.tP nE rfl) ae)))) (d8 (dM (bp K HU) (aE (e7 K) rfl T.kb ig (FA.pa (aa (fv 0) ae))) ac (aQ _)) (iQ (ar G_signs_lie (hr.mono (by decide)) rfl T.jI T.dm.kp b_signs_lie .nil aL (FA.pa (aa (fv 0) (aa (aB [65]) (aa (aB [90]) ae)))))))))), ?_⟩
 by_cases hs : ∃ l, x0 = .str ⟨⟨l⟩⟩
 ·obtain ⟨l, rfl⟩ := hs
  have hl := ho l rfl
  have k' : Q (.bl (cur l)) H := k
  unfold cur at k'
  walk_at "rd"
  refine ⟨qG hl, ?_⟩
  split
  ·rename_i h1
   rw [decide_eq_true (by omega : l.length = 3)] at k'
   exact ⟨hN, hl, 65, 90, rfl, rfl, k'⟩
  ·rename_i h1
   rw [decide_eq_false (by omega : ¬ l.length = 3)] at k'
   exact k'
 ·rw [AR hs] at k
  walk_at "rd"
  simp only [ht, jX ht hs]
  first | exact k | exact An k
theorem w_ {l : List Nat} (h : nm l = true) : 1 <= l.length /\ l.length <= 12 /\ ∀ c ∈ l, 97 <= c /\ c <= 122 := by
 unfold nm lie at h
 simp only [Bool.and_eq_true, decide_eq_true_eq, List.all_eq_true] at h
 exact ⟨h.1.1, h.1.2, fun c hc => h.2 c hc⟩
def nt (l : List Nat) : Bool := decide (l.length <= 40) && (!rC l [32] && (decide (l.getLast? ≠ some 32) && lie l 32 126))
def ntV : V -> Bool
 | .str y => nt (cs y)
 | _ => false
theorem BW {x : V} (h : ¬ ∃ l, x = .str ⟨⟨l⟩⟩) : ntV x = false := by
 cases x with
 | str y => exact absurd ⟨y.cps.toList, rfl⟩ h
 | _ => rfl
def sp_qM : Sp := sp1 fun x H Q _ => NoT H /\ okV x /\ asK H x fun _ => Q (.bl (ntV x)) H
theorem xU (T : Txt K mg a) : bv P w K mg base (XE P w) 2 a.nY a.rZ ["thing"] sp_qM := by
 refine T.nV.okG xF (fun vs H Q E h => sp1.len h) (fun cdv A outer s H vs Q E hr h => ?_)
 obtain ⟨x0, rfl, h⟩ := sp1.inv h
 try dsimp only [sp_qM, sp1] at h
 obtain ⟨hN, ho, h1⟩ := h
 obtain ⟨t, ht, hb, k⟩ := asK.inv h1
 have G_signs_lie := @iU P w K mg base a T
 have b_signs_lie := iT T.dm
 refine ⟨hN, _, (ah (ba (L2.PW.pt (il (bI (bA (aE (bC K) rfl T.aK aI (FA.pa (aa (fv 0) (aa (cE (v := .ty "str") rfl T.tP nE rfl) ae)))))) (eE (aU yG (aE (e7 K) rfl T.kb ig (FA.pa (aa (fv 0) ae))) ac (aQ _))))) (ao (aC cL)) aJ)
  (ah (ba (L2.PW.pt (il (bA (eh K PySem.F.plainAttrs_str PySem.F.slot_str_startswith PySem.F.type_str_startswith rO (fv 0) (FA.pa (aa (aB [32]) ae)))) (eE (bA (eh K PySem.F.plainAttrs_str PySem.F.slot_str_endswith PySem.F.type_str_endswith vh (fv 0) (FA.pa (aa (aB [32]) ae))))))) (ao (aC cL)) aJ)
  (ao (aC (ar G_signs_lie (hr.mono (by decide)) rfl T.jI T.dm.kp b_signs_lie .nil aL (FA.pa (aa (fv 0) (aa (aB [32]) (aa (aB [126]) ae))))))))), ?_⟩
 by_cases hs : ∃ l, x0 = .str ⟨⟨l⟩⟩
 ·obtain ⟨l, rfl⟩ := hs
  have hl := ho l rfl
  walk_at "rd"
  have k' : Q (.bl (nt l)) H := k
  unfold nt at k'
  refine ⟨qG hl, ?_⟩
  by_cases h1 : l.length <= 40
  ·rw [decide_eq_true h1] at k'
   refine itn (by omega) ?_
   cases h2 : rC l [32] with
   | true => rw [h2] at k'; exact itp rfl k'
   | false =>
    rw [h2] at k'
    refine itn (by decide) ?_
    by_cases h3 : l.getLast? = some 32
    ·rw [decide_eq_false (fun z => z h3 : ¬ l.getLast? ≠ some 32)] at k'
     exact itp (decide_eq_true h3) k'
    ·rw [decide_eq_true h3] at k'
     exact itn (fun z => h3 (of_decide_eq_true z)) ⟨hN, hl, 32, 126, rfl, rfl, k'⟩
  ·rw [decide_eq_false h1] at k'
   exact itp (by omega) k'
 ·rw [BW hs] at k
  walk_at "rd"
  simp only [ht, jX ht hs]
  first | exact k | exact An k | exact Dt k
def sp_nh : Sp := sp1 fun x H Q _ => NoT H /\ asK H x fun _ => Q (.bl (amg x (-1000000000000000) 1000000000000000)) H
theorem uY (T : Txt K mg a) : bv P w K mg base (XE P w) 3 a.jr a.lC ["thing"] sp_nh := by
 refine T.jF.okG uk (fun vs H Q E h => sp1.len h) (fun cdv A outer s H vs Q E hr h => ?_)
 obtain ⟨x0, rfl, h⟩ := sp1.inv h
 try dsimp only [sp_nh, sp1] at h
 obtain ⟨hN, h1⟩ := h
 have G_is_among := @g9 P w K mg base a T
 have b_is_among := h8 T.cK
 refine ⟨hN, _, (ao (aC (ar G_is_among (hr.mono (by decide)) rfl T.gp T.cK.kp b_is_among .nil aL (FA.pa (aa (fv 0) (aa (r9 kW (ap um ac ac)) (aa (ap um ac ac) ae))))))), ?_⟩
 walk_at "rd"
 have e15 : (10 : Int) ^ Int.toNat 15 = 1000000000000000 := by decide +kernel
 rw [e15]
 exact ⟨by decide, by decide, hN, h1⟩
open K3
def sp_pC : Sp := sp1 fun x H Q _ => NoT H /\ asK H x fun _ => Q (.bl (amg x 0 4799)) H
theorem pk (T : Txt K mg a) : bv P w K mg base (XE P w) 3 a.k9 a.pW ["thing"] sp_pC := by
 refine T.gN.okG vG (fun vs H Q E h => sp1.len h) (fun cdv A outer s H vs Q E hr h => ?_)
 obtain ⟨x0, rfl, h⟩ := sp1.inv h
 try dsimp only [sp_pC, sp1] at h
 obtain ⟨hN, h1⟩ := h
 have G_is_among := @g9 P w K mg base a T
 have b_is_among := h8 T.cK
 refine ⟨hN, _, (ao (aC (ar G_is_among (hr.mono (by decide)) rfl T.gp T.cK.kp b_is_among .nil aL (FA.pa (aa (fv 0) (aa ac (aa ac ae))))))), ?_⟩
 walk_at "rd"
 exact ⟨hN, h1⟩
def sp_lL : Sp := sp1 fun x H Q _ => asI x fun y => NoT H /\ Q (.int (LD y)) H
theorem uN (T : Txt K mg a) : bv P w K mg base (XE P w) 1 a.jk a.mR ["years"] sp_lL := by
 refine T.gW.okG ul (fun vs H Q E h => sp1.len h) (fun cdv A outer s H vs Q E hr h => ?_)
 obtain ⟨x0, rfl, h⟩ := sp1.inv h
 try dsimp only [sp_lL, sp1] at h
 obtain ⟨y, rfl, hN, k⟩ := asI.inv h
 refine ⟨hN, _, (ao (aC (ap aO (ap gv (ap aY (ap aO (fv 0) ac) ac) (ap aY (ap aO (fv 0) ac) ac)) (ap aY (ap aO (fv 0) ac) ac)))), ?_⟩
 walk_at "rd"
 exact k
theorem vz (xs : List V) {i : Int} (h : 0 <= i) : fX xs none (some i) = xs.take i.toNat := by
 unfold fX
 have e : i = ((i.toNat : Nat) : Int) := by omega
 rw [e, HT.sIx_none, HT.sIx_nat, List.drop_zero, Nat.sub_zero]
 by_cases hl : i.toNat <= xs.length
 ·rw [Nat.min_eq_left hl]; rfl
 ·rw [Nat.min_eq_right (by omega), List.take_of_length_le (by omega), List.take_of_length_le (by simp; omega)]
def LEN : List Int := [31, 28, 31, 30, 31, 30, 31, 31, 30, 31, 30, 31]
theorem Aa {i : Int} (h0 : 0 <= i) (h1 : i < 12) : (LEN.take i.toNat).sum = S i := by
 have hc : i = 0 \/ i = 1 \/ i = 2 \/ i = 3 \/ i = 4 \/ i = 5 \/ i = 6 \/ i = 7 \/ i = 8 \/ i = 9 \/ i = 10 \/ i = 11 := by omega
 rcases hc with h | h | h | h | h | h | h | h | h | h | h | h <;> subst h <;> decide
theorem Fp (T : Txt K mg a) (H : Hp) : SqT K H a.dX (LEN.map V.int) := .inr T.dX
def sp_mV : Sp := sp1 fun x H Q _ => asI x fun m => NoT H /\ Q (.int (FD m)) H
theorem iY (T : Txt K mg a) : bv P w K mg base (XE P w) 2 a.jw a.lP ["month"] sp_mV := by
 refine T.cQ.okG mL (fun vs H Q E h => sp1.len h) (fun cdv A outer s H vs Q E hr h => ?_)
 obtain ⟨x0, rfl, h⟩ := sp1.inv h
 try dsimp only [sp_mV, sp1] at h
 have ND := mL.nd
 obtain ⟨m, rfl, hN, k⟩ := asI.inv h
 have G_leap_days := @uN P w K mg base a T
 have b_leap_days := uA T.gW
 refine ⟨hN, _, (ah (aD (i := 1) ND rfl (Or.inl rfl) (ap aY (fv 0) ac))
  (ah (aD (i := 2) ND rfl (Or.inl rfl) (ap aW (fv 0) ac))
  (ah (aD (i := 3) ND rfl (Or.inl rfl) (A7 (aU yG (fv 2) ac (aQ _)) (ar G_leap_days (hr.mono (by decide)) rfl T.pq T.gW.kp b_leap_days .nil aL (FA.pa (aa (ap aO (fv 1) ac) ae))) (ar G_leap_days (hr.mono (by decide)) rfl T.pq T.gW.kp b_leap_days .nil aL (FA.pa (aa (fv 1) ae)))))
  (ao (aC (ap aO (ap aO (ap dD ac (fv 1)) (fv 3)) (aE (Cc K rfl) rfl T.Gm E4 (FA.pa (aa (d6 (qF K) (hJ (v := .ref a.dX) rfl T.zL rfl) iV (dZ (fv 2))) ae))))))))), ?_⟩
 walk_at "rd"
 have b0 : 0 <= m % 12 := Int.emod_nonneg _ (by decide)
 have b1 : m % 12 < 12 := Int.emod_lt_of_pos _ (by decide)
 have nw : ¬ (HT.sIx (LEN.map V.int).length 0 none = 0 /\ HT.sIx (LEN.map V.int).length (LEN.map V.int).length (some (m % 12)) = (LEN.map V.int).length) := fun ⟨_, z⟩ => by
  have e : m % 12 = (((m % 12).toNat : Nat) : Int) := by omega
  rw [e, HT.sIx_nat] at z
  have l : (LEN.map V.int).length = 12 := rfl
  rw [l] at z
  omega
 have fin : ∀ (p : Addr), (upd H p (.tup (fX (LEN.map V.int) none (some (m % 12))))) p = some (.tup ((LEN.take (m % 12).toNat).map V.int)) := fun p => by
  rw [ai, vz _ b0, List.map_take]
 split
 ·rename_i h1
  refine ⟨hN, a.dX, _, rfl, Fp T _, nw, fun p hp => ⟨LEN.take (m % 12).toNat, .inr (SqT.of (fin p)), H, Gc.none (ak _ hp), ?_⟩⟩
  have e : 365 * (m / 12) + LD (m / 12 + 1) + (LEN.take (m % 12).toNat).sum = FD m := by
   rw [Aa b0 b1]; unfold FD; rw [if_pos h1]
  rw [e]; exact k
 ·rename_i h1
  refine ⟨hN, a.dX, _, rfl, Fp T _, nw, fun p hp => ⟨LEN.take (m % 12).toNat, .inr (SqT.of (fin p)), H, Gc.none (ak _ hp), ?_⟩⟩
  have e : 365 * (m / 12) + LD (m / 12) + (LEN.take (m % 12).toNat).sum = FD m := by
   rw [Aa b0 b1]; unfold FD; rw [if_neg h1]
  rw [e]; exact k
def sp_pK : Sp := sp1 fun x H Q _ => asI x fun m => NoT H /\ Q (.int (FD (m + 1) - 1)) H
theorem pM (T : Txt K mg a) : bv P w K mg base (XE P w) 3 a.ki a.pO ["month"] sp_pK := by
 refine T.gL.okG vI (fun vs H Q E h => sp1.len h) (fun cdv A outer s H vs Q E hr h => ?_)
 obtain ⟨x0, rfl, h⟩ := sp1.inv h
 try dsimp only [sp_pK, sp1] at h
 obtain ⟨m, rfl, hN, k⟩ := asI.inv h
 have G_first_day := @iY P w K mg base a T
 have b_first_day := iZ T.cQ
 refine ⟨hN, _, (ao (aC (ap gv (ar G_first_day (hr.mono (by decide)) rfl T.gR T.cQ.kp b_first_day .nil aL (FA.pa (aa (ap aO (fv 0) ac) ae))) ac))), ?_⟩
 walk_at "rd"
 exact ⟨hN, k⟩
def sp_pF : Sp := sp1 fun x H Q _ => asI x fun d => NoT H /\ (0 <= d /\ d <= 146096) /\ Q (.int (MO d)) H
theorem pw (T : Txt K mg a) : bv P w K mg base (XE P w) 4 a.ko a.pU ["day"] sp_pF := by
 refine T.gK.okG pP (fun vs H Q E h => sp1.len h) (fun cdv A outer s H vs Q E hr h => ?_)
 obtain ⟨x0, rfl, h⟩ := sp1.inv h
 try dsimp only [sp_pF, sp1] at h
 have ND := pP.nd
 obtain ⟨d, rfl, hN, ⟨d0, d1⟩, k⟩ := asI.inv h
 have G_last_day := @pM P w K mg base a T
 have b_last_day := pA T.gL
 have G_first_day := @iY P w K mg base a T
 have b_first_day := iZ T.cQ
 refine ⟨hN, _, (ah (aD (i := 1) ND rfl (Or.inl rfl) (ap aY (ap dD (fv 0) ac) ac))
  (ah (vy (by passes_own) (aU yG (ar G_first_day (hr.mono (by decide)) rfl T.gR T.cQ.kp b_first_day .nil aL (FA.pa (aa (fv 1) ae))) (fv 0) (aQ _)) (ao (aD (i := 1) ND rfl (Or.inl rfl) (ap gv (fv 1) ac))))
  (ah (vy (by passes_own) (aU y8 (ar G_last_day (hr.mono (by decide)) rfl T.rL T.gL.kp b_last_day .nil aL (FA.pa (aa (fv 1) ae))) (fv 0) (aQ _)) (ao (aD (i := 1) ND rfl (Or.inl rfl) (ap aO (fv 1) ac))))
  (ao (aC (fv 1)))))), ?_⟩
 walk_at "rd"
 refine ⟨fun n σ H1 => ∃ m, σ = [some (.int d), some (.int m)] /\ H = H1 /\ 0 <= m /\ m <= 4799 /\ n = m.toNat, ⟨_, _, rfl, rfl, by omega, by omega, rfl⟩, ?_⟩
 rintro n σ H1 ⟨m, rfl, rfl, m0, m1, rfl⟩
 walk_at "rd"
 refine ⟨hN, ?_⟩
 split
 ·rename_i h2
  have hm : 1 <= m := by
   by_cases z : m = 0
   ·rw [z, DJ] at h2; omega
   ·omega
  refine ⟨_, fun σ' H' z => z, (m - 1).toNat, by omega, m - 1, rfl, rfl, by omega, by omega, rfl⟩
 ·rename_i h2
  refine ⟨fun n σ H1 => ∃ m, σ = [some (.int d), some (.int m)] /\ H = H1 /\ 0 <= m /\ m <= 4799 /\ FD m <= d /\ n = (4800 - m).toNat, ⟨_, _, rfl, rfl, m0, m1, by omega, rfl⟩, ?_⟩
  rintro n σ H1 ⟨m', rfl, rfl, m0', m1', h3, rfl⟩
  walk_at "rd"
  refine ⟨hN, ?_⟩
  split
  ·rename_i h4
   have hm : m' + 1 <= 4799 := by
    by_cases z : m' = 4799
    ·rw [z] at h4
     have e : (4799 : Int) + 1 = 4800 := by decide
     rw [e, xO] at h4; omega
    ·omega
   exact ⟨_, fun σ' H' z => z, (4800 - (m' + 1)).toNat, by omega, m' + 1, rfl, rfl, by omega, hm, by omega, rfl⟩
  ·rename_i h4
   rw [wa h3 (by omega)] at k
   exact k
def sp_qQ (c : Addr) : Sp := sp2 fun x y H Q E => asI x fun d => asI y fun n => NoT H /\ (0 <= d /\ d <= 146096) /\ if 0 <= MO d + n /\ MO d + n <= 4799 then Q (.int (nR d n)) H else E (.ref c) none H
theorem xD (T : Txt K mg a) : bv P w K mg base (XE P w) 5 a.nN a.qO ["day", "months"] (sp_qQ a.be) := by
 refine T.nK.okG rK (fun vs H Q E h => sp2.len h) (fun cdv A outer s H vs Q E hr h => ?_)
 obtain ⟨x0, x1, rfl, h⟩ := sp2.inv h
 try dsimp only [sp_qQ, sp2] at h
 have ND := rK.nd
 obtain ⟨d, rfl, h1⟩ := asI.inv h
 obtain ⟨n, rfl, hN, hd, k⟩ := asI.inv h1
 have G_last_day := @pM P w K mg base a T
 have b_last_day := pA T.gL
 have G_first_day := @iY P w K mg base a T
 have b_first_day := iZ T.cQ
 have G_is_month := @pk P w K mg base a T
 have b_is_month := pJ T.gN
 have G_month_of := @pw P w K mg base a T
 have b_month_of := pN T.gK
 refine ⟨hN, _, (ah (aD (i := 2) ND rfl (Or.inl rfl) (ar G_month_of (hr.mono (by decide)) rfl T.r_ T.gK.kp b_month_of .nil aL (FA.pa (aa (fv 0) ae))))
  (ah (aD (i := 3) ND rfl (Or.inl rfl) (ap gv (fv 0) (ar G_first_day (hr.mono (by decide)) rfl T.gR T.cQ.kp b_first_day .nil aL (FA.pa (aa (fv 2) ae)))))
  (ah (aD (i := 4) ND rfl (Or.inl rfl) (ap aO (fv 2) (fv 1)))
  (ah (ba (bI (bA (ar G_is_month (hr.mono (by decide)) rfl T.rN T.gN.kp b_is_month .nil aL (FA.pa (aa (fv 4) ae))))) (ao (d4 T.vE PySem.F.excBase_ValueError rfl rfl T.rM fS (FA.pa (aa (aB [116, 104, 101, 114, 101, 32, 105, 115, 32, 110, 111, 32, 115, 117, 99, 104, 32, 109, 111, 110, 116, 104]) ae)))) aJ)
  (ao (aC (aE (nQ rfl) rfl T.qL kK (FA.pa (aa (ap aO (ar G_first_day (hr.mono (by decide)) rfl T.gR T.cQ.kp b_first_day .nil aL (FA.pa (aa (fv 4) ae))) (fv 3)) (aa (ar G_last_day (hr.mono (by decide)) rfl T.rL T.gL.kp b_last_day .nil aL (FA.pa (aa (fv 4) ae))) ae)))))))))), ?_⟩
 walk_at "rd"
 refine ⟨hN, hd, hN, hN, ?_⟩
 by_cases hin : 0 <= MO d + n /\ MO d + n <= 4799
 ·rw [if_pos hin] at k
  have e : amg (.int (MO d + n)) 0 4799 = true := by simp [amg, hin.1, hin.2]
  rw [e]
  exact Gn ⟨hN, hN, k⟩
 ·rw [if_neg hin] at k
  have e : amg (.int (MO d + n)) 0 4799 = false := by
   simp only [amg, Bool.and_eq_false_iff, decide_eq_false_iff_not]; omega
  rw [e]
  exact Dt ⟨by show 1 <= sizeLine; decide, k⟩
open K3
def Kd (H : Hp) (x : V) : Prop := ∃ t, bi H x = some t
def rwL : List V -> Bool
 | [.str _, c, m] => sy c && amg m (-1000000000000000) 1000000000000000 && !eqV m (.int 0)
 | _ => false
def RwX (H : Hp) (x : V) : Prop := Kd H x /\ ∀ q xs, x = .ref q -> H q = some (.tup xs) -> xs.length <= 10 /\ ∀ y ∈ xs, okV y /\ Kd H y /\ cC y = true
def rwV (H : Hp) : V -> Bool
 | .ref q => (match H q with
  | some (.tup xs) => rwL xs
  | _ => false)
 | _ => false
def sp_s_ : Sp := sp1 fun x H Q _ => NoT H /\ RwX H x /\ Q (.bl (rwV H x)) H
theorem zg (T : Txt K mg a) : bv P w K mg base (XE P w) 4 a.sh a.sY ["thing"] sp_s_ := by
 refine T.rB.okG zN (fun vs H Q E h => sp1.len h) (fun cdv A outer s H vs Q E hr h => ?_)
 obtain ⟨x0, rfl, h⟩ := sp1.inv h
 try dsimp only [sp_s_, sp1] at h
 have HU := bJ hr
 obtain ⟨hN, ⟨⟨t, ht⟩, hx⟩, k⟩ := h
 have sz := szl
 have G_is_currency := @rm P w K mg base a T
 have b_is_currency := rD T.ie
 have G_is_amount := @uY P w K mg base a T
 have b_is_amount := t_ T.jF
 refine ⟨hN, _, (ah (ba (L2.PW.pt (il (bI (bA (aE (bC K) rfl T.aK aI (FA.pa (aa (fv 0) (aa (cE (v := .ty "tuple") rfl T.j3 iJ rfl) ae)))))) (eE (aU (eW K HU) (aE (e7 K) rfl T.kb ig (FA.pa (aa (fv 0) ae))) ac (aQ _))))) (ao (aC cL)) aJ)
  (ao (aC (d8 (aE (bC K) rfl T.aK aI (FA.pa (aa (aP (aw K) (fv 0) ac (fun _ _ => rfl)) (aa (cE (v := .ty "str") rfl T.tP nE rfl) ae)))) (d8 (ar G_is_currency (hr.mono (by decide)) rfl T.sk T.ie.kp b_is_currency .nil aL (FA.pa (aa (aP (aw K) (fv 0) ac (fun _ _ => rfl)) ae))) (d8 (ar G_is_amount (hr.mono (by decide)) rfl T.wH T.jF.kp b_is_amount .nil aL (FA.pa (aa (aP (aw K) (fv 0) ac (fun _ _ => rfl)) ae))) (iQ (dM (eW K HU) (aP (aw K) (fv 0) ac (fun _ _ => rfl)) ac (aQ _))))))))), ?_⟩
 by_cases hT : ∃ q xs, x0 = .ref q /\ H q = some (.tup xs)
 ·obtain ⟨q, xs, rfl, hq⟩ := hT
  obtain ⟨lx, hy⟩ := hx q xs rfl hq
  have et : bi H (.ref q) = some "tuple" := by simp [bi, hq]
  have ev : rwV H (.ref q) = rwL xs := by unfold rwV; simp only [hq]
  rw [ev] at k
  have hS := SqT.of (K := K) hq
  walk_at "rd"
  simp only [et]
  refine itn (by decide) ⟨_, .inr hS, ?_⟩
  by_cases l3 : xs.length = 3
  ·obtain ⟨x, y, z, rfl⟩ := ex3 l3
   obtain ⟨ox, ⟨tx, kx⟩, fx⟩ := hy x (by simp)
   obtain ⟨oy, ⟨ty, ky⟩, fy⟩ := hy y (by simp)
   obtain ⟨oz, ⟨tz, kz⟩, fz⟩ := hy z (by simp)
   refine itp rfl ⟨_, _, .inr hS, aH (j := 0) rfl, ?_⟩
   simp only [kx]
   by_cases hs : ∃ l, x = .str ⟨⟨l⟩⟩
   ·obtain ⟨l, rfl⟩ := hs
    cases kx
    refine itp rfl ⟨_, _, .inr hS, aH (j := 1) rfl, hN, oy, asK.of ky ?_⟩
    have e1 : rwL [.str ⟨⟨l⟩⟩, y, z] = (sy y && amg z (-1000000000000000) 1000000000000000 && !eqV z (.int 0)) := rfl
    rw [e1] at k
    cases h1 : sy y with
    | false => rw [h1] at k; exact itn (by decide) k
    | true =>
     rw [h1] at k
     refine itp rfl ⟨_, _, .inr hS, aH (j := 2) rfl, hN, asK.of kz ?_⟩
     cases h2 : amg z (-1000000000000000) 1000000000000000 with
     | false => rw [h2] at k; exact itn (by decide) k
     | true =>
      rw [h2] at k
      obtain ⟨i, rfl, _, _⟩ := qH h2
      refine itp rfl ⟨_, _, .inr hS, aH (j := 2) rfl, ?_⟩
      walk_at "rd"
      have e2 : eqV (.int i) (.int 0) = decide (i = 0) := by show (i == 0) = _; rw [Bool.eq_iff_iff]; simp
      rw [e2] at k
      simpa using k
   ·refine itn (by rw [jX kx hs]; decide) ?_
    have e1 : rwL [x, y, z] = false := by
     cases x with
     | str u => exact absurd ⟨u.cps.toList, rfl⟩ hs
     | _ => rfl
    rw [e1] at k; exact k
  ·have e1 : rwL xs = false := by
    unfold rwL
    split
    ·exact absurd rfl l3
    ·rfl
   rw [e1] at k
   exact itn (by omega) k
 ·have e1 : rwV H x0 = false := by
   unfold rwV
   split
   ·rename_i q
    split
    ·rename_i xs hq
     exact absurd ⟨q, xs, rfl, hq⟩ hT
    ·rfl
   ·rfl
  have e2 : cp t "tuple" = false := by
   unfold bi at ht
   split at ht
   case h_5 q =>
    split at ht
    case h_3 xs hq => exact absurd ⟨q, xs, rfl, hq⟩ hT
    all_goals (cases ht <;> decide)
   all_goals (cases ht <;> decide)
  rw [e1] at k
  walk_at "rd"
  simp only [ht]
  exact itp e2 k
theorem rb {H H' : Hp} {x : V} (s : Same H H') (h : RwX H x) : rwV H' x = rwV H x := by
 unfold rwV
 cases x with
 | ref q =>
  obtain ⟨⟨t, ht⟩, _⟩ := h
  have hk : ∃ o, H q = some o := by
   cases e : H q with
   | none => simp [bi, e] at ht
   | some o => exact ⟨o, rfl⟩
  obtain ⟨o, e⟩ := hk
  simp only [e, s _ _ e]
 | _ => rfl
theorem RwX.same {H H' : Hp} {x : V} (h : RwX H x) (s : Same H H') : RwX H' x := by
 obtain ⟨⟨t, ht⟩, hx⟩ := h
 refine ⟨⟨t, fY s ht⟩, fun q xs e eq => ?_⟩
 subst e
 have hk : ∃ o, H q = some o := by
  cases e : H q with
  | none => simp [bi, e] at ht
  | some o => exact ⟨o, rfl⟩
 obtain ⟨o, e⟩ := hk
 rw [s _ _ e] at eq
 cases eq
 obtain ⟨l, hy⟩ := hx q xs rfl e
 exact ⟨l, fun y m => by obtain ⟨a, ⟨t', b⟩, c⟩ := hy y m; exact ⟨a, ⟨t', fY s b⟩, c⟩⟩
def RwsX (H : Hp) (x : V) : Prop := (∃ q xs, x = .ref q /\ H q = some (.lst xs) /\ xs.length <= 500 /\ ∀ y ∈ xs, RwX H y) \/ (∃ t, bi H x = some t /\ t ≠ "list")
def fW (H : Hp) : V -> Bool
 | .ref q => (match H q with
  | some (.lst xs) => decide (2 <= xs.length) && decide (xs.length <= 200) && xs.all (rwV H)
  | _ => false)
 | _ => false
def sp_xY (c : Addr) : Sp := sp1 fun x H Q E => NoT H /\ RwsX H x /\ (fW H x = true -> Q .non H) /\ (fW H x = false -> E (.ref c) none H)
theorem uS (T : Txt K mg a) : bv P w K mg base (XE P w) 5 a.jm a.mF ["rows"] (sp_xY a.bh) := by
 refine T.jh.okG ng (fun vs H Q E h => sp1.len h) (fun cdv A outer s H vs Q E hr h => ?_)
 obtain ⟨x0, rfl, h⟩ := sp1.inv h
 try dsimp only [sp_xY, sp1] at h
 have ND := ng.nd
 obtain ⟨hN, hx, k1, k0⟩ := h
 have sz := szl
 have G_is_row := @zg P w K mg base a T
 have b_is_row := zG T.rB
 refine ⟨hN, _, (ah (ba (L2.PW.pt (il (bI (bA (aE (bC K) rfl T.aK aI (FA.pa (aa (fv 0) (aa (cE (v := .ty "list") rfl T.qP me rfl) ae)))))) (eE (bI (AB mB mB ac (aE (e7 K) rfl T.kb ig (FA.pa (aa (fv 0) ae))) ac))))) (ao (d4 T.vF PySem.F.excBase_ValueError rfl rfl T.qJ fS (FA.pa (aa (aB [114, 111, 119, 115, 32, 97, 114, 101, 32, 97, 32, 108, 105, 115, 116, 32, 111, 102, 32, 50, 32, 116, 111, 32, 50, 48, 48, 32, 116, 104, 105, 110, 103, 115]) ae)))) aJ)
  (ao (gM (by passes_own) rfl (lG K (fv 0)) (aS (i := 1) ND rfl (Or.inl rfl)) (ao (ba (bI (bA (ar G_is_row (hr.mono (by decide)) rfl T.Bl T.rB.kp b_is_row .nil aL (FA.pa (aa (fv 1) ae))))) (ao (d4 T.vF PySem.F.excBase_ValueError rfl rfl T.qJ fS (FA.pa (aa (aB [97, 32, 114, 111, 119, 32, 105, 115, 32, 97, 32, 112, 97, 116, 104, 44, 32, 97, 32, 99, 117, 114, 114, 101, 110, 99, 121, 32, 97, 110, 100, 32, 97, 110, 32, 97, 109, 111, 117, 110, 116, 32, 111, 116, 104, 101, 114, 32, 116, 104, 97, 110, 32, 110, 111, 117, 103, 104, 116]) ae)))) aJ))))), ?_⟩
 rcases hx with ⟨q, xs, rfl, hq, lx, hy⟩ | ⟨t, ht, nt⟩
 ·have et : bi H (.ref q) = some "list" := by simp [bi, hq]
  have ev : fW H (.ref q) = (decide (2 <= xs.length) && decide (xs.length <= 200) && xs.all (rwV H)) := by unfold fW; simp only [hq]
  rw [ev] at k1 k0
  walk_at "rd"
  simp only [et]
  refine itn (by decide) ⟨_, .inl (SqL.of hq), ?_⟩
  by_cases l2 : 2 <= xs.length
  ·by_cases l3 : xs.length <= 200
   ·rw [decide_eq_true l2, decide_eq_true l3, Bool.true_and, Bool.true_and] at k1 k0
    refine itp (by omega) (itp (by omega) (Am ?_))
    walk_at "rd"
    refine Bg (xs := xs) (SqL.of hq) (AY (fun i σ' H' => H' = H /\ (xs.take i).all (rwV H) = true /\ ∃ z, σ' = [some (.ref q), z]) ⟨rfl, by simp, none, rfl⟩ (fun i σ' H' _ h => by rw [h.1]; exact SqL.of hq) ?_ ?_)
    ·rintro i x σ' H' hx ⟨rfl, ha, z, rfl⟩
     have tk : xs.take (i + 1) = xs.take i ++ [x] := by rw [List.take_succ, hx]; rfl
     walk_at "rd"
     refine ⟨hN, hy x (List.mem_of_getElem? hx), ?_⟩
     cases h1 : rwV H' x with
     | true =>
      refine itn (by decide) ?_
      rw [tk, List.all_append, ha]; simp [h1]
     | false =>
      refine itp rfl ⟨by walk_at "om", k0 ?_⟩
      cases h2 : xs.all (rwV H') with
      | false => rfl
      | true =>
       have := List.all_eq_true.mp h2 x (List.mem_of_getElem? hx)
       rw [h1] at this; cases this
    ·rintro σ' H' ⟨rfl, ha, z, rfl⟩
     rw [List.take_length] at ha
     exact ⟨H', Gc.none (Same.refl _), k1 ha⟩
   ·rw [decide_eq_false l3] at k0
    exact itp (by omega) (itn (by omega) ⟨by walk_at "om", k0 (by simp)⟩)
  ·rw [decide_eq_false l2] at k0
   exact itn (by omega) ⟨by walk_at "om", k0 rfl⟩
 ·have e2 : cp t "list" = false := by
   unfold bi at ht
   split at ht
   case h_5 q =>
    split at ht
    case h_1 => cases ht; exact absurd rfl nt
    case h_2 => cases ht; exact absurd rfl nt
    all_goals (cases ht <;> decide)
   all_goals (cases ht <;> decide)
  have ev : fW H x0 = false := by
   unfold fW
   split
   ·rename_i q
    split
    ·rename_i xs hq
     simp [bi, hq] at ht
     exact absurd ht.symm nt
    ·rfl
   ·rfl
  walk_at "rd"
  simp only [ht]
  exact itp e2 ⟨by walk_at "om", k0 ev⟩
def sp_ya (c : Addr) : Sp := sp3 fun x y z H Q E => NoT H /\ asI x fun f => asI y fun e => asI z fun n => (0 <= f /\ f <= 146096) /\ 1 <= e /\ (0 <= n /\ n <= 1000) /\ ∀ q, H q = none -> Q (.ref q) (upd H q (.lst (((List.range n.toNat).filter fun j : Nat => decide (MO f + e * j <= 4799)).map fun j : Nat => V.int (nR f (e * j)))))
theorem ut (T : Txt K mg a) : bv P w K mg base (XE P w) 6 a.jE a.m9 ["first", "every", "times"] (sp_ya a.be) := by
 refine T.jB.okG mI (fun vs H Q E h => sp3.len h) (fun cdv A outer s H vs Q E hr h => ?_)
 obtain ⟨x0, x1, x2, rfl, h⟩ := sp3.inv h
 try dsimp only [sp_ya, sp3] at h
 have ND := mI.nd
 obtain ⟨hN, h1⟩ := h
 obtain ⟨f, rfl, h2⟩ := asI.inv h1
 obtain ⟨e, rfl, h3⟩ := asI.inv h2
 obtain ⟨n, rfl, hf, he, hn, k⟩ := asI.inv h3
 have sz := szl
 have G_is_month := @pk P w K mg base a T
 have b_is_month := pJ T.gN
 have G_stepped := @xD P w K mg base a T
 have b_stepped := xB T.nK
 have G_month_of := @pw P w K mg base a T
 have b_month_of := pN T.gK
 refine ⟨hN, _, (ah (aD (i := 3) ND rfl (Or.inr rfl) (ar G_month_of (hr.mono (by decide)) rfl T.r_ T.gK.kp b_month_of .nil aL (FA.pa (aa (fv 0) ae))))
  (ao (aC (dE rfl (cl := _) (x := "turn") (xs := ["turn"]) (fr := ["first", "every", "month"]) (ks := [0, 1, 3]) (by exact ⟨rfl, by decide +kernel, rfl, by decide +kernel, rfl, dA rfl, rfl, bb rfl, bb (k := fun y => List.lookup y _) rfl, dB rfl⟩) rfl (cw rfl T.cx (FA.pa (aa (fv 2) ae))) (fun _ _ _ _ _ => (aS (i := 0) (iA (l := ["turn", "first", "every", "month"]) (by decide)) rfl (Or.inl rfl))) (fun _ _ _ _ _ => (j2 (bA (ar G_is_month (hr.mono (by decide)) rfl T.rN T.gN.kp b_is_month .nil lK (FA.pa (aa (ap aO (fv 3) (ap dD (fv 2) (fv 0))) ae)))))) (fun _ _ _ _ _ => (ar G_stepped (hr.mono (by decide)) rfl T.zl T.nK.kp b_stepped .nil lK (FA.pa (aa (fv 1) (aa (ap dD (fv 2) (fv 0)) ae))))))))), ?_⟩
 walk_at "rd"
 refine ⟨hN, hf, ?_⟩
 obtain ⟨m0, m1, m2, m3⟩ := FZ hf.1 hf.2
 have ge : ∀ j : Nat, 0 <= e * (j : Int) := fun j => Int.mul_nonneg (by omega) (by omega)
 refine cmR (fun H' => NoT H') (fun D ys hD => aA hN rfl) n.toNat (fun j : Nat => decide (MO f + e * j <= 4799)) (fun j : Nat => V.int (nR f (e * j))) (fun R r => ?_) (by omega) (fun j hj H' R c r => ?_) (fun j hj pj H' R c r => ?_) (fun D hD => ?_)
 ·walk_at "rd"
  rw [show ((n.toNat : Nat) : Int) = n by omega] at r
  exact r
 ·walk_at "rd"
  have e1 : amg (.int (MO f + e * (j : Int))) 0 4799 = decide (MO f + e * (j : Int) <= 4799) := by
   have := ge j
   unfold amg
   simp only []
   rw [decide_eq_true (by omega : (0 : Int) <= MO f + e * (j : Int)), Bool.true_and]
  rw [<- e1] at r
  exact ⟨.inr (by omega), c, r⟩
 ·walk_at "rd"
  have pj := of_decide_eq_true pj
  have := ge j
  exact ⟨.inr (by omega), c, hf, itp ⟨by omega, pj⟩ r⟩
 ·exact ⟨_, Gc.one (ak _ hD) hD ai rfl, k D hD⟩
open K3
def Keep (S : List Addr) (H H' : Hp) : Prop := ∀ c z, H c = some z -> c ∉ S -> H' c = some z
theorem Keep.refl {S : List Addr} {H : Hp} : Keep S H H := fun _ _ e _ => e
theorem Keep.trans {S : List Addr} {H H1 H2 : Hp} (x : Keep S H H1) (y : Keep S H1 H2) : Keep S H H2 := fun c z e n => y c z (x c z e n) n
theorem Keep.mono {S S' : List Addr} {H H' : Hp} (x : Keep S H H') (h : ∀ c, c ∈ S -> c ∈ S') : Keep S' H H' := fun c z e n => x c z e fun m => n (h c m)
theorem Keep.new {S : List Addr} {H H1 : Hp} {p : Addr} {o : HO} (x : Keep S H H1) (h : H1 p = none) : Keep S H (upd H1 p o) := fun c z e n => by
 rw [ay (au (x c z e n) h)]; exact x c z e n
theorem Keep.put {S : List Addr} {H H1 : Hp} {p : Addr} {o : HO} (x : Keep S H H1) (h : p ∈ S) : Keep S H (upd H1 p o) := fun c z e n => by
 rw [ay (by rintro rfl; exact n h)]; exact x c z e n
theorem Keep.same {S : List Addr} {H H' : Hp} (x : Same H H') : Keep S H H' := fun c z e _ => x c z e
theorem Keep.free {S : List Addr} {H H' : Hp} {p : Addr} (x : Keep S H H') (h : H' p = none) (n : p ∉ S) : H p = none := by
 cases e : H p with
 | none => rfl
 | some z => rw [x p z e n] at h; cases h
theorem bN {H : Hp} {p q : Addr} {x y : HO} (h : H p = some x) (g : H q = some y) (n : x ≠ y := by intro z; cases z) : p ≠ q := by
 rintro rfl; rw [h] at g; cases g; exact n rfl
structure Od where
 nm : List Nat
 ob : Addr
 ag : Addr
 rt : Addr
 ad : Addr
 f : Int
 e : Int
 n : Int
 nt : V
 rs : List V
 go : Int
noncomputable def dys (f e n : Int) : List Int := ((List.range n.toNat).filter fun j : Nat => decide (MO f + e * j <= 4799)).map fun j : Nat => nR f (e * j)
def jg (x y z : V) : List (Str × V) := [("agreed", x), ("all_days", y), ("gone", z)]
theorem GA (x y z : V) : List.lookup (Str.ofString "agreed") (jg x y z) = some x := uO
theorem Fw (x y z : V) : List.lookup (Str.ofString "all_days") (jg x y z) = some y := by unfold jg; rw [lH (by decide +kernel)]; exact uO
theorem DN (x y z : V) : List.lookup (Str.ofString "gone") (jg x y z) = some z := by unfold jg; rw [lH (by decide +kernel), lH (by decide +kernel)]; exact uO
theorem F0 (x y z v : V) : fR (Str.ofString "gone") v (jg x y z) = jg x y v := by
 have q1 : ¬ (Str.ofString "agreed" = Str.ofString "gone") := by decide +kernel
 have q2 : ¬ (Str.ofString "all_days" = Str.ofString "gone") := by decide +kernel
 simp [fR, jg, q1, q2]
theorem EC (x y z : V) : fR (Str.ofString "gone") z (fR (Str.ofString "all_days") y (fR (Str.ofString "agreed") x [])) = jg x y z := by
 have q1 : ¬ (Str.ofString "agreed" = Str.ofString "gone") := by decide +kernel
 have q2 : ¬ (Str.ofString "all_days" = Str.ofString "gone") := by decide +kernel
 have q3 : ¬ (Str.ofString "agreed" = Str.ofString "all_days") := by decide +kernel
 simp [fR, jg, q1, q2, q3]
structure AAt (H : Hp) (ag rt : Addr) (f e n : Int) (nt : V) (rs : List V) : Prop where
 ag : H ag = some (.tup [.int f, .int e, .int n, nt, .ref rt])
 rt : H rt = some (.tup rs)
structure OAt (O : Addr) (H : Hp) (o : Od) : Prop where
 ob : ∃ dx, H o.ob = some (.ins O dx (jg (.ref o.ag) (.ref o.ad) (.int o.go)))
 ag : AAt H o.ag o.rt o.f o.e o.n o.nt o.rs
 ad : H o.ad = some (.lst ((dys o.f o.e o.n).map V.int))
theorem cU {H : Hp} {p : Addr} {o : HO} (h : H p = none) (n : NoT H) (ho : n9 o = true) : ∃ H1, upd H p o = H1 /\ Same H H1 /\ H1 p = some o /\ NoT H1 := ⟨_, rfl, ak _ h, ai, aA n ho⟩
def sp_sU (O : Addr) : Sp := sp6 fun x f e n t r H Q E => NoT H /\ asR x fun p => asI f fun f => asI e fun e => asI n fun n => asR r fun rq => ∃ dx rs, H p = some (.ins O dx []) /\ (0 <= f /\ f <= 146096) /\ 1 <= e /\ (0 <= n /\ n <= 1000) /\ H rq = some (.lst rs) /\ rs.length <= 500 /\
 ∀ ag rt ad H', H' p = some (.ins O dx (jg (.ref ag) (.ref ad) (.int 0))) -> AAt H' ag rt f e n t rs -> H' ad = some (.lst ((dys f e n).map V.int)) -> H ad = none -> Keep [p] H H' -> NoT H' -> Q .non H'
theorem gP (T : Txt K mg a) : bv P w K mg base (XE P w) 7 a.bP a.dC ["self", "first", "every", "times", "note", "rows"] (sp_sU a.aj) := by
 refine T.dF.okX gO (fun vs H Q E h => sp6.len h) (fun cdv A outer s H vs Q E hr h => ?_)
 obtain ⟨x0, x1, x2, x3, x4, x5, rfl, h⟩ := sp6.inv h
 try dsimp only [sp_sU, sp6] at h
 obtain ⟨hN, h1⟩ := h
 obtain ⟨p, rfl, h2⟩ := asR.inv h1
 obtain ⟨f, rfl, h3⟩ := asI.inv h2
 obtain ⟨e, rfl, h4⟩ := asI.inv h3
 obtain ⟨n, rfl, h5⟩ := asI.inv h4
 obtain ⟨rq, rfl, dx, rs, hp, hf, he, hn, hrq, lr, k⟩ := asR.inv h5
 have sz := szl
 have G_days_from := @ut P w K mg base a T
 have b_days_from := uM T.jB
 refine ⟨_, (ah (mS K (fv 0) (eI (FA.pa (aa (fv 1) (aa (fv 2) (aa (fv 3) (aa (fv 4) (aa (eY (rg K) rfl T.j3 iJ (FA.pa (aa (fv 5) ae))) ae))))))))
  (ah (mS K (fv 0) (ar G_days_from (hr.mono (by decide)) rfl T.vX T.jB.kp b_days_from .nil aL (FA.pa (aa (fv 1) (aa (fv 2) (aa (fv 3) ae))))))
  (ao (mS K (fv 0) ac)))), ?_⟩
 walk_at "rd"
 refine ⟨rs, .inl ⟨SqL.of hrq, fun rt frt => ?_⟩⟩
 obtain ⟨H1, ee, m1, g1, N1⟩ := cU (o := HO.tup rs) frt hN rfl
 rw [ee]
 refine ⟨by walk_at "om", fun ag fag => ?_⟩
 obtain ⟨H2, ee, m2, g2, N2⟩ := cU (o := HO.tup [V.int f, V.int e, V.int n, x4, V.ref rt]) fag N1 rfl
 rw [ee]
 have hp2 := m2 _ _ (m1 _ _ hp)
 refine ⟨_, _, _, hp2, T.bg, T.d9, by decide, aA N2 rfl, hf, he, hn, fun ad fad => ?_⟩
 have na : p ≠ ad := fun z => by rw [<- z, ai] at fad; cases fad
 have fad2 : H2 ad = none := by rw [ay (Ne.symm na)] at fad; exact fad
 refine ⟨_, _, _, (ay na).trans ai, T.bg, T.cI, by show 1 < 1000; decide, _, _, _, ai, T.bg, T.bR, by show 2 < 1000; decide, ?_⟩
 rw [EC, lJ]
 have k1 : Keep [p] H2 (upd (upd (upd H2 p (HO.ins a.aj dx (fR (Str.ofString "agreed") (V.ref ag) []))) ad (HO.lst (List.map (fun j : Nat => V.int (nR f (e * j))) (List.filter (fun j : Nat => decide (MO f + e * j <= 4799)) (List.range n.toNat))))) p (HO.ins a.aj dx (jg (V.ref ag) (V.ref ad) (V.int 0)))) := ((Keep.refl.put (.head _)).new fad).put (.head _)
 have m12 := m1.trans m2
 refine k ag rt ad _ ai ⟨k1 _ _ g2 (by simpa using bN g2 hp2), k1 _ _ (m2 _ _ g1) (by simpa using bN (m2 _ _ g1) hp2)⟩ ?_ (m12.free fad2) ((Keep.same m12).trans k1) (aA (aA (aA N2 rfl) rfl) rfl)
 rw [ay (Ne.symm na), ai]
 unfold dys
 rw [List.map_map]; rfl
def kyO (o : Od) : Key × V := (.inr ⟨⟨o.nm⟩⟩, .ref o.ob)
structure SAt (S O : Addr) (H : Hp) (p d : Addr) (os : List Od) : Prop where
 ob : ∃ dx, H p = some (.ins S dx [("by_name", .ref d)])
 dc : H d = some (.dK (os.map kyO))
 od : ∀ o ∈ os, OAt O H o
 np : (os.map (·.nm)).Nodup
 na : (os.map (·.ob)).Nodup
theorem AAt.keep {X : List Addr} {H H' : Hp} {ag rt : Addr} {f e n : Int} {nt : V} {rs : List V} (j : AAt H ag rt f e n nt rs) (x : Keep X H H') (h : ag ∉ X /\ rt ∉ X) : AAt H' ag rt f e n nt rs := ⟨x _ _ j.ag h.1, x _ _ j.rt h.2⟩
theorem OAt.keep {X : List Addr} {O : Addr} {H H' : Hp} {o : Od} (j : OAt O H o) (x : Keep X H H') (h : o.ob ∉ X /\ o.ag ∉ X /\ o.rt ∉ X /\ o.ad ∉ X) : OAt O H' o :=
 ⟨by obtain ⟨dx, e⟩ := j.ob; exact ⟨dx, x _ _ e h.1⟩, j.ag.keep x ⟨h.2.1, h.2.2.1⟩, x _ _ j.ad h.2.2.2⟩
theorem SAt.keep {X : List Addr} {S O : Addr} {H H' : Hp} {p d : Addr} {os : List Od} (j : SAt S O H p d os) (x : Keep X H H') (hp : p ∉ X) (hd : d ∉ X) (ho : ∀ o ∈ os, o.ob ∉ X /\ o.ag ∉ X /\ o.rt ∉ X /\ o.ad ∉ X) : SAt S O H' p d os :=
 ⟨by obtain ⟨dx, e⟩ := j.ob; exact ⟨dx, x _ _ e hp⟩, x _ _ j.dc hd, fun o hm => (j.od o hm).keep x (ho o hm), j.np, j.na⟩
theorem SAt.same {S O : Addr} {H H' : Hp} {p d : Addr} {os : List Od} (j : SAt S O H p d os) (x : Same H H') : SAt S O H' p d os :=
 j.keep (X := []) (Keep.same x) List.not_mem_nil List.not_mem_nil fun _ _ => ⟨List.not_mem_nil, List.not_mem_nil, List.not_mem_nil, List.not_mem_nil⟩
def fnd (os : List Od) (l : List Nat) : Option Od := os.find? fun o => decide (o.nm = l)
theorem lw (l : List Nat) : ∀ os : List Od, iP (os.map kyO) (.inr ⟨⟨l⟩⟩) = (fnd os l).map fun o => .ref o.ob
 | [] => rfl
 | c :: r => by
  have ih := lw l r
  by_cases h : c.nm = l
  ·rw [List.map_cons, jU (by show Sum.inr _ = Sum.inr _; rw [h])]
   simp [fnd, h, kyO]
  ·rw [List.map_cons, jQ (fun z => h (by simpa [kyO] using z)), ih]
   simp [fnd, h]
theorem ia {os : List Od} {l : List Nat} {o : Od} (h : fnd os l = some o) : o ∈ os /\ o.nm = l :=
 ⟨List.mem_of_find?_eq_some h, by simpa using List.find?_some h⟩
theorem mU {os : List Od} {l : List Nat} (h : fnd os l = none) : ∀ o ∈ os, o.nm ≠ l := fun c hc => by
 simpa using List.find?_eq_none.mp h c hc
theorem mM {β : Type} {f : Od -> β} : ∀ {cs : List Od} {c c' : Od}, (cs.map f).Nodup -> c ∈ cs -> c' ∈ cs -> f c = f c' -> c = c'
 | [], _, _, _, h, _, _ => nomatch h
 | x :: r, c, c', hn, h, h', e => by
  rw [List.map_cons, List.nodup_cons] at hn
  rcases List.mem_cons.mp h with h1 | h1
  ·rcases List.mem_cons.mp h' with h2 | h2
   ·rw [h1, h2]
   ·subst h1
    exact absurd (by rw [e]; exact List.mem_map_of_mem h2) hn.1
  ·rcases List.mem_cons.mp h' with h2 | h2
   ·subst h2
    exact absurd (by rw [<- e]; exact List.mem_map_of_mem h1) hn.1
   ·exact mM hn.2 h1 h2 e
theorem uW {cs : List Od} (hn : (cs.map (·.nm)).Nodup) {c : Od} (hc : c ∈ cs) : fnd cs c.nm = some c := by
 cases e : fnd cs c.nm with
 | none => exact absurd rfl (mU e c hc)
 | some c' =>
  obtain ⟨h1, h2⟩ := ia e
  rw [mM hn h1 hc h2]
def ff (os : List Od) : V -> Option Od
 | .str y => fnd os y.cps.toList
 | _ => none
theorem wL {cs : List Od} {y : V} {c : Od} (h : ff cs y = some c) : ∃ l, y = L2.T l /\ fnd cs l = some c := by
 cases y with
 | str z => exact ⟨z.cps.toList, rfl, h⟩
 | _ => cases h
theorem jS {cs : List Od} {y : V} {c : Od} (h : ff cs y = some c) : c ∈ cs := by
 obtain ⟨l, rfl, e⟩ := wL h
 exact (ia e).1
theorem lkb (x : V) : List.lookup (Str.ofString "by_name") [(Str.ofString "by_name", x)] = some x := uO
def sp_tE (S O : Addr) : Sp := sp1 fun x H Q _ => NoT H /\ asR x fun p => ∃ dx, H p = some (.ins S dx []) /\ ∀ d H', H d = none -> SAt S O H' p d [] -> Keep [p] H H' -> NoT H' -> Q .non H'
theorem jo (T : Txt K mg a) : bv P w K mg base (XE P w) 1 a.cM a.fm ["self"] (sp_tE a.aq a.aj) := by
 refine T.fQ.okX jq (fun vs H Q E h => sp1.len h) (fun cdv A outer s H vs Q E hr h => ?_)
 obtain ⟨x0, rfl, h⟩ := sp1.inv h
 try dsimp only [sp_tE, sp1] at h
 obtain ⟨hN, h1⟩ := h
 obtain ⟨p, rfl, dx, hp, k⟩ := asR.inv h1
 refine ⟨_, (ao (mS K (fv 0) uD)), ?_⟩
 walk_at "rd"
 intro d hd
 have np : p ≠ d := au hp hd
 refine ⟨_, _, _, (ay np).trans hp, T.aN, T.bB, by show 0 < 1000; decide, ?_⟩
 refine k d _ hd ⟨⟨dx, ?_⟩, ?_, (fun _ h => nomatch h), .nil, .nil⟩ ?_ ?_
 ·rw [ai]; simp [fR]
 ·rw [ay (Ne.symm np), ai]; rfl
 ·exact (Keep.refl.new hd).put (List.mem_singleton.2 rfl)
 ·exact aA (aA hN rfl) rfl
def p_ {H : Hp} (E : XK) (no : Addr) (o : Option Od) (k : Od -> Prop) : Prop := match o with
 | some c => k c
 | none => E (.ref no) none H
def sp_wy (S O no : Addr) : Sp := sp2 fun x y H Q E => NoT H /\ asR x fun p => asK H y fun _ => ∃ d os, SAt S O H p d os /\ p_ (H := H) E no (ff os y) fun c => Q (.ref c.ob) H
theorem cF (T : Txt K mg a) : bv P w K mg base (XE P w) 1 a.eC a.g_ ["self", "name"] (sp_wy a.aq a.aj a.aR) := by
 refine T.cb.okG lZ (fun vs H Q E h => sp2.len h) (fun cdv A outer s H vs Q E hr h => ?_)
 obtain ⟨x0, x1, rfl, h⟩ := sp2.inv h
 try dsimp only [sp_wy, sp2] at h
 have HU := bJ hr
 obtain ⟨hN, h1⟩ := h
 obtain ⟨p, rfl, h2⟩ := asR.inv h1
 obtain ⟨t, ht, hb, d, os, J, k⟩ := asK.inv h2
 obtain ⟨dx, hp⟩ := J.ob
 have one : 1 <= sizeLine := by rw [sizeLine_eq]; decide
 refine ⟨hN, _, (ah (ba (L2.PW.pt (il (bI (bA (aE (bC K) rfl T.aK aI (FA.pa (aa (fv 1) (aa (cE (v := .ty "str") rfl T.tP nE rfl) ae)))))) (eE (xX (nF (Nat.lt_of_le_of_lt (Nat.add_le_add_left (by decide) _) HU) (fv 1) (dJ K (fv 0))) (by with_unfolding_all rfl))))) (ao (d4 T.zp PySem.F.excBase_ValueError rfl rfl T.sG fS (FA.pa (aa (aB [116, 104, 101, 114, 101, 32, 105, 115, 32, 110, 111, 32, 115, 117, 99, 104, 32, 115, 116, 97, 110, 100, 105, 110, 103, 32, 111, 114, 100, 101, 114]) ae)))) aJ)
  (ao (aC (uV (Nat.lt_of_le_of_lt (Nat.add_le_add_left (by decide) _) HU) (dJ K (fv 0)) (fv 1) (fun _ _ => rfl))))), ?_⟩
 by_cases hx : ∃ l, x1 = .str ⟨⟨l⟩⟩
 ·obtain ⟨l, rfl⟩ := hx
  cases ht
  walk_at "rd"
  have g := DGet.k (k := .inr ⟨⟨l⟩⟩) J.dc
  rw [lw] at g
  refine ⟨_, _, _, _, hp, T.aN, T.bB, lkb _, d, _, rfl, g, ?_⟩
  rw [show ff os (.str ⟨⟨l⟩⟩) = fnd os l from rfl] at k
  cases e : fnd os l with
  | none => rw [e] at k; exact itp rfl ⟨one, k⟩
  | some c =>
   rw [e] at k g
   exact itn (by intro z; cases z) ⟨_, _, _, _, hp, T.aN, T.bB, lkb _, d, _, rfl, g, k⟩
 ·have e := jX ht hx
  have e2 : ff os x1 = none := by
   cases x1 with
   | str y => exact absurd ⟨y.cps.toList, rfl⟩ hx
   | _ => rfl
  rw [e2] at k
  walk_at "rd"
  simp only [ht]
  exact itp e ⟨one, k⟩
open K3
theorem rW {β : Type} {l : List β} {x : β} (h : l.Nodup) (n : x ∉ l) : (l ++ [x]).Nodup :=
 List.nodup_append.mpr ⟨h, List.nodup_cons.mpr ⟨List.not_mem_nil, List.nodup_nil⟩, fun a ha b hb => by rw [List.mem_singleton.mp hb]; rintro rfl; exact n ha⟩
theorem oS {H H' : Hp} {x dx : Addr} {o o' : HO} (hx : H x = none) (hd : H dx = none) (kp : Keep [x] (upd (upd H dx o) x o') H') : Keep [] H H' := fun c z e _ => by
 have n1 : c ≠ x := au e hx
 have n2 : c ≠ dx := au e hd
 exact kp c z (by rw [ay n1, ay n2]; exact e) (by simpa using n1)
theorem oC {H : Hp} {x dx b : Addr} {o o' : HO} (h : upd (upd H dx o) x o' b = none) : H b = none := by
 have n1 : b ≠ x := fun z => by rw [z, ai] at h; cases h
 rw [ay n1] at h
 have n2 : b ≠ dx := fun z => by rw [z, ai] at h; cases h
 rw [ay n2] at h; exact h
theorem tK {x : V} (h : nameV x = true) : ∃ l, x = L2.T l := by
 cases x with
 | str y => exact ⟨y.cps.toList, rfl⟩
 | _ => cases h
theorem Cv {H : Hp} {x : V} (h : fW H x = true) : ∃ q rs, x = .ref q /\ H q = some (.lst rs) /\ rs.length <= 200 := by
 unfold fW at h
 split at h
 ·rename_i q
  split at h
  ·rename_i xs e
   simp only [Bool.and_eq_true, decide_eq_true_eq] at h
   exact ⟨q, xs, rfl, e, h.1.2⟩
  ·cases h
 ·cases h
theorem Bc {os : List Od} {l : List Nat} (h : fnd os l = none) (o : Od) (e : o.nm = l) : k8 (os.map kyO) (.inr ⟨⟨l⟩⟩) (.ref o.ob) = (os ++ [o]).map kyO := by
 rw [wb _ (by rw [lw, h]; rfl), List.map_append, <- e]; rfl
theorem SAt.more {S O : Addr} {H H' : Hp} {p d : Addr} {os : List Od} (J : SAt S O H p d os) (kp : Keep [] H H') {o : Od} (hf : fnd os o.nm = none) (h0 : H o.ob = none) (hc : OAt O H' o) :
 SAt S O (upd H' d (.dK ((os ++ [o]).map kyO))) p d (os ++ [o]) := by
 have J1 := J.keep kp List.not_mem_nil List.not_mem_nil fun _ _ => ⟨List.not_mem_nil, List.not_mem_nil, List.not_mem_nil, List.not_mem_nil⟩
 have dn := J1.dc
 have ku : Keep [d] H' (upd H' d (.dK ((os ++ [o]).map kyO))) := Keep.refl.put (.head _)
 have no : ∀ {x : Addr} {z : HO}, H' x = some z -> (∀ l, z ≠ .dK l) -> x ∉ [d] := fun e n m => bN e dn (fun q => n _ q) (List.mem_singleton.mp m)
 have ok : ∀ z, OAt O H' z -> OAt O (upd H' d (.dK ((os ++ [o]).map kyO))) z := fun z hz => by
  obtain ⟨dz, e⟩ := hz.ob
  exact hz.keep ku ⟨no e (by intro _ z; cases z), no hz.ag.ag (by intro _ z; cases z), no hz.ag.rt (by intro _ z; cases z), no hz.ad (by intro _ z; cases z)⟩
 refine ⟨?_, ai, fun z hz => ?_, ?_, ?_⟩
 ·obtain ⟨dx, e⟩ := J1.ob
  exact ⟨dx, ku _ _ e (no e (by intro _ z; cases z))⟩
 ·rcases List.mem_append.mp hz with hz | hz
  ·exact ok z (J1.od z hz)
  ·rw [List.mem_singleton.mp hz]; exact ok o hc
 ·rw [List.map_append]
  refine rW J.np fun h => ?_
  obtain ⟨z, hz, e⟩ := List.mem_map.mp h
  exact mU hf z hz e
 ·rw [List.map_append]
  refine rW J.na fun h => ?_
  obtain ⟨z, hz, e⟩ := List.mem_map.mp h
  obtain ⟨dz, eo⟩ := (J.od z hz).ob
  rw [e, h0] at eo; cases eo
def sp_Bb (S O bn bd bc bt br tw : Addr) : Sp := sp7 fun x y f e n t r H Q E => NoT H /\ asR x fun p => okV y /\ asK H y fun _ => asK H f fun _ => asK H e fun _ => asK H n fun _ => okV t /\ asK H t fun _ => RwsX H r /\ ∃ d os, SAt S O H p d os /\ os.length <= 100 /\
 if nameV y = true then if amg f 0 146096 = true then if amg e 1 120 = true /\ amg n 1 1000 = true then if ntV t = true then if fW H r = true then
  asT y fun l => if (fnd os l).isSome = true then E (.ref tw) none H else
  (∀ o q H', l = o.nm -> f = .int o.f -> e = .int o.e -> n = .int o.n -> t = o.nt -> r = .ref q -> H q = some (.lst o.rs) -> o.go = 0 -> H o.ob = none -> H o.ad = none -> SAt S O H' p d (os ++ [o]) -> Keep [d] H H' -> NoT H' -> Q .non H')
 else E (.ref br) none H else E (.ref bt) none H else E (.ref bc) none H else E (.ref bd) none H else E (.ref bn) none H
theorem qc (T : Txt K mg a) : bv P w K mg base (XE P w) 9 a.gn a.i_ ["self", "name", "first", "every", "times", "note", "rows"] (sp_Bb a.aq a.aj a.aZ a.be a.aT a.a_ a.bh a.bF) := by
 refine T.jH.okX ql (fun vs H Q E h => sp7.len h) (fun cdv A outer s H vs Q E hr h => ?_)
 obtain ⟨x0, x1, x2, x3, x4, x5, x6, rfl, h⟩ := sp7.inv h
 try dsimp only [sp_Bb, sp7] at h
 have HU := bJ hr
 obtain ⟨hN, h1⟩ := h
 obtain ⟨p, rfl, oy, h2⟩ := asR.inv h1
 obtain ⟨ty, hty, _, h3⟩ := asK.inv h2
 obtain ⟨tf, htf, _, h4⟩ := asK.inv h3
 obtain ⟨te, hte, _, h5⟩ := asK.inv h4
 obtain ⟨tn, htn, _, ot, h6⟩ := asK.inv h5
 obtain ⟨tt, htt, _, hrs, d, os, J, len, k⟩ := asK.inv h6
 obtain ⟨dx, hp⟩ := J.ob
 have one : 1 <= sizeLine := by rw [sizeLine_eq]; decide
 have sz := szl
 have G_StandingOrder___init__ := @gP P w K mg base a T
 have b_StandingOrder___init__ := gQ T.dF
 have G_need_form := @uS P w K mg base a T
 have b_need_form := vc T.jh
 have G_is_note := @xU P w K mg base a T
 have b_is_note := xV T.nV
 have G_is_among := @g9 P w K mg base a T
 have b_is_among := h8 T.cK
 have G_is_day := @zr P w K mg base a T
 have b_is_day := zE T.rz
 have G_is_name := @xE P w K mg base a T
 have b_is_name := xm T.oE
 refine ⟨_, (ah (ba (bI (bA (ar G_is_name (hr.mono (by decide)) rfl T.zw T.oE.kp b_is_name .nil aL (FA.pa (aa (fv 1) ae))))) (ao (d4 T.zH PySem.F.excBase_ValueError rfl rfl T.tm fS (FA.pa (aa (aB [116, 104, 105, 115, 32, 105, 115, 32, 110, 111, 32, 110, 97, 109, 101]) ae)))) aJ)
  (ah (ba (bI (bA (ar G_is_day (hr.mono (by decide)) rfl T.zY T.rz.kp b_is_day .nil aL (FA.pa (aa (fv 2) ae))))) (ao (d4 T.vE PySem.F.excBase_ValueError rfl rfl T.rM fS (FA.pa (aa (aB [116, 104, 105, 115, 32, 105, 115, 32, 110, 111, 32, 100, 97, 121]) ae)))) aJ)
  (ah (ba (L2.PW.pt (il (bI (bA (ar G_is_among (hr.mono (by decide)) rfl T.gp T.cK.kp b_is_among .nil aL (FA.pa (aa (fv 3) (aa ac (aa ac ae))))))) (eE (bI (bA (ar G_is_among (hr.mono (by decide)) rfl T.gp T.cK.kp b_is_among .nil aL (FA.pa (aa (fv 4) (aa ac (aa ac ae)))))))))) (ao (d4 T.xL PySem.F.excBase_ValueError rfl rfl T.rp fS (FA.pa (aa (aB [101, 118, 101, 114, 121, 32, 105, 115, 32, 49, 32, 116, 111, 32, 49, 50, 48, 32, 109, 111, 110, 116, 104, 115, 44, 32, 116, 105, 109, 101, 115, 32, 97, 114, 101, 32, 49, 32, 116, 111, 32, 49, 48, 48, 48]) ae)))) aJ)
  (ah (ba (bI (bA (ar G_is_note (hr.mono (by decide)) rfl T.zR T.nV.kp b_is_note .nil aL (FA.pa (aa (fv 5) ae))))) (ao (d4 T.zI PySem.F.excBase_ValueError rfl rfl T.tN fS (FA.pa (aa (aB [116, 104, 105, 115, 32, 105, 115, 32, 110, 111, 32, 110, 111, 116, 101]) ae)))) aJ)
  (ah (cW (ar G_need_form (hr.mono (by decide)) rfl T.vo T.jh.kp b_need_form .nil aL (FA.pa (aa (fv 6) ae))))
  (ah (ba (xX (xb (Nat.lt_of_le_of_lt (Nat.add_le_add_left (by decide) _) HU) (fv 1) (dJ K (fv 0))) (by with_unfolding_all rfl)) (ao (d4 T.CN PySem.F.excBase_ValueError rfl rfl T.yM fS (FA.pa (aa (aB [116, 104, 101, 114, 101, 32, 105, 115, 32, 115, 117, 99, 104, 32, 97, 32, 115, 116, 97, 110, 100, 105, 110, 103, 32, 111, 114, 100, 101, 114]) ae)))) aJ)
  (ao (y0 (Nat.lt_of_le_of_lt (Nat.add_le_add_left (by decide) _) HU) (dJ K (fv 0)) (fv 1) (Bq T.oW G_StandingOrder___init__ (hr.mono (by decide)) rfl T.qf b_StandingOrder___init__ .nil aL (FA.pa (aa (fv 2) (aa (fv 3) (aa (fv 4) (aa (fv 5) (aa (fv 6) ae))))))) rfl)))))))), ?_⟩
 walk_at "rd"
 refine ⟨hN, oy, asK.of hty ?_⟩
 cases e1 : nameV x1 with
 | false => rw [e1] at k; exact itp rfl ⟨one, k⟩
 | true =>
 rw [e1, if_pos rfl] at k
 refine itn (by decide) ⟨hN, asK.of htf ?_⟩
 cases e2 : amg x2 0 146096 with
 | false => rw [e2] at k; exact itp rfl ⟨one, k⟩
 | true =>
 rw [e2, if_pos rfl] at k
 refine itn (by decide) ⟨hN, asK.of hte ?_⟩
 cases e3 : amg x3 1 120 with
 | false => rw [e3, if_neg (fun z => nomatch z.1)] at k; exact itp rfl ⟨one, k⟩
 | true =>
 refine itn (by decide) ⟨hN, asK.of htn ?_⟩
 cases e4 : amg x4 1 1000 with
 | false => rw [e4, if_neg (fun z => nomatch z.2)] at k; exact itp rfl ⟨one, k⟩
 | true =>
 rw [if_pos ⟨e3, e4⟩] at k
 refine itn (by decide) ⟨hN, ot, asK.of htt ?_⟩
 cases e5 : ntV x5 with
 | false => rw [e5] at k; exact itp rfl ⟨one, k⟩
 | true =>
 rw [e5, if_pos rfl] at k
 refine itn (by decide) ⟨hN, hrs, fun e6 => ?_, fun e6 => ?_⟩
 ·rw [e6, if_pos rfl] at k
  obtain ⟨l, rfl⟩ := tK e1
  obtain ⟨f, rfl, f0, f1⟩ := qH e2
  obtain ⟨e, rfl, ev0, ev1⟩ := qH e3
  obtain ⟨n, rfl, n0, n1⟩ := qH e4
  obtain ⟨q, rs, rfl, hq, lr⟩ := Cv e6
  change ite ((fnd os l).isSome = true) _ _ at k
  have g := DGet.k (k := .inr ⟨⟨l⟩⟩) J.dc
  rw [lw] at g
  refine ⟨_, _, _, _, hp, T.aN, T.bB, lkb _, d, _, rfl, g, ?_⟩
  cases ef : fnd os l with
  | some o => rw [ef] at k; exact itp rfl ⟨one, k⟩
  | none =>
   rw [ef, if_neg (by intro z; cases z)] at k
   refine itn (by intro z; cases z) ?_
   intro x dx hx hdx ne
   have qn : q ≠ x := au hq hx
   have qd : q ≠ dx := au hq hdx
   refine ⟨aA (aA hN rfl) rfl, dx, rs, ai, ⟨f0, f1⟩, ev0, ⟨by omega, n1⟩, (ay qn).trans ((ay qd).trans hq), by omega, fun ag rt ad H' h1 h2 h3 fad kp hN' => ?_⟩
   have kp0 := oS hx hdx kp
   have J1 := J.keep kp0 List.not_mem_nil List.not_mem_nil fun _ _ => ⟨List.not_mem_nil, List.not_mem_nil, List.not_mem_nil, List.not_mem_nil⟩
   obtain ⟨dx1, hp1⟩ := J1.ob
   have smk : (os.map kyO).length < sizeLine := by rw [List.length_map]; omega
   refine ⟨_, _, _, _, hp1, T.aN, T.bB, lkb _, d, _, rfl, DPut.k (k := .inr ⟨⟨l⟩⟩) J1.dc smk, ?_⟩
   rw [Bc ef ⟨l, x, ag, rt, ad, f, e, n, x5, rs, 0⟩ rfl]
   exact k ⟨l, x, ag, rt, ad, f, e, n, x5, rs, 0⟩ q _ rfl rfl rfl rfl rfl rfl hq rfl hx (oC fad) (J.more kp0 (o := ⟨l, x, ag, rt, ad, f, e, n, x5, rs, 0⟩) ef hx ⟨⟨dx, h1⟩, h2, h3⟩) ((kp0.mono (fun _ h => nomatch h)).put (.head _)) (aA hN' rfl)
 ·rw [e6, if_neg (by decide)] at k; exact k
theorem jR (x : V) : List.lookup (Str.ofString "order") [(Str.ofString "by_name", x)] = none := by rw [lH (by decide +kernel)]; rfl
def sp_vB (S O : Addr) : Sp := sp1 fun x H Q _ => NoT H /\ asR x fun p => ∃ d os, SAt S O H p d os /\ os.length < 64 /\ ∀ out : List (List Nat), out.Perm (os.map (·.nm)) -> InO out -> ∀ q, H q = none -> Q (.ref q) (upd H q (.lst (out.map L2.T)))
theorem m7 (T : Txt K mg a) : bv P w K mg base (XE P w) 1 a.eS a.hZ ["self"] (sp_vB a.aq a.aj) := by
 refine T.iz.okG md (fun vs H Q E h => sp1.len h) (fun cdv A outer s H vs Q E hr h => ?_)
 obtain ⟨x0, rfl, h⟩ := sp1.inv h
 try dsimp only [sp_vB, sp1] at h
 obtain ⟨hN, h1⟩ := h
 obtain ⟨p, rfl, d, os, J, h64, k⟩ := asR.inv h1
 obtain ⟨dx, hp⟩ := J.ob
 refine ⟨hN, _, (ao (aC (aE (rA rfl) rfl T.qX oP (FA.pa (aa (dJ K (fv 0)) ae))))), ?_⟩
 walk_at "rd"
 refine ⟨_, _, _, _, hp, T.aN, T.bB, lkb _, _, os.map (·.nm), J.dc, by rw [List.map_map, List.map_map]; rfl, by rw [List.length_map]; exact h64, fun out h1 h2 q hq => ⟨_, Gc.one (ak _ hq) hq ai rfl, k out h1 h2 q hq⟩⟩
def sp_ww (S O no : Addr) : Sp := sp2 fun x y H Q E => NoT H /\ asR x fun p => asK H y fun _ => ∃ d os, SAt S O H p d os /\ p_ (H := H) E no (ff os y) fun c => Q (.ref c.ag) H
theorem gZ (T : Txt K mg a) : bv P w K mg base (XE P w) 2 a.eM a.hV ["self", "name"] (sp_ww a.aq a.aj a.aR) := by
 refine T.eT.okG mH (fun vs H Q E h => sp2.len h) (fun cdv A outer s H vs Q E hr h => ?_)
 obtain ⟨x0, x1, rfl, h⟩ := sp2.inv h
 try dsimp only [sp_ww, sp2] at h
 obtain ⟨hN, h1⟩ := h
 obtain ⟨p, rfl, h2⟩ := asR.inv h1
 obtain ⟨t, ht, hb, d, os, J, k⟩ := asK.inv h2
 obtain ⟨dx, hp⟩ := J.ob
 have G_Standing_order := @cF P w K mg base a T
 have b_Standing_order := cD T.cb
 refine ⟨hN, _, (ao (aC (dJ K (b9 (fv 0) T.aN T.cG G_Standing_order (hr.mono (by decide)) b_Standing_order .nil aL (FA.pa (aa (fv 1) ae)))))), ?_⟩
 walk_at "rd"
 refine ⟨_, _, hp, jR _, hN, asK.of ht ⟨d, os, J, ?_⟩⟩
 cases e : ff os x1 with
 | none => rw [e] at k; exact ⟨H, Gc.none (Same.refl _), k⟩
 | some c =>
  rw [e] at k
  obtain ⟨dc, ho⟩ := (J.od c (jS e)).ob
  exact ⟨_, _, _, _, ho, T.bg, T.d9, GA .., k⟩
def sp_yW (S O no : Addr) : Sp := sp2 fun x y H Q E => NoT H /\ asR x fun p => asK H y fun _ => ∃ d os, SAt S O H p d os /\ p_ (H := H) E no (ff os y) fun c => Q (.int c.go) H
theorem eN (T : Txt K mg a) : bv P w K mg base (XE P w) 2 a.fE a.iu ["self", "name"] (sp_yW a.aq a.aj a.aR) := by
 refine T.dH.okG nC (fun vs H Q E h => sp2.len h) (fun cdv A outer s H vs Q E hr h => ?_)
 obtain ⟨x0, x1, rfl, h⟩ := sp2.inv h
 try dsimp only [sp_yW, sp2] at h
 obtain ⟨hN, h1⟩ := h
 obtain ⟨p, rfl, h2⟩ := asR.inv h1
 obtain ⟨t, ht, hb, d, os, J, k⟩ := asK.inv h2
 obtain ⟨dx, hp⟩ := J.ob
 have G_Standing_order := @cF P w K mg base a T
 have b_Standing_order := cD T.cb
 refine ⟨hN, _, (ao (aC (dJ K (b9 (fv 0) T.aN T.cG G_Standing_order (hr.mono (by decide)) b_Standing_order .nil aL (FA.pa (aa (fv 1) ae)))))), ?_⟩
 walk_at "rd"
 refine ⟨_, _, hp, jR _, hN, asK.of ht ⟨d, os, J, ?_⟩⟩
 cases e : ff os x1 with
 | none => rw [e] at k; exact ⟨H, Gc.none (Same.refl _), k⟩
 | some c =>
  rw [e] at k
  obtain ⟨dc, ho⟩ := (J.od c (jS e)).ob
  exact ⟨_, _, _, _, ho, T.bg, T.bR, DN .., k⟩
def jj (os : List Od) (l : List Nat) (f : Od -> Od) : List Od := os.map fun z => if z.nm = l then f z else z
theorem m6 {β : Type} {os : List Od} {l : List Nat} {f : Od -> Od} (g : Od -> β) (h : ∀ z, g (f z) = g z) : (jj os l f).map g = os.map g := by
 unfold jj
 rw [List.map_map]
 apply List.map_congr_left
 intro z _
 show g (if z.nm = l then f z else z) = g z
 split
 ·exact h z
 ·rfl
theorem vO {os : List Od} {l : List Nat} {f : Od -> Od} {z : Od} (h : z ∈ jj os l f) : ∃ y ∈ os, z = if y.nm = l then f y else y := by
 obtain ⟨y, hy, e⟩ := List.mem_map.mp h
 exact ⟨y, hy, e.symm⟩
def stp (i : Int) (z : Od) : Od := { z with go := i }
theorem SAt.step {S O : Addr} {H : Hp} {p d : Addr} {os : List Od} (J : SAt S O H p d os) {u : Od} (hu : u ∈ os) (i : Int) {dx : Addr} (ho : H u.ob = some (.ins O dx (jg (.ref u.ag) (.ref u.ad) (.int u.go)))) : SAt S O (upd H u.ob (.ins O dx (jg (.ref u.ag) (.ref u.ad) (.int i)))) p d (jj os u.nm (stp i)) := by
 have ku : Keep [u.ob] H (upd H u.ob (.ins O dx (jg (.ref u.ag) (.ref u.ad) (.int i)))) := Keep.refl.put (.head _)
 have no : ∀ {x : Addr} {z : HO}, H x = some z -> (∀ k e f, z ≠ .ins k e f) -> x ∉ [u.ob] := fun e n m => bN e ho (fun q => n _ _ _ q) (List.mem_singleton.mp m)
 refine ⟨?_, ?_, fun z hz => ?_, ?_, ?_⟩
 ·obtain ⟨dp, e⟩ := J.ob
  have : p ≠ u.ob := bN e ho (by intro z; injection z with _ _ z; unfold jg at z; cases z)
  exact ⟨dp, (ay this).trans e⟩
 ·rw [m6 (f := stp i) kyO fun _ => rfl]; exact ku _ _ J.dc (no J.dc (by intro _ _ _ z; cases z))
 ·obtain ⟨y, hy, e⟩ := vO hz
  obtain ⟨dy, hoy⟩ := (J.od y hy).ob
  have A := (J.od y hy).ag
  have D := (J.od y hy).ad
  have A' := A.keep ku ⟨no A.ag (by intro _ _ _ z; cases z), no A.rt (by intro _ _ _ z; cases z)⟩
  have D' := ku _ _ D (no D (by intro _ _ _ z; cases z))
  by_cases h : y.nm = u.nm
  ·have : y = u := mM J.np hy hu h
   subst this
   rw [if_pos rfl] at e
   subst e
   exact ⟨⟨dx, ai⟩, A', D'⟩
  ·rw [if_neg h] at e
   subst e
   have nb : z.ob ≠ u.ob := fun q => h (by rw [mM J.na hy hu q])
   exact ⟨⟨dy, (ay nb).trans hoy⟩, A', D'⟩
 ·rw [m6 (f := stp i) _ fun _ => rfl]; exact J.np
 ·rw [m6 (f := stp i) _ fun _ => rfl]; exact J.na
def sp_yT (S O no : Addr) : Sp := sp2 fun x y H Q E => NoT H /\ asR x fun p => asK H y fun _ => ∃ d os, SAt S O H p d os /\ p_ (H := H) E no (ff os y) fun c => ∀ H', SAt S O H' p d (jj os c.nm (stp (if ((dys c.f c.e c.n).length : Int) < c.go + 1 then ((dys c.f c.e c.n).length : Int) else c.go + 1))) -> Keep [c.ob] H H' -> NoT H' -> Q .non H'
theorem o8 (T : Txt K mg a) : bv P w K mg base (XE P w) 2 a.fF a.iH ["self", "name"] (sp_yT a.aq a.aj a.aR) := by
 refine T.ja.okX iB (fun vs H Q E h => sp2.len h) (fun cdv A outer s H vs Q E hr h => ?_)
 obtain ⟨x0, x1, rfl, h⟩ := sp2.inv h
 try dsimp only [sp_yT, sp2] at h
 have ND := iB.nd
 obtain ⟨hN, h1⟩ := h
 obtain ⟨p, rfl, h2⟩ := asR.inv h1
 obtain ⟨t, ht, hb, d, os, J, k⟩ := asK.inv h2
 obtain ⟨dx, hp⟩ := J.ob
 have G_Standing_order := @cF P w K mg base a T
 have b_Standing_order := cD T.cb
 refine ⟨_, (ah (aD (i := 2) ND rfl (Or.inl rfl) (b9 (fv 0) T.aN T.cG G_Standing_order (hr.mono (by decide)) b_Standing_order .nil aL (FA.pa (aa (fv 1) ae))))
  (ao (mS K (fv 2) (aE (nQ rfl) rfl T.qL kK (FA.pa (aa (ap aO (dJ K (fv 2)) ac) (aa (aE (e7 K) rfl T.kb ig (FA.pa (aa (dJ K (fv 2)) ae))) ae))))))), ?_⟩
 walk_at "rd"
 refine ⟨_, _, hp, jR _, hN, asK.of ht ⟨d, os, J, ?_⟩⟩
 cases e : ff os x1 with
 | none => rw [e] at k; exact k
 | some c =>
  rw [e] at k
  have hc := jS e
  obtain ⟨dc, ho⟩ := (J.od c hc).ob
  refine ⟨_, _, _, _, ho, T.bg, T.bR, DN .., ?_⟩
  walk_at "rd"
  refine ⟨_, _, _, _, ho, T.bg, T.cI, Fw .., _, .inl (SqL.of (J.od c hc).ad), ?_⟩
  rw [List.length_map]
  walk_at "rd"
  refine ⟨_, _, _, ho, T.bg, T.bR, by show 3 < 1000; decide, ?_⟩
  rw [F0]
  exact k _ (J.step hc _ ho) (Keep.refl.put (.head _)) (aA hN rfl)
def sp_yx (S O no : Addr) : Sp := sp2 fun x y H Q E => NoT H /\ asR x fun p => asK H y fun _ => ∃ d os, SAt S O H p d os /\ p_ (H := H) E no (ff os y) fun c => ∀ H', SAt S O H' p d (os.filter fun o => decide (o.nm ≠ c.nm)) -> Keep [d] H H' -> NoT H' -> Q .non H'
theorem nS (T : Txt K mg a) : bv P w K mg base (XE P w) 2 a.fH a.iN ["self", "name"] (sp_yx a.aq a.aj a.aR) := by
 refine T.i7.okX ow (fun vs H Q E h => sp2.len h) (fun cdv A outer s H vs Q E hr h => ?_)
 obtain ⟨x0, x1, rfl, h⟩ := sp2.inv h
 try dsimp only [sp_yx, sp2] at h
 obtain ⟨hN, h1⟩ := h
 obtain ⟨p, rfl, h2⟩ := asR.inv h1
 obtain ⟨t, ht, hb, d, os, J, k⟩ := asK.inv h2
 obtain ⟨dx, hp⟩ := J.ob
 have G_Standing_order := @cF P w K mg base a T
 have b_Standing_order := cD T.cb
 refine ⟨_, (ah (cW (b9 (fv 0) T.aN T.cG G_Standing_order (hr.mono (by decide)) b_Standing_order .nil aL (FA.pa (aa (fv 1) ae))))
  (ao (cW (wM (dJ K (fv 0)) (fv 1) ⟨rfl, rfl, rfl, rfl⟩)))), ?_⟩
 walk_at "rd"
 refine ⟨_, _, hp, jR _, hN, asK.of ht ⟨d, os, J, ?_⟩⟩
 cases e : ff os x1 with
 | none => rw [e] at k; exact k
 | some c =>
  rw [e] at k
  have hc := jS e
  obtain ⟨l, rfl, e1⟩ := wL e
  refine ⟨_, _, _, _, hp, T.aN, T.bB, lkb _, d, rfl, .inl ⟨_, .inl J.dc⟩, _, .inr ⟨⟨l⟩⟩, .ref c.ob, J.dc, rfl, by rw [lw, e1]; rfl, ?_⟩
  have ed : kc (os.map kyO) (.inr ⟨⟨l⟩⟩) = (os.filter fun o => decide (o.nm ≠ c.nm)).map kyO := by
   unfold kc
   rw [List.filter_map, (ia e1).2]
   congr 1
   apply List.filter_congr
   intro o _
   show decide ((Sum.inr ⟨⟨o.nm⟩⟩ : Key) ≠ Sum.inr ⟨⟨l⟩⟩) = decide (o.nm ≠ l)
   exact decide_eq_decide.mpr ⟨fun h z => h (by rw [z]), fun h z => h (by cases z; rfl)⟩
  rw [ed]
  have ku : Keep [d] H (upd H d (.dK ((os.filter fun o => decide (o.nm ≠ c.nm)).map kyO))) := Keep.refl.put (.head _)
  have no : ∀ {x : Addr} {z : HO}, H x = some z -> (∀ l, z ≠ .dK l) -> x ∉ [d] := fun e n m => bN e J.dc (fun q => n _ q) (List.mem_singleton.mp m)
  refine k _ ⟨⟨dx, ku _ _ hp (no hp (by intro _ z; cases z))⟩, ai, fun o ho => ?_, J.np.sublist (List.filter_sublist.map _), J.na.sublist (List.filter_sublist.map _)⟩ ku (aA hN rfl)
  have hz := J.od o (List.mem_filter.mp ho).1
  obtain ⟨dz, eo⟩ := hz.ob
  exact hz.keep ku ⟨no eo (by intro _ z; cases z), no hz.ag.ag (by intro _ z; cases z), no hz.ag.rt (by intro _ z; cases z), no hz.ad (by intro _ z; cases z)⟩
theorem EM {ks : List Nat} {tt : TT} {te : TE} {σ : St} {H1 : Hp} {Q : VK} (a : Addr) (xs : List V) (p : V -> Bool) (ha : H1 a = some (.lst xs)) (hz : xs.length < sizeLine)
 (hp : ∀ x ∈ xs, ∀ G (R : Bool -> Hp -> Prop), Same H1 G -> R (p x) G -> tt ([some x] ++ ks.map fun k => (σ[k]?).join) G R)
 (he : ∀ x ∈ xs, ∀ G (R : VK), Same H1 G -> R x G -> te ([some x] ++ ks.map fun k => (σ[k]?).join) G R)
 (k : ∀ D, H1 D = none -> Q (.ref D) (upd H1 D (.lst (xs.filter p)))) : CEl (Itl K a) 1 (h7 0) ks tt te σ H1 Q := by
 refine Bx a xs (fun D i ys G => H1 D = none /\ G = upd H1 D (.lst ys) /\ ys = (xs.take i).filter p) hz ?_ ?_ ?_ ?_
 ·exact fun D hD => ⟨hD, rfl, rfl⟩
 ·rintro D i ys G ⟨hD, rfl, rfl⟩
  exact ⟨ai, SqL.of ((ak _ hD) _ _ ha), Nat.le_trans (List.length_filter_le _ _) (by rw [List.length_take]; omega)⟩
 ·rintro D i y ys G zs N1 N0 hy ⟨hD, rfl, rfl⟩ hzs n1 n0
  have my := List.mem_of_getElem? hy
  obtain ⟨z1, rfl⟩ := ex1 hzs
  have et : xs.take (i + 1) = xs.take i ++ [y] := by rw [List.take_succ, hy]; rfl
  rw [et, List.filter_append] at n1 n0
  refine ⟨⟨[_], rfl, rfl⟩, hp y my _ _ (ak _ hD) ?_⟩
  cases e : p y with
  | false =>
   rw [List.filter_cons_of_neg (by simp [e]), List.filter_nil, List.append_nil] at n0
   exact itn (by decide) (n0 _ ⟨hD, rfl, rfl⟩)
  | true =>
   rw [List.filter_cons_of_pos (by simp [e]), List.filter_nil] at n1
   exact itp rfl (he y my _ _ (ak _ hD) (n1 _ _ ai ⟨hD, by rw [lJ], rfl⟩))
 ·rintro D ys G ⟨hD, rfl, rfl⟩
  rw [List.take_length]
  exact k D hD
theorem wF (xs : List V) (n : Nat) : fX xs (some (n : Int)) none = xs.drop n := by
 unfold fX
 rw [HT.sIx_none, HT.sIx_nat]
 by_cases h : n <= xs.length
 ·rw [Nat.min_eq_left h, List.take_of_length_le (by rw [List.length_drop]; omega)]
 ·rw [Nat.min_eq_right (by omega), List.drop_eq_nil_of_le (Nat.le_refl _), List.drop_eq_nil_of_le (by omega), List.take_nil]
def sp_vS (S O no : Addr) : Sp := sp3 fun x y z H Q E => NoT H /\ asR x fun p => asI z fun u => asK H y fun _ => ∃ d os, SAt S O H p d os /\ p_ (H := H) E no (ff os y) fun c => (0 <= c.go /\ c.n <= 1000) /\ ∀ q, H q = none -> Q (.ref q) (upd H q (.lst ((((dys c.f c.e c.n).drop c.go.toNat).filter fun i => decide (i <= u)).map V.int)))
theorem iO (T : Txt K mg a) : bv P w K mg base (XE P w) 2 a.fG a.iC ["self", "name", "until"] (sp_vS a.aq a.aj a.aR) := by
 refine T.fP.okG iF (fun vs H Q E h => sp3.len h) (fun cdv A outer s H vs Q E hr h => ?_)
 obtain ⟨x0, x1, x2, rfl, h⟩ := sp3.inv h
 try dsimp only [sp_vS, sp3] at h
 have ND := iF.nd
 obtain ⟨hN, h1⟩ := h
 obtain ⟨p, rfl, h2⟩ := asR.inv h1
 obtain ⟨u, rfl, h3⟩ := asI.inv h2
 obtain ⟨t, ht, hb, d, os, J, k⟩ := asK.inv h3
 obtain ⟨dx, hp⟩ := J.ob
 have G_Standing_order := @cF P w K mg base a T
 have b_Standing_order := cD T.cb
 refine ⟨hN, _, (ah (aD (i := 3) ND rfl (Or.inl rfl) (b9 (fv 0) T.aN T.cG G_Standing_order (hr.mono (by decide)) b_Standing_order .nil aL (FA.pa (aa (fv 1) ae))))
  (ao (aC (dE rfl (cl := _) (x := "day") (xs := ["day"]) (fr := ["until"]) (ks := [2]) (by exact ⟨rfl, by decide +kernel, rfl, by decide +kernel, rfl, dA rfl, rfl, bb rfl, bb (k := fun y => List.lookup y _) rfl, dB rfl⟩) rfl (lG K (d6 (jL K) (dJ K (fv 3)) (dZ (dJ K (fv 3))) iV)) (fun _ _ _ _ _ => (aS (i := 0) (iA (l := ["day", "until"]) (by decide)) rfl (Or.inl rfl))) (fun _ _ _ _ _ => (j2 (aU mB (fv 0) (fv 1) (aQ _)))) (fun _ _ _ _ _ => (fv 0)))))), ?_⟩
 walk_at "rd"
 refine ⟨_, _, hp, jR _, hN, asK.of ht ⟨d, os, J, ?_⟩⟩
 cases e : ff os x1 with
 | none => rw [e] at k; exact ⟨H, Gc.none (Same.refl _), k⟩
 | some c =>
  rw [e] at k
  have hc := jS e
  obtain ⟨dc, ho⟩ := (J.od c hc).ob
  obtain ⟨⟨g0, n1⟩, k⟩ := k
  have sz : 10000 <= sizeLine := by rw [sizeLine_eq]; decide
  have ld : (dys c.f c.e c.n).length <= c.n.toNat := by
   unfold dys
   rw [List.length_map]
   exact Nat.le_trans (List.length_filter_le _ _) (by rw [List.length_range]; exact Nat.le_refl _)
  dsimp only [p_]
  refine AT ?_
  walk_at "rd"
  refine ⟨_, _, _, _, ho, T.bg, T.cI, Fw .., _, _, _, _, ho, T.bg, T.bR, DN .., _, rfl, c.ad, _, rfl, SqL.of (J.od c hc).ad, fun q fq => ⟨q, rfl, ⟨_, SqL.of ai⟩, ?_⟩⟩
  have eg : c.go = ((c.go.toNat : Nat) : Int) := by omega
  rw [eg, wF]
  refine EM q _ (fun v => match v with | .int i => decide (i <= u) | _ => false) ai (by rw [List.length_drop, List.length_map]; omega) (fun x hx G R m r => ?_) (fun x hx G R m r => r) (fun D hD => ?_)
  ·obtain ⟨i, _, rfl⟩ := List.mem_map.mp (List.mem_of_mem_drop hx)
   walk_at "rd"
   exact r
  ·refine ⟨_, Gc.one ((ak _ fq).trans (ak _ hD)) ((ak _ fq).free hD) ai rfl, ?_⟩
   have := k D ((ak _ fq).free hD)
   rw [<- List.map_drop, List.filter_map]
   exact this
open K3
def sp_at (K : W.Frag) : Sp := sp2 fun x y H Q _ => asR x fun p => asI y fun k => ∃ ns : List Int, SqL K H p (ns.map V.int) /\ 0 <= k /\ Q (.int (ns.getD k.toNat 0)) H
theorem pY (T : Txt K mg a) : bv P w K mg base (XE P w) 1 a.gg a.i6 ["_law_script", "_law_k"] (sp_at K) := by
 refine T.cN.okX qi (fun vs H Q E h => sp2.len h) (fun cdv A outer s H vs Q E hr h => ?_)
 obtain ⟨x0, x1, rfl, h⟩ := sp2.inv h
 try dsimp only [sp_at, sp2] at h
 obtain ⟨p, rfl, h1⟩ := asR.inv h
 obtain ⟨k, rfl, ns, hp, k0, q⟩ := asI.inv h1
 refine ⟨_, (ah (ba (aU y8 (fv 1) (aE (e7 K) rfl T.kb ig (FA.pa (aa (fv 0) ae))) (aQ _)) (ao (aC (aP (aw K) (fv 0) (fv 1) (fun _ _ => rfl)))) aJ)
  (ao (aC ac))), ?_⟩
 walk_at "rd"
 refine ⟨_, .inl hp, ?_⟩
 rw [List.length_map]
 by_cases hk : k < ns.length
 ·exact itp hk ⟨_, _, .inl hp, kX k0 hk, q⟩
 ·have g : ns.getD k.toNat 0 = 0 := by
   have l : ns.length <= k.toNat := by omega
   simp [List.getD, l]
  rw [g] at q
  exact itn hk q
def LET : List Nat := [97, 98, 99, 100, 101, 102, 103, 104, 105, 106, 107, 108, 109, 110, 111, 112, 113, 114, 115, 116, 117, 118, 119, 120, 121, 122]
theorem AH {i : Int} (h0 : 0 <= i) (h1 : i < 26) : atI LET i = some (97 + i.toNat) := by
 obtain ⟨j, rfl⟩ : ∃ j : Nat, i = j := ⟨i.toNat, by omega⟩
 refine aH ?_
 have hb : ∀ k, k < 26 -> LET[k]? = some (97 + k) := by decide
 exact hb j (by omega)
def sg (f : Int) (j : Int) : Nat := 97 + ((f + 5 * j) % 26).toNat
theorem Dx (f j : Int) : 97 <= sg f j /\ sg f j <= 122 := by unfold sg; omega
def NB (c k : Int) : List Nat := if c % 3 = 1 then (List.range (1 + k).toNat).map fun j : Nat => sg (c / 432 % 26) j
 else ((List.range (1 + c / 3 % 12).toNat).map fun j : Nat => sg (c / 432 % 26) j).set (c / 36 % 12 % (1 + c / 3 % 12)).toNat (97 + ((c / 432 % 26 + 5 * (c / 36 % 12 % (1 + c / 3 % 12)) + 1 + k) % 26).toNat)
theorem Ge {c k : Int} (h0 : 0 <= k) (h1 : k <= 11) : nm (NB c k) = true := by
 have lie_of : ∀ l : List Nat, (∀ d ∈ l, 97 <= d /\ d <= 122) -> lie l 97 122 = true := fun l h => by
  unfold lie; rw [List.all_eq_true]; intro d hd; simp [h d hd]
 unfold nm NB
 split
 ·rw [List.length_map, List.length_range, decide_eq_true (by omega), decide_eq_true (by omega), lie_of _ (fun d hd => by
   obtain ⟨j, _, rfl⟩ := List.mem_map.mp hd; exact Dx _ _)]; rfl
 ·rw [List.length_set, List.length_map, List.length_range, decide_eq_true (by omega), decide_eq_true (by omega), lie_of _ (fun d hd => by
   rcases List.mem_or_eq_of_mem_set hd with h | h
   ·obtain ⟨j, _, rfl⟩ := List.mem_map.mp h; exact Dx _ _
   ·omega)]; rfl
def sp_sf : Sp := sp2 fun x y H Q _ => NoT H /\ asI x fun c => asI y fun k => (0 <= k /\ k <= 11) /\ Q (.str ⟨⟨NB c k⟩⟩) H
theorem qq (T : Txt K mg a) : bv P w K mg base (XE P w) 1 a.gw a.i9 ["_law_cell", "_law_k"] sp_sf := by
 refine T.gh.okG i3 (fun vs H Q E h => sp2.len h) (fun cdv A outer s H vs Q E hr h => ?_)
 obtain ⟨x0, x1, rfl, h⟩ := sp2.inv h
 try dsimp only [sp_sf, sp2] at h
 have ND := i3.nd
 have HU := bJ hr
 obtain ⟨hN, h1⟩ := h
 obtain ⟨c, rfl, h2⟩ := asI.inv h1
 obtain ⟨k, rfl, hk, q⟩ := asI.inv h2
 refine ⟨hN, _, (ah (aD (i := 2) ND rfl (Or.inr rfl) (aB [97, 98, 99, 100, 101, 102, 103, 104, 105, 106, 107, 108, 109, 110, 111, 112, 113, 114, 115, 116, 117, 118, 119, 120, 121, 122]))
  (ah (aD (i := 3) ND rfl (Or.inr rfl) (ap aW (ap aY (fv 0) ac) ac))
  (ah (ba (aU (bp K HU) (ap aW (fv 0) ac) ac (aQ _)) (ao (aC (eh K PySem.F.plainAttrs_str PySem.F.slot_str_join PySem.F.type_str_join (qT K) (aB []) (FA.pa (aa (dE rfl (cl := _) (x := "_law_j") (xs := ["_law_j"]) (fr := ["_law_letters", "_law_first"]) (ks := [2, 3]) (by exact ⟨rfl, by decide +kernel, rfl, by decide +kernel, rfl, dA rfl, rfl, bb rfl, bb (k := fun y => List.lookup y _) rfl, dB rfl⟩) rfl (cw rfl T.cx (FA.pa (aa (ap aO ac (fv 1)) ae))) (fun _ _ _ _ _ => (aS (i := 0) (iA (l := ["_law_j", "_law_letters", "_law_first"]) (by decide)) rfl (Or.inl rfl))) (fun _ _ _ _ _ => iX) (fun _ _ _ _ _ => (aP (aw K) (fv 1) (ap aW (ap aO (fv 2) (ap dD ac (fv 0))) ac) (fun _ _ => rfl)))) ae))))) aJ)
  (ah (aD (i := 4) ND rfl (Or.inl rfl) (ap aO ac (ap aW (ap aY (fv 0) ac) ac)))
  (ah (aD (i := 5) ND rfl (Or.inl rfl) (ap aW (ap aW (ap aY (fv 0) ac) ac) (fv 4)))
  (ah (rT (i0 := 6) ND rfl (Or.inl rfl) rfl (cl := _) (x := "_law_j") (xs := ["_law_j"]) (fr := ["_law_letters", "_law_first"]) (ks := [2, 3]) (by exact ⟨rfl, by decide +kernel, rfl, by decide +kernel, rfl, dA rfl, rfl, bb rfl, bb (k := fun y => List.lookup y _) rfl, dB rfl⟩) rfl (cw rfl T.cx (FA.pa (aa (fv 4) ae))) (fun _ _ _ _ _ => (aS (i := 0) (iA (l := ["_law_j", "_law_letters", "_law_first"]) (by decide)) rfl (Or.inl rfl))) (fun _ _ _ _ _ => iX) (fun _ _ _ _ _ => (aP (aw K) (fv 1) (ap aW (ap aO (fv 2) (ap dD ac (fv 0))) ac) (fun _ _ => rfl))))
  (ah (oa (aP (aw K) (fv 2) (ap aW (ap aO (ap aO (ap aO (fv 3) (ap dD ac (fv 5))) ac) (fv 1)) ac) (fun _ _ => rfl)) (Bv (fv 6) (fv 5) vx))
  (ao (aC (eh K PySem.F.plainAttrs_str PySem.F.slot_str_join PySem.F.type_str_join (qT K) (aB []) (FA.pa (aa (fv 6) ae)))))))))))), ?_⟩
 walk_at "rd"
 have sz := szl
 have el : ∀ (j : Nat) (H' : Hp) (R : VK), R (L2.T [sg (c / 432 % 26) j]) H' -> (tOp (gIx K) (jd 1) (tOp (gIC (fun x j => 0 < j) fun i j => V.int (i % j)) (tOp B5 (jd 2) (tOp (gIC CMul fun i j => V.int (i * j)) (tC (V.int 5)) (jd 0))) (tC (V.int 26))))
  [some (V.int j), some (L2.T LET), some (V.int (c / 432 % 26))] H' R := fun j H' R r => by
  unfold LET
  walk_at "rd"
  refine ⟨by omega, ?_⟩
  show match atI LET ((c / 432 % 26 + 5 * (j : Int)) % 26) with | some c => R (L2.T [c]) H' | none => False
  rw [AH (by omega) (by omega)]
  exact r
 split
 ·rename_i hc
  refine cmR (fun _ => True) (fun _ _ _ => trivial) (1 + k).toNat (fun _ => true) (fun j : Nat => L2.T [sg (c / 432 % 26) j]) (fun R r => ?_) (by omega) (fun j hj H R _ r => r) (fun j hj _ H' R _ r => el j H' R r) (fun D hD => ?_)
  ·walk_at "rd"
   rw [show ((1 + k).toNat : Int) = 1 + k by omega] at r; exact r
  ·refine rj (List.range (1 + k).toNat) (fun j : Nat => sg (c / 432 % 26) j) (by rw [ai, List.filter_eq_self.mpr (by simp)]) (by rw [List.length_range]; omega) ⟨H, Gc.none (ak _ hD), ?_⟩
   unfold NB at q
   rw [if_pos hc] at q; exact q
 ·rename_i hc
  refine ⟨by omega, ?_⟩
  have a0 : 0 <= c / 36 % 12 % (1 + c / 3 % 12) := Int.emod_nonneg _ (by omega)
  have a1 : c / 36 % 12 % (1 + c / 3 % 12) < 1 + c / 3 % 12 := Int.emod_lt_of_pos _ (by omega)
  unfold NB at q
  rw [if_neg hc] at q
  generalize c / 36 % 12 % (1 + c / 3 % 12) = at_ at a0 a1 q
  refine cmR (fun _ => True) (fun _ _ _ => trivial) (1 + c / 3 % 12).toNat (fun _ => true) (fun j : Nat => L2.T [sg (c / 432 % 26) j]) (fun R r => ?_) (by omega) (fun j hj H R _ r => r) (fun j hj _ H' R _ r => el j H' R r) (fun D hD => ?_)
  ·walk_at "rd"
   rw [show ((1 + c / 3 % 12).toNat : Int) = 1 + c / 3 % 12 by omega] at r; exact r
  ·refine ⟨by omega, ?_⟩
   show match atI LET ((c / 432 % 26 + 5 * at_ + 1 + k) % 26) with | some c_1 => _ | none => False
   rw [AH (by omega) (by omega)]
   obtain ⟨j, rfl⟩ : ∃ j : Nat, at_ = j := ⟨at_.toNat, by omega⟩
   refine ⟨D, _, _, j, rfl, rfl, ai, Ag (by rw [List.length_map, List.filter_eq_self.mpr (by simp), List.length_range]; omega), ?_⟩
   rw [lJ]
   refine rj ((((List.range (1 + c / 3 % 12).toNat).map fun j : Nat => sg (c / 432 % 26) j)).set j (97 + ((c / 432 % 26 + 5 * (j : Int) + 1 + k) % 26).toNat)) (fun x => x) (by rw [ai, List.filter_eq_self.mpr (by simp), List.map_set, List.map_map]; rfl) (by rw [List.length_set, List.length_map, List.length_range]; omega) ⟨H, Gc.none (ak _ hD), ?_⟩
   rw [List.map_id']; exact q
theorem gf {ta : TA} {g : TG} {tb : TS} {D : fk} {σ : St} {H : Hp} (h : ta σ H fun vs H1 => ∃ j : Int, vs = [.int j] /\ -(2 ^ 62) <= j /\ j < 2 ^ 62 /\ FE (Itr 0 j.toNat) g tb D σ H1) : xx (Bf ta) g tb D σ H := h
theorem sM {ta : TA} {g : TG} {tb : TS} {D : fk} {σ : St} {H : Hp} (h : ta σ H fun vs H1 => ∃ i j : Int, vs = [.int i, .int j] /\ (-(2 ^ 62) <= i /\ i < 2 ^ 62 /\ -(2 ^ 62) <= j /\ j < 2 ^ 62) /\ FE (Itr i (j - i).toNat) g tb D σ H1) : xx (zU ta) g tb D σ H := h
def sp_yo : Sp := sp1 fun x H Q _ => NoT H /\ asI x fun m => Q (.int (lg m)) H
theorem lE (T : Txt K mg a) : bv P w K mg base (XE P w) 1 a.ju a.nc ["_law_month"] sp_yo := by
 refine T.dY.okG mX (fun vs H Q E h => sp1.len h) (fun cdv A outer s H vs Q E hr h => ?_)
 obtain ⟨x0, rfl, h⟩ := sp1.inv h
 try dsimp only [sp_yo, sp1] at h
 have ND := mX.nd
 have HU := bJ hr
 obtain ⟨hN, h1⟩ := h
 obtain ⟨m, rfl, k⟩ := asI.inv h1
 have sz := szl
 refine ⟨hN, _, (ah (aD (i := 1) ND rfl (Or.inl rfl) (ap aO ac (ap aY (fv 0) ac)))
  (ah (ba (L2.PW.pt (rR (aU (bp K HU) (ap aW (fv 0) ac) ac (aQ _)) (m_ (L2.PW.pt (il (aU (bp K HU) (ap aW (fv 1) ac) ac (aQ _)) (eE (L2.PW.pt (rR (aU (bp K HU) (ap aW (fv 1) ac) ac (aQ _)) (m_ (aU (eW K HU) (ap aW (fv 1) ac) ac (aQ _))))))))))) (ao (aC ac)) aJ)
  (ao (aC (ci (FA.pa (aa ac (aa ac (aa ac (aa ac (aa ac (aa ac (aa ac (aa ac (aa ac (aa ac (aa ac (aa ac ae))))))))))))) (ap aW (fv 0) ac) (fun _ _ => rfl)))))), ?_⟩
 walk_at "rd"
 have b0 : 0 <= m % 12 := Int.emod_nonneg _ (by decide)
 have b1 : m % 12 < 12 := Int.emod_lt_of_pos _ (by decide)
 have e1 : lg m = LG (2000 + m / 12) (1 + m % 12) := rfl
 rw [e1] at k
 generalize 2000 + m / 12 = y at k
 generalize m % 12 = z at k b0 b1
 have fin : ¬ (z = 1 /\ ((y % 4 = 0 /\ y % 100 ≠ 0) \/ y % 400 = 0)) -> NoT H /\ 12 <= sizeLine /\ ∀ (p : Addr), H p = none -> hX [V.int 31, V.int 28, V.int 31, V.int 30, V.int 31, V.int 30, V.int 31, V.int 31, V.int 30, V.int 31, V.int 30, V.int 31] H H (fun v H' => ∃ G, Gc H G H' /\ Q v G) (V.int z) := fun hn => by
  refine ⟨hN, by walk_at "om", fun p hp => iG (ns := [31, 28, 31, 30, 31, 30, 31, 31, 30, 31, 30, 31]) b0 b1 ⟨H, Gc.refl, ?_⟩⟩
  have e2 : List.getD [31, 28, 31, 30, 31, 30, 31, 31, 30, 31, 30, 31] z.toNat (0 : Int) = LG y (1 + z) := by
   have hc : z = 0 \/ z = 1 \/ z = 2 \/ z = 3 \/ z = 4 \/ z = 5 \/ z = 6 \/ z = 7 \/ z = 8 \/ z = 9 \/ z = 10 \/ z = 11 := by omega
   unfold LG
   rcases hc with h | h | h | h | h | h | h | h | h | h | h | h <;> subst h
   all_goals first
    | rfl
    | (rw [if_pos (by decide), if_neg fun w => hn ⟨rfl, w⟩]; rfl)
  rw [e2]; exact k
 have leap : z = 1 -> ((y % 4 = 0 /\ y % 100 ≠ 0) \/ y % 400 = 0) -> Q (.int 29) H := fun h1 h2 => by
  subst h1
  unfold LG at k
  rw [if_pos (by decide), if_pos h2] at k; exact k
 by_cases h1 : z = 1
 ·refine itp h1 ?_
  by_cases h2 : y % 400 = 0
  ·exact itp h2 (leap h1 (.inr h2))
  refine itn h2 ?_
  by_cases h3 : y % 4 = 0
  ·refine itp h3 ?_
   by_cases h4 : y % 100 = 0
   ·exact itp h4 (fin fun w => w.2.elim (fun v => v.2 h4) h2)
   ·exact itn h4 (leap h1 (.inl ⟨h3, h4⟩))
  ·exact itn h3 (fin fun w => w.2.elim (fun v => h3 v.1) h2)
 ·exact itn h1 (fin fun w => h1 w.1)
def sp_AM : Sp := sp2 fun x y H Q _ => NoT H /\ asI x fun m => asI y fun pl => (0 <= m /\ m <= 100000) /\ Q (.int (dy m pl)) H
theorem jT (T : Txt K mg a) : bv P w K mg base (XE P w) 2 a.li a.pQ ["_law_month", "_law_place"] sp_AM := by
 refine T.c_.okG pH (fun vs H Q E h => sp2.len h) (fun cdv A outer s H vs Q E hr h => ?_)
 obtain ⟨x0, x1, rfl, h⟩ := sp2.inv h
 try dsimp only [sp_AM, sp2] at h
 have ND := pH.nd
 obtain ⟨hN, h1⟩ := h
 obtain ⟨m, rfl, h2⟩ := asI.inv h1
 obtain ⟨pl, rfl, hm, k⟩ := asI.inv h2
 have G__law_long := @lE P w K mg base a T
 have b__law_long := mw T.dY
 refine ⟨hN, _, (ah (aD (i := 2) ND rfl (Or.inl rfl) (ap aY (fv 0) ac))
  (ah (aD (i := 3) ND rfl (Or.inl rfl) (ap aO (ap gv (ap aO (ap dD ac (fv 2)) (ap aY (ap aO (fv 2) ac) ac)) (ap aY (ap aO (fv 2) ac) ac)) (ap aY (ap aO (fv 2) ac) ac)))
  (ah (gM (by passes_own) rfl (jW rfl T.cx (FA.pa (aa (ap dD ac (fv 2)) (aa (fv 0) ae)))) (aS (i := 4) ND rfl (Or.inl rfl)) (ao (aD (i := 3) ND rfl (Or.inl rfl) (ap aO (fv 3) (ar G__law_long (hr.mono (by decide)) rfl T.ji T.dY.kp b__law_long .nil aL (FA.pa (aa (fv 4) ae)))))))
  (ao (aC (ap gv (ap aO (fv 3) (aE (nQ rfl) rfl T.qL kK (FA.pa (aa (fv 1) (aa (ar G__law_long (hr.mono (by decide)) rfl T.ji T.dY.kp b__law_long .nil aL (FA.pa (aa (fv 0) ae))) ae))))) ac)))))), ?_⟩
 walk_at "rd"
 refine sM ?_
 walk_at "rd"
 have b0 : 0 <= m % 12 := Int.emod_nonneg _ (by decide)
 have b1 : m % 12 < 12 := Int.emod_lt_of_pos _ (by decide)
 have e0 : 12 * (m / 12) + m % 12 = m := Int.mul_ediv_add_emod m 12
 have ef : 365 * (m / 12) + (m / 12 + 3) / 4 - (m / 12 + 99) / 100 + (m / 12 + 399) / 400 = FD (12 * (m / 12)) := by
  rw [yI (y := m / 12) (a := 0) (by omega) (by decide) (by decide), if_neg (by decide)]
  have : S 0 = 0 := by decide
  rw [this]
  unfold LD; omega
 rw [ef]
 refine ⟨_, _, ⟨rfl, rfl⟩, ⟨by omega, by omega, by omega, by omega⟩, ?_⟩
 refine dw (lo := 12 * (m / 12)) (n := (m - 12 * (m / 12)).toNat) (fun i σ' H' => H' = H /\ ∃ z, σ' = [some (.int m), some (.int pl), some (.int (m / 12)), some (.int (FD (12 * (m / 12) + i))), z]) ⟨rfl, none, by rw [Int.natCast_zero, Int.add_zero]⟩ ?_ ?_
 ·rintro i σ' H' hi ⟨rfl, z, rfl⟩
  walk_at "rd"
  refine ⟨hN, ?_⟩
  rw [<- yr, Int.natCast_add, Int.add_assoc]
  exact ⟨_, rfl, rfl⟩
 ·rintro σ' H' ⟨rfl, z, rfl⟩
  rw [show 12 * (m / 12) + (((m - 12 * (m / 12)).toNat : Nat) : Int) = m by omega]
  walk_at "rd"
  unfold dy at k
  exact ⟨hN, k⟩
theorem Fn (xs : List V) {i : Int} (h : 0 <= i) : fX xs none (some i) = xs.take i.toNat := by
 unfold fX
 have e : i = ((i.toNat : Nat) : Int) := by walk_at "om"
 rw [e, HT.sIx_none, HT.sIx_nat, List.drop_zero, Nat.sub_zero]
 by_cases hl : i.toNat <= xs.length
 ·rw [Nat.min_eq_left hl]; rfl
 ·rw [Nat.min_eq_right (by walk_at "om"), List.take_of_length_le (by walk_at "om"), List.take_of_length_le (by simp; omega)]
theorem eJ {H H' : Hp} {D : Addr} {o : HO} (s : Same H H') (h : H D = none) : Same H (upd H' D o) := fun c z e => by
 rw [ay (au e h)]; exact s _ _ e
theorem Dg {p : Int -> Bool} : ∀ {l : List Int} {i : Nat} {d : Int}, l[i]? = some d -> (∀ x ∈ l.take i, p x = true) -> p d = false -> l.takeWhile p = l.take i
 | [], i, d, h, _, _ => by simp at h
 | a :: r, 0, d, h, _, hd => by
  cases h
  rw [List.takeWhile_cons_of_neg (by rw [hd]; decide)]; rfl
 | a :: r, i + 1, d, h, hx, hd => by
  rw [List.takeWhile_cons_of_pos (hx a (by simp)), List.take_succ_cons, Dg (by simpa using h) (fun x m => hx x (by rw [List.take_succ_cons]; exact .tail _ m)) hd]
theorem AL {p : Int -> Bool} : ∀ {l : List Int}, (∀ x ∈ l, p x = true) -> l.takeWhile p = l
 | [], _ => rfl
 | a :: r, h => by rw [List.takeWhile_cons_of_pos (h a (by simp)), AL fun x m => h x (.tail _ m)]
def PrA (H : Hp) (v : V) (d : Int) : Prop := ∃ p m, v = .ref p /\ H p = some (.tup [.int d, .int m])
def dl (m pl e : Int) (g N : Nat) : List Int := ((List.range N).map fun j : Nat => dy (m + j * e) pl).drop g
def sp_yN : Sp := sp2 fun x y H Q _ => NoT H /\ asR x fun q => asI y fun u => ∃ m pl e n g : Int, ∃ tl, H q = some (.lst ([.int m, .int pl, .int e, .int n, .int g] ++ tl)) /\ (0 <= m /\ m <= 4799) /\ (1 <= e /\ e <= 120) /\ (0 <= n /\ n <= 1000) /\ (0 <= g /\ g <= 1000) /\
 ∀ r vs H', Same H H' -> NoT H' -> H r = none -> H' r = some (.lst vs) -> A2 (PrA H') vs ((dl m pl e g.toNat (NN m e n)).takeWhile fun i => decide (i <= u)) -> Q (.ref r) H'
theorem ui (T : Txt K mg a) : bv P w K mg base (XE P w) 3 a.hU a.mi ["_law_order", "_law_until"] sp_yN := by
 refine T.jA.okX mj (fun vs H Q E h => sp2.len h) (fun cdv A outer s H vs Q E hr h => ?_)
 obtain ⟨x0, x1, rfl, h⟩ := sp2.inv h
 try dsimp only [sp_yN, sp2] at h
 have ND := mj.nd
 obtain ⟨hN, h1⟩ := h
 obtain ⟨q, rfl, h2⟩ := asR.inv h1
 obtain ⟨u, rfl, m, pl, e, n, g, tl, hq, hm, he, hn, hg, k⟩ := asI.inv h2
 have sz := szl
 have G__law_day := @jT P w K mg base a T
 have b__law_day := jM T.c_
 have c2 : ∃ uu, PSs (cS (XE P w) P w K mg base ["_law_order", "_law_until", "_law_month", "_law_place", "_law_every", "_law_times", "_law_gone", "_law_found", "_law_k", "_law_day_here"] "_law_left" (af cz) a.hU cdv A outer s H E) (List.drop 2 (av cz)) uu /\ ∀ r H1, Same H H1 -> NoT H1 -> H r = none -> H1 r = some (.lst []) ->
  uu { nx := fun _ H' => Q .non H', rt := Q } [some (.ref q), some (.int u), some (.int m), some (.int pl), some (.int e), some (.int n), some (.int g), some (.ref r), none, none] H1 := by
  refine ⟨_, (ah (gM (by passes_own) rfl (jW rfl T.cx (FA.pa (aa (fv 6) (aa (aE (nQ rfl) rfl T.qL kK (FA.pa (aa (fv 5) (aa (ap aO (ap aY (ap gv ac (fv 2)) (fv 4)) ac) ae)))) ae)))) (aS (i := 8) ND rfl (Or.inl rfl)) (ah (aD (i := 9) ND rfl (Or.inl rfl) (ar G__law_day (hr.mono (by decide)) rfl T.iR T.c_.kp b__law_day .nil aL (FA.pa (aa (ap aO (fv 2) (ap dD (fv 8) (fv 4))) (aa (fv 3) ae)))))
   (ah (ba (aU yG (fv 9) (fv 1) (aQ _)) (ao (aC (fv 7))) aJ)
   (ao (cW (eh K PySem.F.plainAttrs_list PySem.F.slot_list_append PySem.F.type_list_append eF (fv 7) (FA.pa (aa (eI (FA.pa (aa (fv 9) (aa (ap aO (fv 2) (ap dD (fv 8) (fv 4))) ae)))) ae))))))))
   (ao (aC (fv 7)))), fun r H1 m1 N1 fr g1 => ?_⟩
  walk_at "rd"
  refine sM ?_
  walk_at "rd"
  have q0 : 0 <= (4799 - m) / e := Int.ediv_nonneg (by omega) (by omega)
  have q1 : (4799 - m) / e <= 4799 - m := Int.ediv_le_self _ (by omega)
  generalize hB : (4799 - m) / e + 1 = B at q0 q1
  generalize hj : (if B < n then B else n) = j
  have hN' : NN m e n = j.toNat /\ j <= B /\ 0 <= j /\ j <= 1000 := by
   unfold NN
   rw [hB, <- hj]
   split <;> omega
  refine ⟨by omega, _, _, ⟨rfl, rfl⟩, ⟨by omega, by omega, by omega, by omega⟩, ?_⟩
  have ll : (dl m pl e g.toNat (NN m e n)).length = (j - g).toNat := by
   unfold dl
   rw [List.length_drop, List.length_map, List.length_range]; omega
  generalize hL : dl m pl e g.toNat (NN m e n) = L at k ll
  refine dw (lo := g) (n := (j - g).toNat) (fun i σ' G => ∃ vs x8 x9, Same H G /\ NoT G /\ G r = some (.lst vs) /\ A2 (PrA G) vs (L.take i) /\ (∀ d ∈ L.take i, d <= u) /\ σ' = [some (.ref q), some (.int u), some (.int m), some (.int pl), some (.int e), some (.int n), some (.int g), some (.ref r), x8, x9]) ⟨[], none, none, m1, N1, g1, .nil, (fun _ h => nomatch h), rfl⟩ ?_ ?_
  ·rintro i σ' G hi ⟨vs, x8, x9, mG, NG, gr, A, hu, rfl⟩
   have hd : L[i]? = some (dy (m + (g + i) * e) pl) := by
    rw [<- hL]
    unfold dl
    rw [List.getElem?_drop, List.getElem?_map, List.getElem?_range (by omega)]
    show some (dy (m + ((g.toNat + i : Nat) : Int) * e) pl) = _
    rw [show ((g.toNat + i : Nat) : Int) = g + i by omega]
   have b0 : 0 <= (g + i) * e := Int.mul_nonneg (by omega) (by omega)
   have b1 : (g + i) * e <= 4799 - m := (Int.le_ediv_iff_mul_le (by omega)).mp (by omega)
   have tk : L.take (i + 1) = L.take i ++ [dy (m + (g + i) * e) pl] := by rw [List.take_succ, hd]; rfl
   have lv := A.len
   rw [List.length_take] at lv
   walk_at "rd"
   refine ⟨.inr (by omega), NG, by omega, ?_⟩
   generalize dy (m + (g + ↑i) * e) pl = dd at hd tk
   by_cases h1 : u < dd
   ·refine itp h1 (k r vs G mG NG fr gr ?_)
    rw [Dg hd (fun x hx => by simpa using hu x hx) (by simpa using h1)]; exact A
   ·refine itn h1 ⟨.inl ⟨_, SqL.of gr⟩, .inr (by omega), by walk_at "om", fun p fp => ⟨r, vs, _, rfl, rfl, (ak _ fp) _ _ gr, by omega, ?_⟩⟩
    have np : p ≠ r := fun z => by rw [z, gr] at fp; cases fp
    refine ⟨_, _, _, eJ (mG.trans (ak _ fp)) fr, aA (aA NG rfl) rfl, ai, ?_, ?_, rfl, rfl⟩
    ·rw [tk]
     refine (A.imp fun v d _ _ h => ?_).snoc ⟨p, _, rfl, (ay np).trans ai⟩
     obtain ⟨p', m', rfl, e'⟩ := h
     have n' : p' ≠ r := fun z => by rw [z, gr] at e'; cases e'
     exact ⟨p', m', rfl, (ay n').trans ((ak _ fp) _ _ e')⟩
    ·rw [tk]
     intro d hd'
     rcases List.mem_append.mp hd' with z | z
     ·exact hu d z
     ·rw [List.mem_singleton.mp z]; omega
  ·rintro σ' G ⟨vs, x8, x9, mG, NG, gr, A, hu, rfl⟩
   rw [<- ll, List.take_length] at A hu
   walk_at "rd"
   refine k r vs G mG NG fr gr ?_
   rw [AL fun x hx => by simpa using hu x hx]; exact A
 obtain ⟨u2, hu2, c2⟩ := c2
 refine ⟨_, (ah (oa (d6 (jL K) (fv 0) iV (dZ ac)) (BM K (n := 5) rfl (cv (aS (i := 2) ND rfl (Or.inl rfl)) (cv (aS (i := 3) ND rfl (Or.inl rfl)) (cv (aS (i := 4) ND rfl (Or.inl rfl)) (cv (aS (i := 5) ND rfl (Or.inl rfl)) (cv (aS (i := 6) ND rfl (Or.inl rfl)) qC)))))))
  (ah (aD (i := 7) ND rfl (Or.inl rfl) (cj (FA.pa ae)))
  hu2)), ?_⟩
 walk_at "rd"
 refine ⟨q, _, rfl, SqL.of hq, fun p1 f1 => ?_⟩
 rw [Fn _ (by decide)]
 obtain ⟨H1, ee, m1, g1, N1⟩ := cU (o := HO.lst (List.take (Int.toNat 5) ([V.int m, V.int pl, V.int e, V.int n, V.int g] ++ tl))) f1 hN rfl
 rw [ee]
 refine ⟨p1, [V.int m, V.int pl, V.int e, V.int n, V.int g], rfl, SqL.of g1, rfl, _, _, rfl, _, _, rfl, _, _, rfl, _, _, rfl, _, _, rfl, rfl, Nat.zero_le _, fun r fr => ?_⟩
 exact c2 r _ (m1.trans (ak _ fr)) (aA N1 rfl) (m1.free fr) ai
open K3
abbrev wg : List Nat := [110, 97, 109, 101]
abbrev BC : List Nat := [100, 97, 121]
abbrev lf : List Nat := [99, 111, 117, 110, 116]
abbrev wI : List Nat := [110, 111, 116, 101]
abbrev zX : List Nat := [114, 111, 119]
abbrev oQ : List Nat := [116, 119, 105, 99, 101]
abbrev wV : List Nat := [111, 114, 100, 101, 114]
theorem zK {k : Nat} {A : PySem.Around} (r : RoomC k A) : A.units + 100 < PySem.cLine := by have := r.un; omega
def WDS : List (List Nat) := [wg, BC, lf, wI, zX, oQ, wV]
def WCS (a : Adr) : List Addr := [a.aZ, a.be, a.aT, a.a_, a.bh, a.bF, a.aR]
def sp_yP (a : Adr) : Sp := sp1 fun x H Q _ => asR x fun e => NoT H /\ ∃ (C : Addr) (i : Nat), H e = some (h9 (.ref C) e) /\ (WCS a)[i]? = some C /\ ∀ H', Same H H' -> NoT H' -> Q (L2.T (WDS.getD i [])) H'
theorem ue (T : Txt K mg a) : yy P w K mg base (XE P w) 1 a.gX a.mD ["_law_e"] (sp_yP a) := by
 refine T.jy.okC lT (fun vs H Q E h => sp1.len h) (fun cdv A outer s H vs Q E hr h => ?_)
 obtain ⟨x0, rfl, h⟩ := sp1.inv h
 try dsimp only [sp_yP, sp1] at h
 have ND := lT.nd
 have HU : (wn (XE P w) P w K mg base ["_law_e", "_law_found"] "_law_word" (af cP) a.gX cdv A outer s H E).A.units + 100 < cLine := zK hr
 obtain ⟨e, rfl, hN, C, i, he, hc, k⟩ := asR.inv h
 have sz := szl
 refine ⟨_, (ah (aD (i := 1) ND rfl (Or.inl rfl) (cj (FA.pa (aa (aE (bC K) rfl T.aK aI (FA.pa (aa (fv 0) (aa (hJ (v := .ref a.aZ) rfl T.tm rfl) ae)))) (aa (aE (bC K) rfl T.aK aI (FA.pa (aa (fv 0) (aa (hJ (v := .ref a.be) rfl T.rM rfl) ae)))) (aa (aE (bC K) rfl T.aK aI (FA.pa (aa (fv 0) (aa (hJ (v := .ref a.aT) rfl T.rp rfl) ae)))) (aa (aE (bC K) rfl T.aK aI (FA.pa (aa (fv 0) (aa (hJ (v := .ref a.a_) rfl T.tN rfl) ae)))) ae)))))))
  (ah (aD (i := 1) ND rfl (Or.inl rfl) (ap ud (fv 1) (cj (FA.pa (aa (aE (bC K) rfl T.aK aI (FA.pa (aa (fv 0) (aa (hJ (v := .ref a.bh) rfl T.qJ rfl) ae)))) (aa (aE (bC K) rfl T.aK aI (FA.pa (aa (fv 0) (aa (hJ (v := .ref a.bF) rfl T.yM rfl) ae)))) (aa (aE (bC K) rfl T.aK aI (FA.pa (aa (fv 0) (aa (hJ (v := .ref a.aR) rfl T.sG rfl) ae)))) ae)))))))
  (ah (ba (L2.PW.pt (il (aU (eW K HU) (eh K PySem.F.plainAttrs_list PySem.F.slot_list_count PySem.F.type_list_count (Da K) (fv 1) (FA.pa (aa cL ae))) ac (aQ _)) (eE (bI (bA (aE (bC K) rfl T.aK aI (FA.pa (aa (fv 0) (aa (cE (v := .ty "ValueError") rfl T.uU sr rfl) ae))))))))) (ao (aC (aB [111, 100, 100]))) aJ)
  (ao (aC (ci (FA.pa (aa (aB [110, 97, 109, 101]) (aa (aB [100, 97, 121]) (aa (aB [99, 111, 117, 110, 116]) (aa (aB [110, 111, 116, 101]) (aa (aB [114, 111, 119]) (aa (aB [116, 119, 105, 99, 101]) (aa (aB [111, 114, 100, 101, 114]) ae)))))))) (eh K PySem.F.plainAttrs_list PySem.F.slot_list_index PySem.F.type_list_index (B9 K) (fv 1) (FA.pa (aa cL ae))) (fun _ _ => rfl))))))), ?_⟩
 walk_at "rd"
 obtain ⟨b0, b1, b2, b3, b4, b5, b6, xc, s0, s1, s2, s3, s4, s5, s6, sv, cn, hi, hj⟩ : ∃ b0 b1 b2 b3 b4 b5 b6 : Bool, dh K C /\ W.kitOne K (.ref C) (.ref a.aZ) = some b0 /\ W.kitOne K (.ref C) (.ref a.be) = some b1 /\ W.kitOne K (.ref C) (.ref a.aT) = some b2 /\ W.kitOne K (.ref C) (.ref a.a_) = some b3 /\ W.kitOne K (.ref C) (.ref a.bh) = some b4 /\ W.kitOne K (.ref C) (.ref a.bF) = some b5 /\ W.kitOne K (.ref C) (.ref a.aR) = some b6 /\ W.kitOne K (.ref C) (.type "ValueError") = some true /\ [b0, b1, b2, b3, b4, b5, b6].countP id = 1 /\ [b0, b1, b2, b3, b4, b5, b6][i]? = some true /\ ∀ j, j < i -> [b0, b1, b2, b3, b4, b5, b6][j]? = some false := by
  have hi9 : i < 7 := (List.getElem?_eq_some_iff.mp hc).1
  match i, hi9, hc with
  | 0, _, hc => cases hc; exact ⟨_, _, _, _, _, _, _, T.zO, T.lB, T.oG, T.kJ, T.mh, T.nB, T.qw, T.nj, T.jC, rfl, rfl, by decide⟩
  | 1, _, hc => cases hc; exact ⟨_, _, _, _, _, _, _, T.AZ, T.om, T.qv, T.lQ, T.nP, T.qA, T.rF, T.nX, T.j4, rfl, rfl, by decide⟩
  | 2, _, hc => cases hc; exact ⟨_, _, _, _, _, _, _, T.w8, T.kG, T.ma, T.j7, T.lb, T.mW, T.o_, T.kF, T.jb, rfl, rfl, by decide⟩
  | 3, _, hc => cases hc; exact ⟨_, _, _, _, _, _, _, T.zc, T.lF, T.nz, T.kj, T.l_, T.nJ, T.pX, T.lA, T.jD, rfl, rfl, by decide⟩
  | 4, _, hc => cases hc; exact ⟨_, _, _, _, _, _, _, T.BH, T.oB, T.qj, T.lS, T.oj, T.qz, T.qZ, T.pb, T.j5, rfl, rfl, by decide⟩
  | 5, _, hc => cases hc; exact ⟨_, _, _, _, _, _, _, T.Ch, T.qu, T.rJ, T.oZ, T.qh, T.se, T.sx, T.qk, T.kM, rfl, rfl, by decide⟩
  | 6, _, hc => cases hc; exact ⟨_, _, _, _, _, _, _, T.zk, T.lI, T.oX, T.k_, T.mr, T.oq, T.qg, T.lX, T.jK, rfl, rfl, by decide⟩
 refine ⟨_, b0, he, xc, s0, _, b1, he, xc, s1, _, b2, he, xc, s2, _, b3, he, xc, s3, by walk_at "om", fun p hp => ?_⟩
 have m1 := ak (HO.lst [V.bl b0, V.bl b1, V.bl b2, V.bl b3]) hp
 have he1 := m1 _ _ he
 have hp1 : upd H p (HO.lst [V.bl b0, V.bl b1, V.bl b2, V.bl b3]) p = _ := ai
 have N1 : NoT (upd H p (HO.lst [V.bl b0, V.bl b1, V.bl b2, V.bl b3])) := aA hN rfl
 generalize upd H p (HO.lst [V.bl b0, V.bl b1, V.bl b2, V.bl b3]) = H1 at m1 he1 hp1 N1 ⊢
 refine ⟨_, b4, he1, xc, s4, _, b5, he1, xc, s5, _, b6, he1, xc, s6, by walk_at "om", fun p2 hp2 => ?_⟩
 have m2 := ak (HO.lst [V.bl b4, V.bl b5, V.bl b6]) hp2
 refine ⟨_, _, m2 _ _ hp1, ai, by simp; omega, fun p3 hp3 => ?_⟩
 have m3 := m2.trans (ak (HO.lst ([V.bl b0, V.bl b1, V.bl b2, V.bl b3] ++ [V.bl b4, V.bl b5, V.bl b6])) hp3)
 have he4 := m3 _ _ he1
 have N4 : NoT (upd (upd H1 p2 (HO.lst [V.bl b4, V.bl b5, V.bl b6])) p3 (HO.lst ([V.bl b0, V.bl b1, V.bl b2, V.bl b3] ++ [V.bl b4, V.bl b5, V.bl b6]))) := aA (aA N1 rfl) rfl
 have h4 : upd (upd H1 p2 (HO.lst [V.bl b4, V.bl b5, V.bl b6])) p3 (HO.lst ([V.bl b0, V.bl b1, V.bl b2, V.bl b3] ++ [V.bl b4, V.bl b5, V.bl b6])) p3 = some (.lst ([b0, b1, b2, b3, b4, b5, b6].map V.bl)) := ai
 generalize upd (upd H1 p2 (HO.lst [V.bl b4, V.bl b5, V.bl b6])) p3 (HO.lst ([V.bl b0, V.bl b1, V.bl b2, V.bl b3] ++ [V.bl b4, V.bl b5, V.bl b6])) = H4 at m3 he4 N4 h4 ⊢
 have m4 := m1.trans m3
 refine ⟨.inl ⟨_, SqL.of h4⟩, p3, _, rfl, rfl, SqL.of h4, ?_⟩
 rw [cn]
 walk_at "rd"
 have ke : bi H4 (.ref e) = none := by simp [bi, he4, h9]
 refine itp rfl ?_
 simp only [ke]
 refine ⟨e, _, true, rfl, he4, xc, sv, itn (by decide) ⟨N4, by walk_at "om", fun q hq => ⟨.inl ⟨_, SqL.of ((ak _ hq) _ _ h4)⟩, p3, _, i, rfl, rfl, SqL.of ((ak _ hq) _ _ h4), hi, hj, rfl, ?_⟩⟩⟩
 have ea : atI [L2.T wg, L2.T BC, L2.T lf, L2.T wI, L2.T zX, L2.T oQ, L2.T wV] (i : Int) = some (L2.T (WDS.getD i [])) := by
  have hi9 : i < 7 := (List.getElem?_eq_some_iff.mp hc).1
  refine aH ?_
  show (WDS.map L2.T)[i]? = _
  rw [List.getElem?_map, List.getD_eq_getElem?_getD, List.getElem?_eq_getElem (show i < WDS.length from hi9)]; rfl
 simp only [hX, ea]
 exact k _ m4 N4
theorem rk {H : Hp} {Q : VK} (hN : NoT H) {C : Addr} {i : Nat} (hx : W.exmOne K (.ref C) (.ref a.bO) = some true) (hi : (WCS a)[i]? = some C) (k : ∀ H', Same H H' -> NoT H' -> Q (L2.T (WDS.getD i [])) H') :
 ∃ Ce, Value.ref C = Value.ref Ce /\ W.exmOne K (Value.ref Ce) (Value.ref a.bO) = some true /\ ∀ (e : Addr), H e = none -> NoT (upd H e (h9 (Value.ref Ce) e)) /\ ∃ C i, upd H e (h9 (Value.ref Ce) e) e = some (h9 (Value.ref C) e) /\ (WCS a)[i]? = some C /\ ∀ (H' : Hp), Same (upd H e (h9 (Value.ref Ce) e)) H' -> NoT H' -> Q (L2.T (WDS.getD i [])) H' :=
 ⟨C, rfl, hx, fun e he => ⟨aA hN rfl, C, i, ai, hi, fun H' s n => k H' ((ak _ he).trans s) n⟩⟩
def SG : List Nat := [32, 33, 34, 35, 36, 38, 39, 40, 41, 42, 43, 44, 45, 46, 47, 48, 49, 50, 51, 52, 53, 54, 55, 56, 57, 58, 59, 60, 61, 62, 63, 64, 65, 66, 67, 68, 69, 70, 71, 72, 73, 74, 75, 76, 77, 78, 79, 80, 81, 82, 83, 84, 85, 86, 87, 88, 89, 90, 91, 92, 93, 94, 95, 96, 97, 98, 99, 100, 101, 102, 103, 104, 105, 106, 107, 108, 109, 110, 111, 112, 113, 114, 115, 116, 117, 118, 119, 120, 121, 122, 123, 124, 125, 126]
theorem FG {i : Int} (h0 : 0 <= i) (h1 : i < 94) : atI SG i = some (SG.getD i.toNat 0) := by
 obtain ⟨j, rfl⟩ : ∃ j : Nat, i = j := ⟨i.toNat, by omega⟩
 refine aH ?_
 have hj : j < SG.length := by show j < 94; omega
 rw [Int.toNat_natCast, List.getD_eq_getElem?_getD, List.getElem?_eq_getElem hj]; rfl
theorem Fe {j : Nat} (h : j < 94) : 32 <= SG.getD j 0 /\ SG.getD j 0 <= 126 := by
 have : ∀ j : Nat, j < 94 -> 32 <= SG.getD j 0 /\ SG.getD j 0 <= 126 := by decide
 exact this j h
theorem FF {l : List Nat} (h : ∀ d ∈ l, 32 <= d /\ d <= 126) (hl : l.length <= 40) : nt (stN 32 l) = true := by
 have e1 : stN 32 l = ((l.dropWhile fun d => [32].contains d).reverse.dropWhile fun d => [32].contains d).reverse := rfl
 generalize hm : (l.dropWhile fun d => [32].contains d) = m at e1
 have sm : ∀ d ∈ m, d ∈ l := fun d hd => by rw [<- hm] at hd; exact (List.dropWhile_sublist _).mem hd
 have lm : m.length <= l.length := by rw [<- hm]; exact (List.dropWhile_sublist _).length_le
 have hd : ∀ a r, m = a :: r -> a ≠ 32 := fun a r e z => by
  have := List.head?_dropWhile_not (fun d => [32].contains d) l
  rw [hm, e] at this
  simp [z] at this
 generalize hr : (m.reverse.dropWhile fun d => [32].contains d) = r at e1
 have pr : r.reverse <+: m := by
  have : r <:+ m.reverse := by rw [<- hr]; exact List.dropWhile_suffix _
  have := List.reverse_prefix.mpr this
  rwa [List.reverse_reverse] at this
 have hd2 : ∀ a t, r = a :: t -> a ≠ 32 := fun a t e z => by
  have := List.head?_dropWhile_not (fun d => [32].contains d) m.reverse
  rw [hr, e] at this
  simp [z] at this
 rw [e1]
 unfold nt
 rw [decide_eq_true (by rw [List.length_reverse]; have := pr.length_le; rw [List.length_reverse] at this; omega), Bool.true_and]
 have p1 : rC r.reverse [32] = false := by
  cases e : r.reverse with
  | nil => rfl
  | cons a t =>
   obtain ⟨u, hu⟩ := pr
   rw [e] at hu
   have na := hd a (t ++ u) hu.symm
   unfold rC
   simp [na]
 have p2 : r.reverse.getLast? ≠ some 32 := by
  rw [List.getLast?_reverse]
  cases e : r with
  | nil => intro z; cases z
  | cons a t =>
   intro z
   cases z
   exact hd2 _ t e rfl
 rw [p1, decide_eq_true p2]
 show lie r.reverse 32 126 = true
 unfold lie
 rw [List.all_eq_true]
 intro d hd'
 have := h d (sm d (pr.sublist.mem hd'))
 simp [this]
def sp_yJ : Sp := sp1 fun x H Q _ => NoT H /\ asI x fun c => ∀ l, nt l = true -> Q (L2.T l) H
theorem t5 (T : Txt K mg a) : bv P w K mg base (XE P w) 1 a.jG a.mT ["_law_cell"] sp_yJ := by
 refine T.jp.okG mE (fun vs H Q E h => sp1.len h) (fun cdv A outer s H vs Q E hr h => ?_)
 obtain ⟨x0, rfl, h⟩ := sp1.inv h
 try dsimp only [sp_yJ, sp1] at h
 have ND := mE.nd
 obtain ⟨hN, h1⟩ := h
 obtain ⟨c, rfl, k⟩ := asI.inv h1
 have sz := szl
 refine ⟨hN, _, (ah (aD (i := 1) ND rfl (Or.inr rfl) (aB [32, 33, 34, 35, 36, 38, 39, 40, 41, 42, 43, 44, 45, 46, 47, 48, 49, 50, 51, 52, 53, 54, 55, 56, 57, 58, 59, 60, 61, 62, 63, 64, 65, 66, 67, 68, 69, 70, 71, 72, 73, 74, 75, 76, 77, 78, 79, 80, 81, 82, 83, 84, 85, 86, 87, 88, 89, 90, 91, 92, 93, 94, 95, 96, 97, 98, 99, 100, 101, 102, 103, 104, 105, 106, 107, 108, 109, 110, 111, 112, 113, 114, 115, 116, 117, 118, 119, 120, 121, 122, 123, 124, 125, 126]))
  (ao (aC (eh K PySem.F.plainAttrs_str PySem.F.slot_str_strip PySem.F.type_str_strip A_ (eh K PySem.F.plainAttrs_str PySem.F.slot_str_join PySem.F.type_str_join (qT K) (aB []) (FA.pa (aa (dE rfl (cl := _) (x := "_law_j") (xs := ["_law_j"]) (fr := ["_law_signs", "_law_cell"]) (ks := [1, 0]) (by exact ⟨rfl, by decide +kernel, rfl, by decide +kernel, rfl, dA rfl, rfl, bb rfl, bb (k := fun y => List.lookup y _) rfl, dB rfl⟩) rfl (cw rfl T.cx (FA.pa (aa (ap aW (fv 0) ac) ae))) (fun _ _ _ _ _ => (aS (i := 0) (iA (l := ["_law_j", "_law_signs", "_law_cell"]) (by decide)) rfl (Or.inl rfl))) (fun _ _ _ _ _ => iX) (fun _ _ _ _ _ => (aP (aw K) (fv 1) (ap aW (ap aO (ap aY (fv 2) ac) (ap dD (ap dD ac (fv 0)) (fv 0))) ac) (fun _ _ => rfl)))) ae))) (FA.pa (aa (aB [32]) ae)))))), ?_⟩
 walk_at "rd"
 let sn : Nat -> Nat := fun j => SG.getD ((c / 41 + 7 * (j : Int) * j) % 94).toNat 0
 refine cmR (fun _ => True) (fun _ _ _ => trivial) (c % 41).toNat (fun _ => true) (fun j : Nat => L2.T [sn j]) (fun R r => ?_) (by omega) (fun j hj H R _ r => r) (fun j hj _ H' R _ r => ?_) (fun D hD => ?_)
 ·walk_at "rd"
  rw [show ((c % 41).toNat : Int) = c % 41 by omega] at r; exact r
 ·walk_at "rd"
  refine ⟨.inl (by omega), by walk_at "om", ?_⟩
  show match atI SG ((c / 41 + 7 * (j : Int) * j) % 94) with | some c => R (L2.T [c]) H' | none => False
  rw [FG (by omega) (by omega)]
  exact r
 ·refine rj (List.range (c % 41).toNat) sn (by rw [ai, List.filter_eq_self.mpr (by simp)]) (by rw [List.length_range]; omega) ⟨rfl, ?_⟩
  refine ⟨32, rfl, by show (List.map sn _).length <= _; rw [List.length_map, List.length_range]; omega, H, Gc.none (ak _ hD), ?_⟩
  show Q (L2.T (stN 32 (List.map sn (List.range (c % 41).toNat)))) H
  refine k _ (FF (fun d hd => ?_) ?_)
  ·obtain ⟨j, _, rfl⟩ := List.mem_map.mp hd
   exact Fe (by omega)
  ·rw [List.length_map, List.length_range]; omega
open K3
def GrA (H : Hp) (v : V) : Prop := ∃ q l c i, v = .ref q /\ H q = some (.tup [L2.T l, L2.T c, .int i]) /\ ok l /\ cur c = true /\ (-1000000000000000 <= i /\ i <= 1000000000000000 /\ i ≠ 0)
def sp_ym : Sp := sp1 fun x H Q _ => NoT H /\ asI x fun c => ∀ r vs H', Same H H' -> NoT H' -> H r = none -> H' r = some (.lst vs) -> (2 <= vs.length /\ vs.length <= 4) -> (∀ v ∈ vs, GrA H' v) -> Q (.ref r) H'
theorem tT (T : Txt K mg a) : bv P w K mg base (XE P w) 1 a.jP a.ni ["_law_cell"] sp_ym := by
 refine T.je.okX mf (fun vs H Q E h => sp1.len h) (fun cdv A outer s H vs Q E hr h => ?_)
 obtain ⟨x0, rfl, h⟩ := sp1.inv h
 try dsimp only [sp_ym, sp1] at h
 have ND := mf.nd
 obtain ⟨hN, h1⟩ := h
 obtain ⟨c, rfl, k⟩ := asI.inv h1
 have sz := szl
 refine ⟨_, (ah (aD (i := 1) ND rfl (Or.inl rfl) (cj (FA.pa ae)))
  (ah (gM (by passes_own) rfl (cw rfl T.cx (FA.pa (aa (ap aO ac (ap aW (fv 0) ac)) ae))) (aS (i := 2) ND rfl (Or.inl rfl)) (ah (aD (i := 3) ND rfl (Or.inl rfl) (ap dD (ci (FA.pa (aa ac (aa (r9 kW ac) ae))) (ap aW (ap aO (ap aY (fv 0) ac) (fv 2)) ac) (fun _ _ => rfl)) (ap aO ac (ap aW (ap dD (ap aY (fv 0) ac) (ap aO (fv 2) ac)) (ap um ac ac)))))
  (ah (aD (i := 4) ND rfl (Or.inl rfl) (ci (FA.pa (aa (aB [99, 97, 115, 104]) (aa (aB [99, 97, 115, 104, 58, 116, 105, 108, 108]) (aa (aB []) (aa (aB [97, 32, 98]) ae))))) (ap aW (ap aO (ap aY (fv 0) ac) (fv 2)) ac) (fun _ _ => rfl)))
  (ao (cW (eh K PySem.F.plainAttrs_list PySem.F.slot_list_append PySem.F.type_list_append eF (fv 1) (FA.pa (aa (eI (FA.pa (aa (fv 4) (aa (ci (FA.pa (aa (aB [69, 85, 82]) (aa (aB [69, 85, 83]) (aa (aB [65, 85, 82]) ae)))) (ap aW (ap aY (fv 0) ac) ac) (fun _ _ => rfl)) (aa (fv 3) ae))))) ae))))))))
  (ao (aC (fv 1))))), ?_⟩
 walk_at "rd"
 refine ⟨Nat.zero_le _, fun r fr => gf ?_⟩
 walk_at "rd"
 refine ⟨by omega, by omega, ?_⟩
 refine dw (lo := 0) (n := (2 + c % 3).toNat) (fun i σ' G => ∃ vs x2 x3 x4, Same H G /\ NoT G /\ G r = some (.lst vs) /\ vs.length = i /\ (∀ v ∈ vs, GrA G v) /\ σ' = [some (.int c), some (.ref r), x2, x3, x4]) ⟨[], none, none, none, ak _ fr, aA hN rfl, ai, rfl, (fun _ h => nomatch h), rfl⟩ ?_ ?_
 ·rintro i σ' G hi ⟨vs, x2, x3, x4, mG, NG, gr, lv, hv, rfl⟩
  walk_at "rd"
  refine ⟨NG, by walk_at "om", fun p1 f1 => iG (ns := [1, -1]) (by omega) (by show _ < (2 : Int); omega) ?_⟩
  have s1 : List.getD [1, -1] ((c / 3 + (0 + (i : Int))) % 2).toNat (0 : Int) = 1 \/ List.getD [1, -1] ((c / 3 + (0 + (i : Int))) % 2).toNat (0 : Int) = -1 := by
   have : (c / 3 + (0 + (i : Int))) % 2 = 0 \/ (c / 3 + (0 + (i : Int))) % 2 = 1 := by omega
   rcases this with z | z <;> rw [z]
   ·exact .inl rfl
   ·exact .inr rfl
  generalize List.getD [1, -1] ((c / 3 + (0 + (i : Int))) % 2).toNat (0 : Int) = sg at s1
  walk_at "rd"
  have e15 : (10 : Int) ^ Int.toNat 15 = 1000000000000000 := by decide +kernel
  simp only [e15]
  have a0 : 0 <= c / 6 * (0 + (i : Int) + 1) % 1000000000000000 := Int.emod_nonneg _ (by decide)
  have a1 : c / 6 * (0 + (i : Int) + 1) % 1000000000000000 < 1000000000000000 := Int.emod_lt_of_pos _ (by decide)
  generalize c / 6 * (0 + (i : Int) + 1) % 1000000000000000 = am at a0 a1
  have b0 : -1000000000000000 <= sg * (1 + am) /\ sg * (1 + am) <= 1000000000000000 /\ sg * (1 + am) ≠ 0 := by
   rcases s1 with z | z <;> rw [z] <;> omega
  generalize sg * (1 + am) = amt at b0
  refine ⟨.inr (by omega), by decide, by decide, .inl (by omega), NG, by walk_at "om", fun p2 f2 => sH (ls := [[99, 97, 115, 104], [99, 97, 115, 104, 58, 116, 105, 108, 108], [], [97, 32, 98]]) (by omega) (by show _ < (4 : Int); omega) fun l hl => ⟨.inl ⟨_, SqL.of gr⟩, NG, by walk_at "om", fun p3 f3 => sH (ls := [[69, 85, 82], [69, 85, 83], [65, 85, 82]]) (by omega) (by show _ < (3 : Int); omega) fun cu hcu => ⟨by walk_at "om", fun p f => ⟨r, vs, _, rfl, rfl, (ak _ f) _ _ gr, by omega, ?_⟩⟩⟩⟩
  have okl : ok l := by
   have : ∀ l ∈ [[99, 97, 115, 104], [99, 97, 115, 104, 58, 116, 105, 108, 108], [], [97, 32, 98]], (∀ c ∈ l, c < 128) /\ l.length <= 1000 := by decide
   exact this l hl
  have okc : cur cu = true := by
   have : ∀ l ∈ [[69, 85, 82], [69, 85, 83], [65, 85, 82]], cur l = true := by decide
   exact this cu hcu
  have np : p ≠ r := fun z => by rw [z, gr] at f; cases f
  refine ⟨_, _, _, _, eJ (mG.trans (ak _ f)) fr, aA (aA NG rfl) rfl, ai, by rw [List.length_append, lv]; rfl, fun v hv' => ?_, rfl, rfl, rfl⟩
  rcases List.mem_append.mp hv' with z | z
  ·obtain ⟨q, l', c', i', e1, e2, e3⟩ := hv v z
   have nq : q ≠ r := fun z => by rw [z, gr] at e2; cases e2
   exact ⟨q, l', c', i', e1, (ay nq).trans ((ak _ f) _ _ e2), e3⟩
  ·rw [List.mem_singleton.mp z]
   exact ⟨p, l, cu, amt, rfl, (ay np).trans ai, okl, okc, b0⟩
 ·rintro σ' G ⟨vs, x2, x3, x4, mG, NG, gr, lv, hv, rfl⟩
  walk_at "rd"
  exact k r vs G mG NG fr gr (by omega) hv
open K3
def Grs (H : Hp) (r : V) : Prop := ∃ rq rs, r = .ref rq /\ H rq = some (.lst rs) /\ (2 <= rs.length /\ rs.length <= 4) /\ ∀ v ∈ rs, GrA H v
theorem GrA.same {H H' : Hp} {v : V} (h : GrA H v) (s : Same H H') : GrA H' v := by
 obtain ⟨q, l, c, i, e, e1, r⟩ := h
 exact ⟨q, l, c, i, e, s _ _ e1, r⟩
theorem Grs.same {H H' : Hp} {r : V} (h : Grs H r) (s : Same H H') : Grs H' r := by
 obtain ⟨rq, rs, e, e1, l, g⟩ := h
 exact ⟨rq, rs, e, s _ _ e1, l, fun v m => (g v m).same s⟩
def Spo (at_ : Int) (H : Hp) (o n f e t no r : V) (n' f' e' t' no' r' : V) : Prop :=
 (if at_ = 0 then okV n' /\ Kd H n' /\ nameV n' = false else n' = n) /\
 (if at_ = 1 then Kd H f' /\ amg f' 0 146096 = false else f' = f) /\
 (if at_ = 2 then Kd H e' /\ amg e' 1 120 = false else e' = e) /\
 (if at_ = 3 then Kd H t' /\ amg t' 1 1000 = false else t' = t) /\
 (if at_ = 4 then okV no' /\ Kd H no' /\ ntV no' = false else no' = no) /\
 (if at_ = 5 then RwsX H r' /\ fW H r' = false else r' = r)
theorem jY {xs : List V} {H H1 : Hp} {Q : VK} {i : Int} (h0 : 0 <= i) (h1 : i < xs.length) (h : ∀ v ∈ xs, (cC v = true /\ Q v H) \/ ∃ p o, v = .ref p /\ H p = none /\ H1 p = some o /\ nM o = true /\ Q (.ref p) (upd H p o)) : hX xs H H1 Q (.int i) := by
 obtain ⟨j, rfl⟩ : ∃ j : Nat, i = j := ⟨i.toNat, by omega⟩
 have hj : j < xs.length := by omega
 have e : atI xs (j : Int) = some xs[j] := aH (List.getElem?_eq_getElem hj)
 rcases h _ (List.getElem_mem hj) with ⟨f, q⟩ | ⟨p, o, ev, hp, ho, pl, q⟩
 ·unfold hX
  simp only [e]
  split
  ·rename_i q' e'
   injection e' with e'
   rw [e'] at f; cases f
  ·rename_i v _ e'
   injection e' with e'
   rw [e'] at q; exact q
  ·rename_i e'; cases e'
 ·rw [ev] at e
  exact Aq e hp ho pl q
theorem fa {P : V -> Prop} {x : V} {r : List V} (h : P x) (t : ∀ v ∈ r, P v) : ∀ v ∈ x :: r, P v := fun v m => by
 rcases List.mem_cons.mp m with rfl | m
 ·exact h
 ·exact t v m
theorem fn {P : V -> Prop} : ∀ v ∈ ([] : List V), P v := fun _ m => nomatch m
theorem fw {l : List Nat} (h : ok l) : okV (L2.T l) := fun _ z => by cases z; exact h
theorem nO {x : V} (h : ∀ l, x ≠ .str ⟨⟨l⟩⟩) : okV x := fun l z => absurd z (h l)
instance {l : List Nat} : Decidable (ok l) := inferInstanceAs (Decidable (_ /\ _))
theorem okn {n : List Nat} (h : nm n = true) : (∀ c ∈ n, c < 128) /\ n.length <= 12 := ⟨fun c hc => by have := (w_ h).2.2 c hc; omega, (w_ h).2.1⟩
theorem Kd.same {H H' : Hp} {x : V} (h : Kd H x) (s : Same H H') : Kd H' x := by
 obtain ⟨t, ht⟩ := h
 exact ⟨t, fY s ht⟩
theorem RwsX.same {H H' : Hp} {x : V} (h : RwsX H x) (s : Same H H') : RwsX H' x := by
 rcases h with ⟨q, xs, e, e1, l, g⟩ | ⟨t, ht, n⟩
 ·exact .inl ⟨q, xs, e, s _ _ e1, l, fun y m => (g y m).same s⟩
 ·exact .inr ⟨t, fY s ht, n⟩
theorem zn {H H' : Hp} {x : V} (s : Same H H') (h : RwsX H x) : fW H' x = fW H x := by
 rcases h with ⟨q, xs, rfl, e1, l, g⟩ | ⟨t, ht, n⟩
 ·unfold fW
  simp only [e1, s _ _ e1]
  congr 1
  rw [Bool.eq_iff_iff, List.all_eq_true, List.all_eq_true]
  exact ⟨fun h y m => by rw [<- rb s (g y m)]; exact h y m, fun h y m => by rw [rb s (g y m)]; exact h y m⟩
 ·cases x with
  | ref q =>
   have hk : ∃ o, H q = some o := by
    cases e : H q with
    | none => simp [bi, e] at ht
    | some o => exact ⟨o, rfl⟩
   obtain ⟨o, e⟩ := hk
   unfold fW
   simp only [e, s _ _ e]
   cases o with
   | lst xs => simp [bi, e] at ht; exact absurd ht.symm n
   | _ => rfl
  | _ => rfl
theorem Spo.same {at_ : Int} {H H' : Hp} {o n f e t no r n' f' e' t' no' r' : V} (h : Spo at_ H o n f e t no r n' f' e' t' no' r') (s : Same H H') : Spo at_ H' o n f e t no r n' f' e' t' no' r' := by
 obtain ⟨h0, h1, h2, h3, h4, h5⟩ := h
 unfold Spo
 refine ⟨?_, ?_, ?_, ?_, ?_, ?_⟩
 ·by_cases c : at_ = 0
  ·rw [if_pos c] at h0 ⊢; exact ⟨h0.1, h0.2.1.same s, h0.2.2⟩
  ·rw [if_neg c] at h0 ⊢; exact h0
 ·by_cases c : at_ = 1
  ·rw [if_pos c] at h1 ⊢; exact ⟨h1.1.same s, h1.2⟩
  ·rw [if_neg c] at h1 ⊢; exact h1
 ·by_cases c : at_ = 2
  ·rw [if_pos c] at h2 ⊢; exact ⟨h2.1.same s, h2.2⟩
  ·rw [if_neg c] at h2 ⊢; exact h2
 ·by_cases c : at_ = 3
  ·rw [if_pos c] at h3 ⊢; exact ⟨h3.1.same s, h3.2⟩
  ·rw [if_neg c] at h3 ⊢; exact h3
 ·by_cases c : at_ = 4
  ·rw [if_pos c] at h4 ⊢; exact ⟨h4.1, h4.2.1.same s, h4.2.2⟩
  ·rw [if_neg c] at h4 ⊢; exact h4
 ·by_cases c : at_ = 5
  ·rw [if_pos c] at h5 ⊢; exact ⟨h5.1.same s, by rw [zn s h5.1]; exact h5.2⟩
  ·rw [if_neg c] at h5 ⊢; exact h5
theorem Spo.s0 {H : Hp} {o n f e t no r x : V} (h : okV x /\ Kd H x /\ nameV x = false) : Spo 0 H o n f e t no r x f e t no r := ⟨by rw [if_pos rfl]; exact h, by rw [if_neg (by decide)], by rw [if_neg (by decide)], by rw [if_neg (by decide)], by rw [if_neg (by decide)], by rw [if_neg (by decide)]⟩
theorem Spo.s1 {H : Hp} {o n f e t no r x : V} (h : Kd H x /\ amg x 0 146096 = false) : Spo 1 H o n f e t no r n x e t no r := ⟨by rw [if_neg (by decide)], by rw [if_pos rfl]; exact h, by rw [if_neg (by decide)], by rw [if_neg (by decide)], by rw [if_neg (by decide)], by rw [if_neg (by decide)]⟩
theorem Spo.s2 {H : Hp} {o n f e t no r x : V} (h : Kd H x /\ amg x 1 120 = false) : Spo 2 H o n f e t no r n f x t no r := ⟨by rw [if_neg (by decide)], by rw [if_neg (by decide)], by rw [if_pos rfl]; exact h, by rw [if_neg (by decide)], by rw [if_neg (by decide)], by rw [if_neg (by decide)]⟩
theorem Spo.s3 {H : Hp} {o n f e t no r x : V} (h : Kd H x /\ amg x 1 1000 = false) : Spo 3 H o n f e t no r n f e x no r := ⟨by rw [if_neg (by decide)], by rw [if_neg (by decide)], by rw [if_neg (by decide)], by rw [if_pos rfl]; exact h, by rw [if_neg (by decide)], by rw [if_neg (by decide)]⟩
theorem Spo.s4 {H : Hp} {o n f e t no r x : V} (h : okV x /\ Kd H x /\ ntV x = false) : Spo 4 H o n f e t no r n f e t x r := ⟨by rw [if_neg (by decide)], by rw [if_neg (by decide)], by rw [if_neg (by decide)], by rw [if_neg (by decide)], by rw [if_pos rfl]; exact h, by rw [if_neg (by decide)]⟩
theorem Spo.s5 {H : Hp} {o n f e t no r x : V} (h : RwsX H x /\ fW H x = false) : Spo 5 H o n f e t no r n f e t no x := ⟨by rw [if_neg (by decide)], by rw [if_neg (by decide)], by rw [if_neg (by decide)], by rw [if_neg (by decide)], by rw [if_neg (by decide)], by rw [if_pos rfl]; exact h⟩
theorem kl_ {H : Hp} {p : Addr} {l : List V} : Kd (upd H p (.lst l)) (.ref p) := ⟨"list", by simp [bi, ai]⟩
theorem nk {i lo hi : Int} (h : i < lo \/ hi < i) : amg (.int i) lo hi = false := by
 unfold amg
 simp only [Bool.and_eq_false_iff, decide_eq_false_iff_not]; omega
theorem wY {l : List Nat} (h : cur l = true) : ok l := by
 unfold cur lie at h
 simp only [Bool.and_eq_true, decide_eq_true_eq, List.all_eq_true] at h
 exact ⟨fun d hd => by have := (h.2 d hd).2; omega, by omega⟩
theorem Gu {x : V} (xs : List V) : fX (x :: xs) none (some 1) = [x] := by
 rw [vz _ (by decide)]; rfl
def sp_tQ : Sp := sp3 fun x y z H Q _ => NoT H /\ asR x fun q => asI y fun at_ => asI z fun more => ∃ n f e t no r, H q = some (.tup [n, f, e, t, no, r]) /\ (0 <= at_ /\ at_ <= 5) /\ (at_ = 0 -> ∃ l, n = L2.T l /\ nm l = true) /\ Grs H r /\
 ∀ q' n' f' e' t' no' r' H', Same H H' -> NoT H' -> H' q' = some (.tup [n', f', e', t', no', r']) -> Spo at_ H' .non n f e t no r n' f' e' t' no' r' -> Q (.ref q') H'
theorem qY (T : Txt K mg a) : bv P w K mg base (XE P w) 1 a.bD a.jx ["_law_put_here", "_law_at", "_law_more"] sp_tQ := by
 refine T.e_.okX jv (fun vs H Q E h => sp3.len h) (fun cdv A outer s H vs Q E hr h => ?_)
 obtain ⟨x0, x1, x2, rfl, h⟩ := sp3.inv h
 try dsimp only [sp_tQ, sp3] at h
 have ND := jv.nd
 have HU := bJ hr
 obtain ⟨hN, h1⟩ := h
 obtain ⟨q, rfl, h2⟩ := asR.inv h1
 obtain ⟨at_, rfl, h3⟩ := asI.inv h2
 obtain ⟨more, rfl, n, f, e, t, no, r, hq, hat, hn, hg, k⟩ := asI.inv h3
 have sz := szl
 have p7 : 0 <= more % 7 /\ more % 7 < 7 := by omega
 have c9 : ∃ uu, PSs (cS (XE P w) P w K mg base ["_law_put_here", "_law_at", "_law_more", "_law_name", "_law_first", "_law_every", "_law_times", "_law_note_here", "_law_rows_here", "_law_pick", "_law_far", "_law_row", "_law_odd", "_law_one"] "_law_spoilt" (af aM) a.bD cdv A outer s H E) (List.drop 9 (av aM)) uu /\ (∀ n' f' e' t' no' r' (far : Int) x11 x12 x13 H1, 0 <= far -> Same H H1 -> NoT H1 -> at_ < 6 -> Spo at_ H1 .non n f e t no r n' f' e' t' no' r' -> uu { nx := fun _ H' => Q .non H', rt := Q } [some (.ref q), some (.int at_), some (.int more), some n', some f', some e', some t', some no', some r', some (.int (more % 7)), some (.int far), x11, x12, x13] H1) := by
  refine ⟨_, (ao (aC (eI (FA.pa (aa (fv 3) (aa (fv 4) (aa (fv 5) (aa (fv 6) (aa (fv 7) (aa (fv 8) ae)))))))))), fun n' f' e' t' no' r' far x11 x12 x13 H1 _ m1 N1 _ sp => ?_⟩
  walk_at "rd"
  refine ⟨by walk_at "om", fun q' fq' => k q' n' f' e' t' no' r' _ (m1.trans (ak _ fq')) (aA N1 rfl) ai (sp.same (ak _ fq'))⟩
 obtain ⟨u9, hu9, a9⟩ := c9
 have c8 : ∃ uu, PSs (cS (XE P w) P w K mg base ["_law_put_here", "_law_at", "_law_more", "_law_name", "_law_first", "_law_every", "_law_times", "_law_note_here", "_law_rows_here", "_law_pick", "_law_far", "_law_row", "_law_odd", "_law_one"] "_law_spoilt" (af aM) a.bD cdv A outer s H E) (List.drop 8 (av aM)) uu /\ (∀ n' f' e' t' no' r' (far : Int) x11 x12 x13 H1, 0 <= far -> Same H H1 -> NoT H1 -> at_ < 5 -> Spo at_ H1 .non n f e t no r n' f' e' t' no' r' -> uu { nx := fun _ H' => Q .non H', rt := Q } [some (.ref q), some (.int at_), some (.int more), some n', some f', some e', some t', some no', some r', some (.int (more % 7)), some (.int far), x11, x12, x13] H1) /\ (∀ (far : Int) x11 x12 x13 H1, 0 <= far -> Same H H1 -> NoT H1 -> 5 <= at_ -> uu { nx := fun _ H' => Q .non H', rt := Q } [some (.ref q), some (.int at_), some (.int more), some n, some f, some e, some t, some no, some r, some (.int (more % 7)), some (.int far), x11, x12, x13] H1) := by
  refine ⟨_, (ah (ba (aU (bp K HU) (fv 1) ac (aQ _)) (ah (aD (i := 11) ND rfl (Or.inl rfl) (aP (aw K) (fv 8) ac (fun _ _ => rfl)))
   (ah (aD (i := 12) ND rfl (Or.inl rfl) (cj (FA.pa (aa (eI (FA.pa (aa (aP (aw K) (fv 11) ac (fun _ _ => rfl)) (aa (aP (aw K) (fv 11) ac (fun _ _ => rfl)) (aa ac ae))))) (aa (eI (FA.pa (aa (aP (aw K) (fv 11) ac (fun _ _ => rfl)) (aa (aP (aw K) (fv 11) ac (fun _ _ => rfl)) (aa cL ae))))) (aa (eI (FA.pa (aa (aP (aw K) (fv 11) ac (fun _ _ => rfl)) (aa (aB [101, 117, 114]) (aa ac ae))))) (aa (eI (FA.pa (aa ik (aa (aP (aw K) (fv 11) ac (fun _ _ => rfl)) (aa ac ae))))) (aa (d6 (qF K) (fv 11) iV (dZ ac)) (aa ik (aa (cj (FA.pa (aa (fv 11) ae))) ae))))))))))
   (ah (aD (i := 13) ND rfl (Or.inl rfl) (cj (FA.pa (aa (aP (aw K) (fv 12) (ap aW (ap aY (fv 2) ac) ac) (fun _ _ => rfl)) ae))))
   (ao (aD (i := 8) ND rfl (Or.inl rfl) (ci (FA.pa (aa (cj (FA.pa ae)) (aa (d6 (jL K) (fv 8) iV (dZ ac)) (aa ik (aa (ap Ek (fv 8) ac) (aa (ap ud (fv 8) (fv 13)) (aa (ap ud (fv 13) (fv 8)) (aa (eY (rg K) rfl T.j3 iJ (FA.pa (aa (fv 8) ae))) ae)))))))) (fv 9) (fun _ _ => rfl))))))) aJ)
   hu9), fun n' f' e' t' no' r' far x11 x12 x13 H1 hf m1 N1 la sp => ?_, fun far x11 x12 x13 H1 hf m1 N1 ga => ?_⟩
  ·walk_at "rd"
   exact itn (by omega) (a9 _ _ _ _ _ _ _ _ _ _ H1 hf m1 N1 (by omega) sp)
  ·walk_at "rd"
   by_cases e0 : at_ = 5
   ·refine itp e0 ?_
    obtain ⟨rq, rs, er, hrq, lr, gr⟩ := hg
    subst er
    have KK : ∀ x x11 x12 x13 H', Same H1 H' -> NoT H' -> (RwsX H' x /\ fW H' x = false) -> u9 { nx := fun _ H' => Q .non H', rt := Q } [some (.ref q), some (.int at_), some (.int more), some n, some f, some e, some t, some no, some x, some (.int (more % 7)), some (.int far), x11, x12, x13] H' := fun x x11 x12 x13 H' m2 N2 c => a9 n f e t no x far x11 x12 x13 H' hf (m1.trans m2) N2 (by omega) (e0 ▸ Spo.s5 c)
    have h1 := m1 _ _ hrq
    obtain ⟨v0, rs', rfl⟩ : ∃ v0 rs', rs = v0 :: rs' := by
     cases rs with
     | nil => simp at lr
     | cons v0 rs' => exact ⟨v0, rs', rfl⟩
    obtain ⟨q0, l, c, i, rfl, hq0, okl, okc, hi⟩ := (gr v0 (.head _)).same m1
    have S0 := SqT.of (K := K) hq0
    refine ⟨_, _, .inl (SqL.of h1), aH (j := 0) rfl, _, _, .inr S0, aH (j := 0) rfl, _, _, .inr S0, aH (j := 1) rfl, by walk_at "om", fun p1 f1 => ?_⟩
    obtain ⟨G1, ee, n1, g1, M1⟩ := cU (o := HO.tup [L2.T l, L2.T c, V.int 0]) f1 N1 rfl
    rw [ee]
    have S1 := cO n1 S0
    refine ⟨_, _, .inr S1, aH (j := 0) rfl, _, _, .inr S1, aH (j := 1) rfl, by walk_at "om", fun p2 f2 => ?_⟩
    obtain ⟨G2, ee, n2, g2, M2⟩ := cU (o := HO.tup [L2.T l, L2.T c, V.bl true]) f2 M1 rfl
    rw [ee]
    have S2 := cO n2 S1
    refine ⟨_, _, .inr S2, aH (j := 0) rfl, by walk_at "om", fun p3 f3 => ?_⟩
    obtain ⟨G3, ee, n3, g3, M3⟩ := cU (o := HO.tup [L2.T l, L2.T [101, 117, 114], V.int 5]) f3 M2 rfl
    rw [ee]
    have S3 := cO n3 S2
    refine ⟨_, _, .inr S3, aH (j := 1) rfl, by walk_at "om", fun p4 f4 => ?_⟩
    obtain ⟨G4, ee, n4, g4, M4⟩ := cU (o := HO.tup [V.non, L2.T c, V.int 5]) f4 M3 rfl
    rw [ee]
    have S4 := cO n4 S3
    refine ⟨q0, _, rfl, S4, (by intro z; have z2 : HT.sIx 3 3 (some 2) = 3 := z.2; exact absurd z2 (by decide)), fun p5 f5 => ?_⟩
    obtain ⟨G5, ee, n5, g5, M5⟩ := cU (o := HO.tup (fX [L2.T l, L2.T c, V.int i] none (some 2))) f5 M4 rfl
    rw [ee]
    refine ⟨by walk_at "om", fun p6 f6 => ?_⟩
    obtain ⟨G6, ee, n6, g6, M6⟩ := cU (o := HO.lst [V.ref q0]) f6 M5 rfl
    rw [ee]
    refine ⟨by walk_at "om", fun pp7 f7 => ?_⟩
    obtain ⟨G7, ee, n7, g7, M7⟩ := cU (o := HO.lst [V.ref p1, V.ref p2, V.ref p3, V.ref p4, V.ref p5, V.non, V.ref p6]) f7 M6 rfl
    rw [ee]
    have t7 := n1.trans (n2.trans (n3.trans (n4.trans (n5.trans (n6.trans n7)))))
    have kd3 : ∀ {G : Hp} {q : Addr} {xs : List V}, G q = some (.tup xs) -> (xs.length <= 10 /\ ∀ y ∈ xs, okV y /\ Kd G y /\ cC y = true) -> RwX G (.ref q) := fun e h => ⟨⟨"tuple", by simp [bi, e]⟩, fun q' xs' e1 e2 => by cases e1; rw [e] at e2; cases e2; exact h⟩
    have fT : ∀ {G : Hp} {l : List Nat}, ok l -> okV (L2.T l) /\ Kd G (L2.T l) /\ cC (L2.T l) = true := fun h => ⟨fw h, ⟨_, rfl⟩, rfl⟩
    have fI : ∀ {G : Hp} {i : Int}, okV (.int i) /\ Kd G (.int i) /\ cC (.int i) = true := ⟨nO (by intro _ z; cases z), ⟨_, rfl⟩, rfl⟩
    have fB : ∀ {G : Hp} {i : Bool}, okV (.bl i) /\ Kd G (.bl i) /\ cC (.bl i) = true := ⟨nO (by intro _ z; cases z), ⟨_, rfl⟩, rfl⟩
    have fN : ∀ {G : Hp}, okV .non /\ Kd G .non /\ cC .non = true := ⟨nO (by intro _ z; cases z), ⟨_, rfl⟩, rfl⟩
    have okcu : ok c := wY okc
    have ocv : sy (L2.T c) = true := okc
    have ev : ∀ {G : Hp} {q : Addr} {xs : List V}, G q = some (.tup xs) -> rwV G (.ref q) = rwL xs := fun e => by unfold rwV; simp only [e]
    have c2 : fX [L2.T l, L2.T c, V.int i] none (some 2) = [L2.T l, L2.T c] := rfl
    rw [c2] at g5
    have bad : ∀ v ∈ [V.ref p1, V.ref p2, V.ref p3, V.ref p4, V.ref p5, V.non, V.ref p6], RwX G7 v /\ rwV G7 v = false := by
     have y1 := n7 _ _ (n6 _ _ (n5 _ _ (n4 _ _ (n3 _ _ (n2 _ _ g1)))))
     have y2 := n7 _ _ (n6 _ _ (n5 _ _ (n4 _ _ (n3 _ _ g2))))
     have y3 := n7 _ _ (n6 _ _ (n5 _ _ (n4 _ _ g3)))
     have y4 := n7 _ _ (n6 _ _ (n5 _ _ g4))
     have y5 := n7 _ _ (n6 _ _ g5)
     have y6 := n7 _ _ g6
     refine fa ⟨kd3 y1 ⟨(by show 3 <= 10; decide), fa (fT okl) (fa (fT okcu) (fa fI fn))⟩, ?_⟩ (fa ⟨kd3 y2 ⟨(by show 3 <= 10; decide), fa (fT okl) (fa (fT okcu) (fa fB fn))⟩, ?_⟩ (fa ⟨kd3 y3 ⟨(by show 3 <= 10; decide), fa (fT okl) (fa (fT (by decide)) (fa fI fn))⟩, ?_⟩ (fa ⟨kd3 y4 ⟨(by show 3 <= 10; decide), fa fN (fa (fT okcu) (fa fI fn))⟩, ?_⟩ (fa ⟨kd3 y5 ⟨(by show 2 <= 10; decide), fa (fT okl) (fa (fT okcu) fn)⟩, ?_⟩ (fa ⟨⟨⟨_, rfl⟩, fun _ _ z => nomatch z⟩, rfl⟩ (fa ⟨⟨⟨"list", by simp [bi, y6]⟩, fun q' xs' e1 e2 => by cases e1; rw [y6] at e2; cases e2⟩, by unfold rwV; simp only [y6]⟩ fn))))))
     ·rw [ev y1]; show (sy (L2.T c) && _ && _) = false; rw [ocv]; rfl
     ·rw [ev y2]; show (sy (L2.T c) && _ && _) = false; rw [ocv]; rfl
     ·rw [ev y3]; rfl
     ·rw [ev y4]; rfl
     ·rw [ev y5]; rfl
    obtain ⟨v, hv, bx, bf⟩ : ∃ v, atI [V.ref p1, V.ref p2, V.ref p3, V.ref p4, V.ref p5, V.non, V.ref p6] (more / 7 % 7) = some v /\ RwX G7 v /\ rwV G7 v = false := by
     have a0 : 0 <= more / 7 % 7 := by omega
     obtain ⟨j, hj⟩ : ∃ j : Nat, more / 7 % 7 = j := ⟨(more / 7 % 7).toNat, by omega⟩
     rw [hj]
     have hl : j < [V.ref p1, V.ref p2, V.ref p3, V.ref p4, V.ref p5, V.non, V.ref p6].length := by show j < 7; omega
     have := bad _ (List.getElem_mem hl)
     exact ⟨_, aH (List.getElem?_eq_getElem hl), this.1, this.2⟩
    refine ⟨_, v, .inl (SqL.of g7), hv, by walk_at "om", fun p8 f8 => ?_⟩
    obtain ⟨G8, ee, n8, g8, M8⟩ := cU (o := HO.lst [v]) f8 M7 rfl
    rw [ee]
    have t8 := t7.trans n8
    have r8 := t8 _ _ h1
    have gx : ∀ {G : Hp} {y : V}, GrA G y -> RwX G y := fun ⟨q, l, c, i, e, e1, ol, oc, _⟩ => e ▸ kd3 e1 ⟨(by show 3 <= 10; decide), fa (fT ol) (fa (fT (wY oc)) (fa fI fn))⟩
    have GR : ∀ {G : Hp}, Same G8 G -> ∀ y ∈ V.ref q0 :: rs', RwX G y := fun s y m => gx ((gr y m).same (m1.trans (t8.trans s)))
    have BV : ∀ {G : Hp}, Same G8 G -> RwX G v /\ rwV G v = false := fun s => ⟨bx.same (n8.trans s), by rw [rb (n8.trans s) bx]; exact bf⟩
    have LX : ∀ {G : Hp} {p : Addr} {xs : List V}, G p = some (.lst xs) -> xs.length <= 500 -> (∀ y ∈ xs, RwX G y) -> (xs.length < 2 \/ 200 < xs.length \/ ∃ y ∈ xs, rwV G y = false) -> RwsX G (.ref p) /\ fW G (.ref p) = false := fun {G p xs} e l g b => ⟨.inl ⟨p, xs, rfl, e, l, g⟩, by
     unfold fW; simp only [e]
     rcases b with b | b | ⟨y, m, b⟩
     ·rw [decide_eq_false (by omega)]; rfl
     ·rw [decide_eq_false (p := xs.length <= 200) (by omega), Bool.and_false]; rfl
     ·rw [Bool.and_eq_false_iff]; exact .inr (by rw [List.all_eq_false]; exact ⟨y, m, by rw [b]; decide⟩)⟩
    have UP : ∀ {p : Addr} {xs : List V} {y11 y12 y13}, G8 p = none -> xs.length <= 500 -> (∀ {G : Hp}, Same G8 G -> (∀ y ∈ xs, RwX G y) /\ (xs.length < 2 \/ 200 < xs.length \/ ∃ y ∈ xs, rwV G y = false)) -> u9 { nx := fun _ H' => Q .non H', rt := Q } [some (.ref q), some (.int at_), some (.int more), some n, some f, some e, some t, some no, some (.ref p), some (.int (more % 7)), some (.int far), y11, y12, y13] (upd G8 p (.lst xs)) := fun {p xs _ _ _} fp l b => KK _ _ _ _ _ (t8.trans (ak _ fp)) (aA M8 rfl) (LX ai l (b (ak _ fp)).1 (b (ak _ fp)).2)
    refine ⟨M8, by walk_at "om", fun p fp => ⟨rq, _, rfl, SqL.of (ak _ fp _ _ r8), fun px fx => ⟨_, ak _ fx _ _ (ak _ fp _ _ r8), by decide, by decide, ?_, fun pr fr => ?_⟩⟩⟩
    ·show (V.ref q0 :: rs').length * 101 <= _; omega
    have s1 : Same G8 (upd (upd G8 p (HO.lst [])) px (HO.lst (fX (V.ref q0 :: rs') none (some 1)))) := (ak _ fp).trans (ak _ fx)
    have s2 := s1.trans (ak (HO.lst (List.replicate (101 : Int).toNat (V.ref q0 :: rs')).flatten) fr)
    refine ⟨_, _, s2 _ _ r8, s2 _ _ g8, by show (V.ref q0 :: rs').length + 1 <= _; omega, fun pc fc => ?_⟩
    have s3 := s2.trans (ak (HO.lst ((V.ref q0 :: rs') ++ [v])) fc)
    refine ⟨_, _, s3 _ _ g8, s3 _ _ r8, by show 1 + (V.ref q0 :: rs').length <= _; omega, fun pd fd => ?_⟩
    have s4 := s3.trans (ak (HO.lst ([v] ++ (V.ref q0 :: rs'))) fd)
    refine ⟨_, .inl ⟨SqL.of (s4 _ _ r8), fun pt ft => ?_⟩⟩
    have s5 := s4.trans (ak (HO.tup (V.ref q0 :: rs')) ft)
    have c1 : fX (V.ref q0 :: rs') none (some 1) = [V.ref q0] := Gu rs'
    have len101 : (List.replicate (101 : Int).toNat (V.ref q0 :: rs')).flatten.length = 101 * (V.ref q0 :: rs').length := by
     rw [List.length_flatten, List.map_replicate, List.sum_replicate_nat]; rfl
    have k5 := (ak (HO.tup (V.ref q0 :: rs')) ft)
    have k4 := (ak (HO.lst ([v] ++ (V.ref q0 :: rs'))) fd).trans k5
    have k3 := (ak (HO.lst ((V.ref q0 :: rs') ++ [v])) fc).trans k4
    have k2 := (ak (HO.lst (List.replicate (101 : Int).toNat (V.ref q0 :: rs')).flatten) fr).trans k3
    have k1 := (ak (HO.lst (fX (V.ref q0 :: rs') none (some 1))) fx).trans k2
    have lz : (V.ref q0 :: rs').length <= 4 := lr.2
    have lz2 : 2 <= (V.ref q0 :: rs').length := lr.1
    refine ⟨s5, by walk_at "om", fun p9 f9 => jY p7.1 p7.2 (fa (.inr ⟨p, _, rfl, fp, k1 _ _ ai, rfl, UP fp (Nat.zero_le _) fun s => ⟨(fun _ m => nomatch m), .inl (by decide)⟩⟩) (fa (.inr ⟨px, _, rfl, (ak _ fp).none_of fx, k2 _ _ ai, rfl, UP ((ak _ fp).none_of fx) (by rw [c1]; show 1 <= 500; decide) fun s => ⟨by rw [c1]; exact fa (GR s _ (.head _)) fn, .inl (by rw [c1]; show 1 < 2; decide)⟩⟩) (fa (.inl ⟨rfl, KK _ _ _ _ _ t8 M8 ⟨.inr ⟨_, rfl, by decide⟩, rfl⟩⟩) (fa (.inr ⟨pr, _, rfl, s1.none_of fr, k3 _ _ ai, rfl, UP (s1.none_of fr) (by rw [len101]; omega) fun s => ⟨?_, .inr (.inl (by rw [len101]; omega))⟩⟩) (fa (.inr ⟨pc, _, rfl, s2.none_of fc, k4 _ _ ai, rfl, UP (s2.none_of fc) (by rw [List.length_append]; show _ + 1 <= 500; omega) fun s => ⟨?_, .inr (.inr ⟨v, by simp, (BV s).2⟩)⟩⟩) (fa (.inr ⟨pd, _, rfl, s3.none_of fd, k5 _ _ ai, rfl, UP (s3.none_of fd) (by rw [List.length_append]; show 1 + _ <= 500; omega) fun s => ⟨?_, .inr (.inr ⟨v, by simp, (BV s).2⟩)⟩⟩) (fa (.inr ⟨pt, _, rfl, s4.none_of ft, ai, rfl, KK _ _ _ _ _ (t8.trans (ak _ (s4.none_of ft))) (aA M8 rfl) ⟨.inr ⟨"tuple", by simp [bi, ai], by decide⟩, by unfold fW; simp only [ai]⟩⟩) fn)))))))⟩
    ·intro y m
     obtain ⟨z, mz, my⟩ := List.mem_flatten.mp m
     rw [List.eq_of_mem_replicate mz] at my
     exact GR s y my
    ·intro y m
     rcases List.mem_append.mp m with m | m
     ·exact GR s y m
     ·rw [List.mem_singleton.mp m]; exact (BV s).1
    ·intro y m
     rcases List.mem_append.mp m with m | m
     ·rw [List.mem_singleton.mp m]; exact (BV s).1
     ·exact GR s y m
   ·exact absurd (by omega) e0
 obtain ⟨u8, hu8, a8, b8⟩ := c8
 have c7 : ∃ uu, PSs (cS (XE P w) P w K mg base ["_law_put_here", "_law_at", "_law_more", "_law_name", "_law_first", "_law_every", "_law_times", "_law_note_here", "_law_rows_here", "_law_pick", "_law_far", "_law_row", "_law_odd", "_law_one"] "_law_spoilt" (af aM) a.bD cdv A outer s H E) (List.drop 7 (av aM)) uu /\ (∀ n' f' e' t' no' r' (far : Int) x11 x12 x13 H1, 0 <= far -> Same H H1 -> NoT H1 -> at_ < 4 -> Spo at_ H1 .non n f e t no r n' f' e' t' no' r' -> uu { nx := fun _ H' => Q .non H', rt := Q } [some (.ref q), some (.int at_), some (.int more), some n', some f', some e', some t', some no', some r', some (.int (more % 7)), some (.int far), x11, x12, x13] H1) /\ (∀ (far : Int) x11 x12 x13 H1, 0 <= far -> Same H H1 -> NoT H1 -> 4 <= at_ -> uu { nx := fun _ H' => Q .non H', rt := Q } [some (.ref q), some (.int at_), some (.int more), some n, some f, some e, some t, some no, some r, some (.int (more % 7)), some (.int far), x11, x12, x13] H1) := by
  refine ⟨_, (ah (ba (aU (bp K HU) (fv 1) ac (aQ _)) (ao (aD (i := 7) ND rfl (Or.inl rfl) (ci (FA.pa (aa (aB [32, 97]) (aa (aB [97, 32]) (aa (ap qD (aB [97]) ac) (aa ik (aa ac (aa (cj (FA.pa (aa (aB [97]) ae))) (aa (aB [97, 10, 98]) ae)))))))) (fv 9) (fun _ _ => rfl)))) aJ)
   hu8), fun n' f' e' t' no' r' far x11 x12 x13 H1 hf m1 N1 la sp => ?_, fun far x11 x12 x13 H1 hf m1 N1 ga => ?_⟩
  ·walk_at "rd"
   exact itn (by omega) (a8 _ _ _ _ _ _ _ _ _ _ H1 hf m1 N1 (by omega) sp)
  ·walk_at "rd"
   by_cases e0 : at_ = 4
   ·refine itp e0 ?_
    have K : ∀ x H', Same H1 H' -> NoT H' -> (okV x /\ Kd H' x /\ ntV x = false) -> u8 { nx := fun _ H' => Q .non H', rt := Q } [some (.ref q), some (.int at_), some (.int more), some n, some f, some e, some t, some x, some r, some (.int (more % 7)), some (.int far), x11, x12, x13] H' := fun x H' m2 N2 c => a8 n f e t x r far x11 x12 x13 H' hf (m1.trans m2) N2 (by omega) (e0 ▸ Spo.s4 c)
    refine ⟨N1, by decide, by walk_at "om", fun p fp => ⟨ak _ fp, by walk_at "om", fun p1 fp1 => jY p7.1 p7.2 (fa (.inl ⟨rfl, K _ H1 (Same.refl _) N1 ⟨fw (by decide), ⟨_, rfl⟩, by decide⟩⟩) (fa (.inl ⟨rfl, K _ H1 (Same.refl _) N1 ⟨fw (by decide), ⟨_, rfl⟩, by decide⟩⟩) (fa (.inl ⟨rfl, K _ H1 (Same.refl _) N1 ⟨fw (by decide), ⟨_, rfl⟩, by decide⟩⟩) (fa (.inl ⟨rfl, K _ H1 (Same.refl _) N1 ⟨nO (by intro _ z; cases z), ⟨_, rfl⟩, rfl⟩⟩) (fa (.inl ⟨rfl, K _ H1 (Same.refl _) N1 ⟨nO (by intro _ z; cases z), ⟨_, rfl⟩, rfl⟩⟩) (fa (.inr ⟨p, _, rfl, fp, ai, rfl, K _ _ (ak _ fp) (aA N1 rfl) ⟨nO (by intro _ z; cases z), kl_, rfl⟩⟩) (fa (.inl ⟨rfl, K _ H1 (Same.refl _) N1 ⟨fw (by decide), ⟨_, rfl⟩, by decide⟩⟩) fn)))))))⟩⟩
   ·exact itn e0 (b8 _ _ _ _ H1 hf m1 N1 (by omega))
 obtain ⟨u7, hu7, a7, b7⟩ := c7
 have c6 : ∃ uu, PSs (cS (XE P w) P w K mg base ["_law_put_here", "_law_at", "_law_more", "_law_name", "_law_first", "_law_every", "_law_times", "_law_note_here", "_law_rows_here", "_law_pick", "_law_far", "_law_row", "_law_odd", "_law_one"] "_law_spoilt" (af aM) a.bD cdv A outer s H E) (List.drop 6 (av aM)) uu /\ (∀ n' f' e' t' no' r' (far : Int) x11 x12 x13 H1, 0 <= far -> Same H H1 -> NoT H1 -> at_ < 3 -> Spo at_ H1 .non n f e t no r n' f' e' t' no' r' -> uu { nx := fun _ H' => Q .non H', rt := Q } [some (.ref q), some (.int at_), some (.int more), some n', some f', some e', some t', some no', some r', some (.int (more % 7)), some (.int far), x11, x12, x13] H1) /\ (∀ (far : Int) x11 x12 x13 H1, 0 <= far -> Same H H1 -> NoT H1 -> 3 <= at_ -> uu { nx := fun _ H' => Q .non H', rt := Q } [some (.ref q), some (.int at_), some (.int more), some n, some f, some e, some t, some no, some r, some (.int (more % 7)), some (.int far), x11, x12, x13] H1) := by
  refine ⟨_, (ah (ba (aU (bp K HU) (fv 1) ac (aQ _)) (ao (aD (i := 6) ND rfl (Or.inl rfl) (ci (FA.pa (aa ac (aa ac (aa cL (aa ik (aa (aB [51]) (aa (ap gv (r9 kW ac) (fv 10)) (aa (ap aO ac (fv 10)) ae)))))))) (fv 9) (fun _ _ => rfl)))) aJ)
   hu7), fun n' f' e' t' no' r' far x11 x12 x13 H1 hf m1 N1 la sp => ?_, fun far x11 x12 x13 H1 hf m1 N1 ga => ?_⟩
  ·walk_at "rd"
   exact itn (by omega) (a7 _ _ _ _ _ _ _ _ _ _ H1 hf m1 N1 (by omega) sp)
  ·walk_at "rd"
   by_cases e0 : at_ = 3
   ·refine itp e0 ?_
    have K : ∀ x H', Same H1 H' -> NoT H' -> (Kd H' x /\ amg x 1 1000 = false) -> u7 { nx := fun _ H' => Q .non H', rt := Q } [some (.ref q), some (.int at_), some (.int more), some n, some f, some e, some x, some no, some r, some (.int (more % 7)), some (.int far), x11, x12, x13] H' := fun x H' m2 N2 c => a7 n f e x no r far x11 x12 x13 H' hf (m1.trans m2) N2 (by omega) (e0 ▸ Spo.s3 c)
    refine ⟨N1, by walk_at "om", fun p fp => jY p7.1 p7.2 (fa (.inl ⟨rfl, K _ H1 (Same.refl _) N1 ⟨⟨_, rfl⟩, by decide⟩⟩) (fa (.inl ⟨rfl, K _ H1 (Same.refl _) N1 ⟨⟨_, rfl⟩, by decide⟩⟩) (fa (.inl ⟨rfl, K _ H1 (Same.refl _) N1 ⟨⟨_, rfl⟩, rfl⟩⟩) (fa (.inl ⟨rfl, K _ H1 (Same.refl _) N1 ⟨⟨_, rfl⟩, rfl⟩⟩) (fa (.inl ⟨rfl, K _ H1 (Same.refl _) N1 ⟨⟨_, rfl⟩, rfl⟩⟩) (fa (.inl ⟨rfl, K _ H1 (Same.refl _) N1 ⟨⟨_, rfl⟩, nk (by omega)⟩⟩) (fa (.inl ⟨rfl, K _ H1 (Same.refl _) N1 ⟨⟨_, rfl⟩, nk (by omega)⟩⟩) fn)))))))⟩
   ·exact itn e0 (b7 _ _ _ _ H1 hf m1 N1 (by omega))
 obtain ⟨u6, hu6, a6, b6⟩ := c6
 have c5 : ∃ uu, PSs (cS (XE P w) P w K mg base ["_law_put_here", "_law_at", "_law_more", "_law_name", "_law_first", "_law_every", "_law_times", "_law_note_here", "_law_rows_here", "_law_pick", "_law_far", "_law_row", "_law_odd", "_law_one"] "_law_spoilt" (af aM) a.bD cdv A outer s H E) (List.drop 5 (av aM)) uu /\ (∀ n' f' e' t' no' r' (far : Int) x11 x12 x13 H1, 0 <= far -> Same H H1 -> NoT H1 -> at_ < 2 -> Spo at_ H1 .non n f e t no r n' f' e' t' no' r' -> uu { nx := fun _ H' => Q .non H', rt := Q } [some (.ref q), some (.int at_), some (.int more), some n', some f', some e', some t', some no', some r', some (.int (more % 7)), some (.int far), x11, x12, x13] H1) /\ (∀ (far : Int) x11 x12 x13 H1, 0 <= far -> Same H H1 -> NoT H1 -> 2 <= at_ -> uu { nx := fun _ H' => Q .non H', rt := Q } [some (.ref q), some (.int at_), some (.int more), some n, some f, some e, some t, some no, some r, some (.int (more % 7)), some (.int far), x11, x12, x13] H1) := by
  refine ⟨_, (ah (ba (aU (bp K HU) (fv 1) ac (aQ _)) (ao (aD (i := 5) ND rfl (Or.inl rfl) (ci (FA.pa (aa ac (aa ac (aa cL (aa ik (aa (aB [51]) (aa (ap gv (r9 kW ac) (fv 10)) (aa (ap aO ac (fv 10)) ae)))))))) (fv 9) (fun _ _ => rfl)))) aJ)
   hu6), fun n' f' e' t' no' r' far x11 x12 x13 H1 hf m1 N1 la sp => ?_, fun far x11 x12 x13 H1 hf m1 N1 ga => ?_⟩
  ·walk_at "rd"
   exact itn (by omega) (a6 _ _ _ _ _ _ _ _ _ _ H1 hf m1 N1 (by omega) sp)
  ·walk_at "rd"
   by_cases e0 : at_ = 2
   ·refine itp e0 ?_
    have K : ∀ x H', Same H1 H' -> NoT H' -> (Kd H' x /\ amg x 1 120 = false) -> u6 { nx := fun _ H' => Q .non H', rt := Q } [some (.ref q), some (.int at_), some (.int more), some n, some f, some x, some t, some no, some r, some (.int (more % 7)), some (.int far), x11, x12, x13] H' := fun x H' m2 N2 c => a6 n f x t no r far x11 x12 x13 H' hf (m1.trans m2) N2 (by omega) (e0 ▸ Spo.s2 c)
    refine ⟨N1, by walk_at "om", fun p fp => jY p7.1 p7.2 (fa (.inl ⟨rfl, K _ H1 (Same.refl _) N1 ⟨⟨_, rfl⟩, by decide⟩⟩) (fa (.inl ⟨rfl, K _ H1 (Same.refl _) N1 ⟨⟨_, rfl⟩, by decide⟩⟩) (fa (.inl ⟨rfl, K _ H1 (Same.refl _) N1 ⟨⟨_, rfl⟩, rfl⟩⟩) (fa (.inl ⟨rfl, K _ H1 (Same.refl _) N1 ⟨⟨_, rfl⟩, rfl⟩⟩) (fa (.inl ⟨rfl, K _ H1 (Same.refl _) N1 ⟨⟨_, rfl⟩, rfl⟩⟩) (fa (.inl ⟨rfl, K _ H1 (Same.refl _) N1 ⟨⟨_, rfl⟩, nk (by omega)⟩⟩) (fa (.inl ⟨rfl, K _ H1 (Same.refl _) N1 ⟨⟨_, rfl⟩, nk (by omega)⟩⟩) fn)))))))⟩
   ·exact itn e0 (b6 _ _ _ _ H1 hf m1 N1 (by omega))
 obtain ⟨u5, hu5, a5, b5⟩ := c5
 have c4 : ∃ uu, PSs (cS (XE P w) P w K mg base ["_law_put_here", "_law_at", "_law_more", "_law_name", "_law_first", "_law_every", "_law_times", "_law_note_here", "_law_rows_here", "_law_pick", "_law_far", "_law_row", "_law_odd", "_law_one"] "_law_spoilt" (af aM) a.bD cdv A outer s H E) (List.drop 4 (av aM)) uu /\ (∀ n' f' e' t' no' r' (far : Int) x11 x12 x13 H1, 0 <= far -> Same H H1 -> NoT H1 -> at_ < 1 -> Spo at_ H1 .non n f e t no r n' f' e' t' no' r' -> uu { nx := fun _ H' => Q .non H', rt := Q } [some (.ref q), some (.int at_), some (.int more), some n', some f', some e', some t', some no', some r', some (.int (more % 7)), some (.int far), x11, x12, x13] H1) /\ (∀ (far : Int) x11 x12 x13 H1, 0 <= far -> Same H H1 -> NoT H1 -> 1 <= at_ -> uu { nx := fun _ H' => Q .non H', rt := Q } [some (.ref q), some (.int at_), some (.int more), some n, some f, some e, some t, some no, some r, some (.int (more % 7)), some (.int far), x11, x12, x13] H1) := by
  refine ⟨_, (ah (ba (aU (bp K HU) (fv 1) ac (aQ _)) (ao (aD (i := 4) ND rfl (Or.inl rfl) (ci (FA.pa (aa (r9 kW ac) (aa ac (aa ik (aa cL (aa (aB [53]) (aa (cj (FA.pa (aa ac ae))) (aa (ap aO ac (fv 10)) ae)))))))) (fv 9) (fun _ _ => rfl)))) aJ)
   hu5), fun n' f' e' t' no' r' far x11 x12 x13 H1 hf m1 N1 la sp => ?_, fun far x11 x12 x13 H1 hf m1 N1 ga => ?_⟩
  ·walk_at "rd"
   exact itn (by omega) (a5 _ _ _ _ _ _ _ _ _ _ H1 hf m1 N1 (by omega) sp)
  ·walk_at "rd"
   by_cases e0 : at_ = 1
   ·refine itp e0 ?_
    have K : ∀ x H', Same H1 H' -> NoT H' -> (Kd H' x /\ amg x 0 146096 = false) -> u5 { nx := fun _ H' => Q .non H', rt := Q } [some (.ref q), some (.int at_), some (.int more), some n, some x, some e, some t, some no, some r, some (.int (more % 7)), some (.int far), x11, x12, x13] H' := fun x H' m2 N2 c => a5 n x e t no r far x11 x12 x13 H' hf (m1.trans m2) N2 (by omega) (e0 ▸ Spo.s1 c)
    refine ⟨N1, by walk_at "om", fun p fp => ⟨ak _ fp, by walk_at "om", fun p1 fp1 => jY p7.1 p7.2 (fa (.inl ⟨rfl, K _ H1 (Same.refl _) N1 ⟨⟨_, rfl⟩, by decide⟩⟩) (fa (.inl ⟨rfl, K _ H1 (Same.refl _) N1 ⟨⟨_, rfl⟩, by decide⟩⟩) (fa (.inl ⟨rfl, K _ H1 (Same.refl _) N1 ⟨⟨_, rfl⟩, rfl⟩⟩) (fa (.inl ⟨rfl, K _ H1 (Same.refl _) N1 ⟨⟨_, rfl⟩, rfl⟩⟩) (fa (.inl ⟨rfl, K _ H1 (Same.refl _) N1 ⟨⟨_, rfl⟩, rfl⟩⟩) (fa (.inr ⟨p, _, rfl, fp, ai, rfl, K _ _ (ak _ fp) (aA N1 rfl) ⟨kl_, rfl⟩⟩) (fa (.inl ⟨rfl, K _ H1 (Same.refl _) N1 ⟨⟨_, rfl⟩, nk (by omega)⟩⟩) fn)))))))⟩⟩
   ·exact itn e0 (b5 _ _ _ _ H1 hf m1 N1 (by omega))
 obtain ⟨u4, hu4, a4, b4⟩ := c4
 have c3 : ∃ uu, PSs (cS (XE P w) P w K mg base ["_law_put_here", "_law_at", "_law_more", "_law_name", "_law_first", "_law_every", "_law_times", "_law_note_here", "_law_rows_here", "_law_pick", "_law_far", "_law_row", "_law_odd", "_law_one"] "_law_spoilt" (af aM) a.bD cdv A outer s H E) (List.drop 3 (av aM)) uu /\ (∀ n' f' e' t' no' r' (far : Int) x11 x12 x13 H1, 0 <= far -> Same H H1 -> NoT H1 -> at_ < 0 -> Spo at_ H1 .non n f e t no r n' f' e' t' no' r' -> uu { nx := fun _ H' => Q .non H', rt := Q } [some (.ref q), some (.int at_), some (.int more), some n', some f', some e', some t', some no', some r', some (.int (more % 7)), some (.int far), x11, x12, x13] H1) /\ (∀ (far : Int) x11 x12 x13 H1, 0 <= far -> Same H H1 -> NoT H1 -> 0 <= at_ -> uu { nx := fun _ H' => Q .non H', rt := Q } [some (.ref q), some (.int at_), some (.int more), some n, some f, some e, some t, some no, some r, some (.int (more % 7)), some (.int far), x11, x12, x13] H1) := by
  refine ⟨_, (ah (ba (aU (bp K HU) (fv 1) ac (aQ _)) (ao (aD (i := 3) ND rfl (Or.inl rfl) (ci (FA.pa (aa (aB []) (aa (aB [65]) (aa (ap aO (fv 3) (aB [32])) (aa ik (aa ac (aa (cj (FA.pa (aa (fv 3) ae))) (aa (ap qD (aB [97]) ac) ae)))))))) (fv 9) (fun _ _ => rfl)))) aJ)
   hu4), fun n' f' e' t' no' r' far x11 x12 x13 H1 hf m1 N1 la sp => ?_, fun far x11 x12 x13 H1 hf m1 N1 ga => ?_⟩
  ·walk_at "rd"
   exact itn (by omega) (a4 _ _ _ _ _ _ _ _ _ _ H1 hf m1 N1 (by omega) sp)
  ·walk_at "rd"
   by_cases e0 : at_ = 0
   ·refine itp e0 ?_
    obtain ⟨l, rfl, hnm⟩ := hn e0
    have okl := okn hnm
    have okx : ok (l ++ [32]) := ⟨fun c hc => by
     rcases List.mem_append.mp hc with z | z
     ·exact okl.1 c z
     ·rw [List.mem_singleton.mp z]; decide, by rw [List.length_append, List.length_singleton]; omega⟩
    have nx : nameV (L2.T (l ++ [32])) = false := by
     cases h : nm (l ++ [32]) with
     | false => exact h
     | true => have := (w_ h).2.2 32 (by simp); omega
    have K : ∀ x H', Same H1 H' -> NoT H' -> (okV x /\ Kd H' x /\ nameV x = false) -> u4 { nx := fun _ H' => Q .non H', rt := Q } [some (.ref q), some (.int at_), some (.int more), some x, some f, some e, some t, some no, some r, some (.int (more % 7)), some (.int far), x11, x12, x13] H' := fun x H' m2 N2 c => a4 x f e t no r far x11 x12 x13 H' hf (m1.trans m2) N2 (by omega) (e0 ▸ Spo.s0 c)
    walk_at "rd"
    refine ⟨N1, by omega, by walk_at "om", fun p fp => ⟨by decide, ak _ fp, by walk_at "om", fun p1 fp1 => jY p7.1 p7.2 (fa (.inl ⟨rfl, K _ H1 (Same.refl _) N1 ⟨fw (by decide), ⟨_, rfl⟩, rfl⟩⟩) (fa (.inl ⟨rfl, K _ H1 (Same.refl _) N1 ⟨fw (by decide), ⟨_, rfl⟩, rfl⟩⟩) (fa (.inl ⟨rfl, K _ H1 (Same.refl _) N1 ⟨fw okx, ⟨_, rfl⟩, nx⟩⟩) (fa (.inl ⟨rfl, K _ H1 (Same.refl _) N1 ⟨nO (by intro _ z; cases z), ⟨_, rfl⟩, rfl⟩⟩) (fa (.inl ⟨rfl, K _ H1 (Same.refl _) N1 ⟨nO (by intro _ z; cases z), ⟨_, rfl⟩, rfl⟩⟩) (fa (.inr ⟨p, _, rfl, fp, ai, rfl, K _ _ (ak _ fp) (aA N1 rfl) ⟨nO (by intro _ z; cases z), kl_, rfl⟩⟩) (fa (.inl ⟨rfl, K _ H1 (Same.refl _) N1 ⟨fw (by decide), ⟨_, rfl⟩, by decide⟩⟩) fn)))))))⟩⟩
   ·exact itn e0 (b4 _ _ _ _ H1 hf m1 N1 (by omega))
 obtain ⟨u3, hu3, a3, b3⟩ := c3
 refine ⟨_, (ah (oa (fv 0) (uF K (n := 6) rfl (cv (aS (i := 3) ND rfl (Or.inl rfl)) (cv (aS (i := 4) ND rfl (Or.inl rfl)) (cv (aS (i := 5) ND rfl (Or.inl rfl)) (cv (aS (i := 6) ND rfl (Or.inl rfl)) (cv (aS (i := 7) ND rfl (Or.inl rfl)) (cv (aS (i := 8) ND rfl (Or.inl rfl)) qC))))))))
  (ah (aD (i := 9) ND rfl (Or.inl rfl) (ap aW (fv 2) ac))
  (ah (aD (i := 10) ND rfl (Or.inl rfl) (ap aW (aE D1 rfl T.Fi Ed (FA.pa (aa (fv 2) ae))) (ap um ac ac)))
  hu3))), ?_⟩
 walk_at "rd"
 refine ⟨q, _, rfl, SqT.of hq, rfl, _, _, rfl, _, _, rfl, _, _, rfl, _, _, rfl, _, _, rfl, _, _, rfl, rfl, by decide, by decide, ?_⟩
 exact b3 _ _ _ _ H (Int.emod_nonneg _ (by decide)) (Same.refl _) hN hat.1
open K3
noncomputable def duP (H : Hp) (os : List Od) (n f e t no r : V) : List Nat :=
 if nameV n = true then if amg f 0 146096 = true then if amg e 1 120 = true /\ amg t 1 1000 = true then if ntV no = true then if fW H r = true then
  if (ff os n).isSome = true then oQ else [] else zX else wI else lf else BC else wg
noncomputable def stG (c : Od) : Int := if ((dys c.f c.e c.n).length : Int) < c.go + 1 then ((dys c.f c.e c.n).length : Int) else c.go + 1
theorem fZ (s : String) (x : V) (h : ¬ (Str.ofString "by_name" = Str.ofString s) := by decide +kernel) : List.lookup (Str.ofString s) [(Str.ofString "by_name", x)] = none := by rw [lH (by simpa using fun z => h z.symm)]; rfl
theorem wf {K : W.Frag} {CH : Addr} {i j : Nat} {v : V} {tb : XKs -> TS} {th R : TS} {D : fk} {σ : St} {H : Hp} (h : tb (fun σ' C _ H' => ∃ Ce, C = .ref Ce /\ PySem.W.exmOne K (.ref Ce) (.ref CH) = some true /\ ∀ e, H' e = none ->
 th { nx := fun σ2 H2 => R D (σ2.set i none) H2, rt := D.rt, bk := fun σ2 H2 => D.bk (σ2.set i none) H2, ct := fun σ2 H2 => D.ct (σ2.set i none) H2 } (σ'.set i (some (.ref e))) (upd H' e (h9 (.ref Ce) e))) { D with nx := R D } (σ.set j (some v)) H) : wJ (Az (tC v) (h7 j)) (wJ (E_ K CH i tb th) R) D σ H := h
theorem ifN {K : W.Frag} {X : TS} {D : fk} {σ : St} {H : Hp} {k j : Int} (hv : σ[1]? = some (some (.int k))) (hne : k ≠ j) (h : D.nx σ H) : lM (fi (tOp (fj K false) (jd 1) (tC (.int j)))) X i4 D σ H := by
 have e : decide (k = j) = false := decide_eq_false hne
 simp only [lM, fi, tOp, jd, hv, tC, fj, eqS, e, kB, i4]
 exact h
theorem eA {K : W.Frag} {X R : TS} {D : fk} {σ : St} {H : Hp} {k j : Int} (hv : σ[1]? = some (some (.int k))) (hne : k ≠ j) (h : R D σ H) : wJ (lM (fi (tOp (fj K false) (jd 1) (tC (.int j)))) X i4) R D σ H := ifN (D := { D with nx := R D }) hv hne h
theorem ifP {K : W.Frag} {X : TS} {D : fk} {σ : St} {H : Hp} {k : Int} (hv : σ[1]? = some (some (.int k))) (h : X D σ H) : lM (fi (tOp (fj K false) (jd 1) (tC (.int k)))) X i4 D σ H := by
 simp only [lM, fi, tOp, jd, hv, tC, fj, eqS, beq_self_eq_true, kB, Bool.xor_true]
 exact h
theorem xw {K : W.Frag} {X R : TS} {D : fk} {σ : St} {H : Hp} {k : Int} (hv : σ[1]? = some (some (.int k))) (h : ∀ R', (∀ σ' H', R D σ' H' -> R' σ' H') -> X { D with nx := R' } σ H) : wJ (lM (fi (tOp (fj K false) (jd 1) (tC (.int k)))) X i4) R D σ H := ifP (D := { D with nx := R D }) hv (h _ fun _ _ x => x)
def sp_yw (S O : Addr) : Sp := sp3 fun x z y H Q _ => NoT H /\ asR x fun p => asI z fun k => ∃ d os, SAt S O H p d os /\ os.length <= 100 /\
 ((k = 0 /\ ∃ q n f e t no r, y = .ref q /\ H q = some (.tup [n, f, e, t, no, r]) /\ okV n /\ Kd H n /\ Kd H f /\ Kd H e /\ Kd H t /\ okV no /\ Kd H no /\ RwsX H r /\
   (duP H os n f e t no r ≠ [] -> ∀ H', Same H H' -> NoT H' -> Q (L2.T (duP H os n f e t no r)) H') /\
   (duP H os n f e t no r = [] -> ∀ o q H', n = L2.T o.nm -> f = .int o.f -> e = .int o.e -> t = .int o.n -> no = o.nt -> r = .ref q -> H q = some (.lst o.rs) -> o.go = 0 -> H o.ob = none -> H o.ad = none -> SAt S O H' p d (os ++ [o]) -> Keep [d] H H' -> NoT H' -> Q (L2.T []) H')) \/
 ((1 <= k /\ k <= 5) /\ Kd H y /\ ((ff os y = none /\ ∀ H', Same H H' -> NoT H' -> Q (L2.T wV) H') \/ ∃ c, ff os y = some c /\
   ((k = 1 /\ ∀ H', SAt S O H' p d (os.filter fun o => decide (o.nm ≠ c.nm)) -> Keep [d] H H' -> NoT H' -> Q (L2.T []) H') \/
    (k = 2 /\ ∀ H', SAt S O H' p d (jj os c.nm (stp (stG c))) -> Keep [c.ob] H H' -> NoT H' -> Q (L2.T []) H')))))
theorem fV (T : Txt K mg a) : bv P w K mg base (XE P w) 10 a.jN a.lW ["_law_standing", "_law_kind", "_law_thing"] (sp_yw a.aq a.aj) := by
 refine T.bQ.okX mK (fun vs H Q E h => sp3.len h) (fun cdv A outer s H vs Q E hr h => ?_)
 obtain ⟨x0, x1, x2, rfl, h⟩ := sp3.inv h
 try dsimp only [sp_yw, sp3] at h
 have ND := mK.nd
 have HU := bJ hr
 obtain ⟨hN, h1⟩ := h
 obtain ⟨p, rfl, h2⟩ := asR.inv h1
 obtain ⟨k, rfl, d, os, J, len, h3⟩ := asI.inv h2
 have sz := szl
 obtain ⟨dx, hp⟩ := J.ob
 have G_Standing_days := @iO P w K mg base a T
 have b_Standing_days := ix T.fP
 have G_Standing_done := @eN P w K mg base a T
 have b_Standing_done := eU T.dH
 have G_Standing_terms := @gZ P w K mg base a T
 have b_Standing_terms := hE T.eT
 have G_Standing_step := @o8 P w K mg base a T
 have b_Standing_step := oA T.ja
 have G_Standing_drop := @nS P w K mg base a T
 have b_Standing_drop := oF T.i7
 have G_Standing_put := @qc P w K mg base a T
 have b_Standing_put := qo T.jH
 have G__law_word := @ue P w K mg base a T
 have b__law_word := vd T.jy
 refine ⟨_, (ah (aD (i := 3) ND rfl (Or.inl rfl) ik)
  (ah (E1 (i := 4) ND rfl rfl rfl T.uG rfl rfl rfl (fun pn Ee Ex PX => (ah (ba (aU (bp K HU) (fv 1) ac (aQ _)) (ao (aD (i := 3) ND rfl (Or.inl rfl) (b9 (fv 0) T.aN T.qm G_Standing_put (hr.mono (by decide)) b_Standing_put .nil PX (FA.pa (aa (aP (aw K) (fv 2) ac (fun _ _ => rfl)) (aa (aP (aw K) (fv 2) ac (fun _ _ => rfl)) (aa (aP (aw K) (fv 2) ac (fun _ _ => rfl)) (aa (aP (aw K) (fv 2) ac (fun _ _ => rfl)) (aa (aP (aw K) (fv 2) ac (fun _ _ => rfl)) (aa (aP (aw K) (fv 2) ac (fun _ _ => rfl)) ae)))))))))) aJ)
  (ah (ba (aU (bp K HU) (fv 1) ac (aQ _)) (ao (aD (i := 3) ND rfl (Or.inl rfl) (b9 (fv 0) T.aN T.oR G_Standing_drop (hr.mono (by decide)) b_Standing_drop .nil PX (FA.pa (aa (fv 2) ae))))) aJ)
  (ah (ba (aU (bp K HU) (fv 1) ac (aQ _)) (ao (aD (i := 3) ND rfl (Or.inl rfl) (b9 (fv 0) T.aN T.nW G_Standing_step (hr.mono (by decide)) b_Standing_step .nil PX (FA.pa (aa (fv 2) ae))))) aJ)
  (ah (ba (aU (bp K HU) (fv 1) ac (aQ _)) (ao (cW (b9 (fv 0) T.aN T.hG G_Standing_terms (hr.mono (by decide)) b_Standing_terms .nil PX (FA.pa (aa (fv 2) ae))))) aJ)
  (ah (ba (aU (bp K HU) (fv 1) ac (aQ _)) (ao (cW (b9 (fv 0) T.aN T.eV G_Standing_done (hr.mono (by decide)) b_Standing_done .nil PX (FA.pa (aa (fv 2) ae))))) aJ)
  (ao (ba (aU (bp K HU) (fv 1) ac (aQ _)) (ao (cW (b9 (fv 0) T.aN T.eG G_Standing_days (hr.mono (by decide)) b_Standing_days .nil PX (FA.pa (aa (fv 2) (aa ac ae)))))) aJ)))))))) (fun e => (ao (aC (z_ G__law_word (Room.toC hr (by decide)) rfl T.wA T.jy.kp b__law_word .nil lK (FA.pa (aa (fv 4) ae)))))))
  (ao (aC (ap qD (aB [116, 111, 108, 100]) (eY yq rfl T.yO ur (FA.pa (aa (wP (Cp (fv 3))) ae)))))))), ?_⟩
 rcases h3 with ⟨rfl, q, n, f, e, t, no, r, rfl, hq, on, ⟨tn, kn⟩, ⟨tf, kf⟩, ⟨te, ke⟩, ⟨tt, kt⟩, ono, ⟨tno, kno⟩, hr5, kr, kp⟩ | ⟨hk, ⟨ty, hty⟩, h3⟩
 ·have hS := SqT.of (K := K) hq
  refine wf (xw rfl fun R' hR => ?_)
  walk_at "rd"
  refine ⟨_, _, hp, fZ "put" _, _, _, .inr hS, aH (j := 0) rfl, _, _, .inr hS, aH (j := 1) rfl, _, _, .inr hS, aH (j := 2) rfl, _, _, .inr hS, aH (j := 3) rfl, _, _, .inr hS, aH (j := 4) rfl, _, _, .inr hS, aH (j := 5) rfl, hN, on, asK.of kn (asK.of kf (asK.of ke (asK.of kt ⟨ono, asK.of kno ⟨hr5, d, os, J, len, ?_⟩⟩)))⟩
  unfold duP at kr kp
  by_cases e1 : nameV n = true
  case neg => rw [if_neg e1] at kr; rw [if_neg e1]; exact rk (i := 0) hN T.jz rfl (kr (by decide))
  rw [if_pos e1] at kr kp ⊢
  by_cases e2 : amg f 0 146096 = true
  case neg => rw [if_neg e2] at kr; rw [if_neg e2]; exact rk (i := 1) hN T.j8 rfl (kr (by decide))
  rw [if_pos e2] at kr kp ⊢
  by_cases e3 : amg e 1 120 = true /\ amg t 1 1000 = true
  case neg => rw [if_neg e3] at kr; rw [if_neg e3]; exact rk (i := 2) hN T.jc rfl (kr (by decide))
  rw [if_pos e3] at kr kp ⊢
  by_cases e4 : ntV no = true
  case neg => rw [if_neg e4] at kr; rw [if_neg e4]; exact rk (i := 3) hN T.jO rfl (kr (by decide))
  rw [if_pos e4] at kr kp ⊢
  by_cases e5 : fW H r = true
  case neg => rw [if_neg e5] at kr; rw [if_neg e5]; exact rk (i := 4) hN T.j6 rfl (kr (by decide))
  rw [if_pos e5] at kr kp ⊢
  obtain ⟨l, rfl⟩ := tK e1
  by_cases e6 : (fnd os l).isSome = true
  ·rw [if_pos (show (ff os (L2.T l)).isSome = true from e6)] at kr
   exact itp e6 (rk (i := 5) hN T.kg rfl (kr (by decide)))
  rw [if_neg (show ¬ (ff os (L2.T l)).isSome = true from e6)] at kp
  refine itn e6 fun o q' H' a1 a2 a3 a4 a5 a6 a7 a8 a9 b1 b2 b3 b4 => ?_
  refine hR _ _ (eA rfl (by decide) (eA rfl (by decide) (eA rfl (by decide) (eA rfl (by decide) (ifN rfl (by decide) ?_)))))
  walk_at "rd"
  exact ⟨by decide, kp rfl o q' H' (congrArg L2.T a1) a2 a3 a4 a5 a6 a7 a8 a9 b1 b2 b3 b4⟩
 ·rcases h3 with ⟨hn, kr⟩ | ⟨c, hc, h3⟩
  ·obtain rfl | rfl | rfl | rfl | rfl : k = 1 \/ k = 2 \/ k = 3 \/ k = 4 \/ k = 5 := by omega
   ·refine wf (eA rfl (by decide) (xw rfl fun R' _ => ?_))
    walk_at "rd"
    refine ⟨_, _, hp, fZ "drop" _, hN, asK.of hty ⟨d, os, J, ?_⟩⟩
    rw [hn]; exact rk (i := 6) hN T.bS rfl kr
   ·refine wf (eA rfl (by decide) (eA rfl (by decide) (xw rfl fun R' _ => ?_)))
    walk_at "rd"
    refine ⟨_, _, hp, fZ "step" _, hN, asK.of hty ⟨d, os, J, ?_⟩⟩
    rw [hn]; exact rk (i := 6) hN T.bS rfl kr
   ·refine wf (eA rfl (by decide) (eA rfl (by decide) (eA rfl (by decide) (xw rfl fun R' _ => ?_))))
    walk_at "rd"
    refine ⟨_, _, hp, fZ "terms" _, hN, asK.of hty ⟨d, os, J, ?_⟩⟩
    rw [hn]; exact rk (i := 6) hN T.bS rfl kr
   ·refine wf (eA rfl (by decide) (eA rfl (by decide) (eA rfl (by decide) (eA rfl (by decide) (xw rfl fun R' _ => ?_)))))
    walk_at "rd"
    refine ⟨_, _, hp, fZ "done" _, hN, asK.of hty ⟨d, os, J, ?_⟩⟩
    rw [hn]; exact rk (i := 6) hN T.bS rfl kr
   ·refine wf (eA rfl (by decide) (eA rfl (by decide) (eA rfl (by decide) (eA rfl (by decide) (eA rfl (by decide) (ifP rfl ?_))))))
    walk_at "rd"
    refine ⟨_, _, hp, fZ "days" _, hN, asK.of hty ⟨d, os, J, ?_⟩⟩
    rw [hn]; exact rk (i := 6) hN T.bS rfl kr
  ·rcases h3 with ⟨rfl, k1⟩ | ⟨rfl, k2⟩
   ·refine wf (eA rfl (by decide) (xw rfl fun R' hR => ?_))
    walk_at "rd"
    refine ⟨_, _, hp, fZ "drop" _, hN, asK.of hty ⟨d, os, J, ?_⟩⟩
    rw [hc]; intro H' J' kp N'
    refine hR _ _ (eA rfl (by decide) (eA rfl (by decide) (eA rfl (by decide) (ifN rfl (by decide) ?_))))
    walk_at "rd"
    exact ⟨by decide, k1 H' J' kp N'⟩
   ·refine wf (eA rfl (by decide) (eA rfl (by decide) (xw rfl fun R' hR => ?_)))
    walk_at "rd"
    refine ⟨_, _, hp, fZ "step" _, hN, asK.of hty ⟨d, os, J, ?_⟩⟩
    rw [hc]; intro H' J' kp N'
    refine hR _ _ (eA rfl (by decide) (eA rfl (by decide) (ifN rfl (by decide) ?_)))
    walk_at "rd"
    exact ⟨by decide, k2 H' J' kp N'⟩
open K3
structure Lw where
 q : Addr
 tq : Addr
 rq : Addr
 m : Int
 pl : Int
structure LAt (H : Hp) (o : Od) (x : Lw) : Prop where
 q : H x.q = some (.lst ([.int x.m, .int x.pl, .int o.e, .int o.n, .int o.go] ++ [.ref x.tq]))
 tq : H x.tq = some (.tup [.int o.f, .int o.e, .int o.n, o.nt, .ref x.rq])
 rq : H x.rq = some (.tup o.rs)
structure LOk (o : Od) (x : Lw) : Prop where
 f : o.f = FD x.m + x.pl - 1
 m : 0 <= x.m /\ x.m <= 4799
 pl : 1 <= x.pl /\ x.pl <= lg x.m
 e : 1 <= o.e /\ o.e <= 120
 n : 1 <= o.n /\ o.n <= 1000
 go : 0 <= o.go /\ o.go <= 1000
 nt : ∃ l, o.nt = L2.T l
 rs : ∀ v ∈ o.rs, ∃ q, v = .ref q
def kyL (la : List Nat -> Lw) (o : Od) : Key × V := (.inr ⟨⟨o.nm⟩⟩, .ref (la o.nm).q)
structure Sq (S O : Addr) (H : Hp) (p d r : Addr) (la : List Nat -> Lw) (os : List Od) : Prop where
 ch : SAt S O H p d os
 rd : Rd H r (.dK (os.map (kyL la)))
 rw : ∀ o ∈ os, LAt H o (la o.nm)
 ok : ∀ o ∈ os, LOk o (la o.nm)
 ln : os.length < 64
structure Sd (S O : Addr) (H : Hp) (p d r : Addr) (la : List Nat -> Lw) (os : List Od) : Prop where
 q : Sq S O H p d r la os
 dc : H r = some (.dK (os.map (kyL la)))
 ij : ∀ o ∈ os, ∀ o' ∈ os, (la o.nm).q = (la o'.nm).q -> o.nm = o'.nm
def New (H H' : Hp) (hd : Addr) (hs es : List V) : Prop := H' hd = some (.lst (hs ++ es)) /\ Keep [hd] H H' /\ NoT H' /\ ∀ e ∈ es, ∃ q ls, e = .ref q /\ H q = none /\ H' q = some (.lst ls) /\ (ls.all cC = true /\ ls.length <= 1000) /\ q ≠ hd
theorem gU (la : List Nat -> Lw) (l : List Nat) : ∀ os : List Od, iP (os.map (kyL la)) (.inr ⟨⟨l⟩⟩) = (fnd os l).map fun o => .ref (la o.nm).q
 | [] => rfl
 | c :: r => by
  have ih := gU la l r
  by_cases h : c.nm = l
  ·rw [List.map_cons]; unfold kyL; rw [jU (by show Sum.inr _ = Sum.inr _; rw [h])]
   simp [fnd, h]
  ·rw [List.map_cons]
   have e : iP (kyL la c :: r.map (kyL la)) (.inr ⟨⟨l⟩⟩) = iP (r.map (kyL la)) (.inr ⟨⟨l⟩⟩) := jQ (fun z => h (by unfold kyL at z; simpa using z))
   rw [e, ih]
   simp [fnd, h]
theorem yn {F : Hp} {r : Addr} {la : List Nat -> Lw} {os : List Od} {c : Od} (rd : Rd F r (.dK (os.map (kyL la)))) (hc : c ∈ os) : DGet F r (L2.T c.nm) (some (.ref (la c.nm).q)) := by
 refine .inl ⟨_, .inr ⟨⟨c.nm⟩⟩, rd, rfl, ?_⟩
 rw [gU]
 cases e : fnd os c.nm with
 | none => exact absurd rfl (mU e c hc)
 | some c' => rw [Option.map_some, (ia e).2]
theorem LAt.same {H H' : Hp} {o : Od} {x : Lw} (j : LAt H o x) (s : Same H H') : LAt H' o x := ⟨s _ _ j.q, s _ _ j.tq, s _ _ j.rq⟩
def sp_Ab (S O : Addr) : Sp := sp3 fun x y z H Q _ => NoT H /\ asR x fun p => asR y fun r => asR z fun hd => ∃ d la os hs, Sd S O H p d r la os /\ H hd = some (.lst hs) /\ hs.length <= 5000 /\ ∀ H' es, New H H' hd hs es -> es.length <= 1 -> Q (.bl true) H'
theorem gm (T : Txt K mg a) : bv P w K mg base (XE P w) 2 a.ej a.gG ["_law_standing", "_law_orders", "_law_held"] (sp_Ab a.aq a.aj) := by
 refine T.cB.okX gu (fun vs H Q E h => sp3.len h) (fun cdv A outer s H vs Q E hr h => ?_)
 obtain ⟨x0, x1, x2, rfl, h⟩ := sp3.inv h
 try dsimp only [sp_Ab, sp3] at h
 have ND := gu.nd
 have HU := bJ hr
 obtain ⟨hN, h1⟩ := h
 obtain ⟨p, rfl, h2⟩ := asR.inv h1
 obtain ⟨r, rfl, h3⟩ := asR.inv h2
 obtain ⟨hd, rfl, d, la, os, hs, S, hh, lh, k⟩ := asR.inv h3
 have sz := szl
 obtain ⟨dx, hp⟩ := S.q.ch.ob
 have G_Standing_names := @m7 P w K mg base a T
 have b_Standing_names := lO T.iz
 refine ⟨_, (ah (aD (i := 3) ND rfl (Or.inl rfl) (sW (fv 0) T.aN T.gS G_Standing_names (hr.mono (by decide)) b_Standing_names .nil aL))
  (ah (ba (yZ (L2.PW.pt (il (bI (bA (aE (bC K) rfl T.aK aI (FA.pa (aa (fv 3) (aa (cE (v := .ty "list") rfl T.qP me rfl) ae)))))) (eE (aU (eW K HU) (fv 3) (aE (rA rfl) rfl T.qX oP (FA.pa (aa (fv 1) ae))) (aQ _)))))) (ao (aC cL)) aJ)
  (ah (cW (eh K PySem.F.plainAttrs_list PySem.F.slot_list_append PySem.F.type_list_append eF (fv 3) (FA.pa (aa (aB [109, 111, 114, 101]) ae))))
  (ah (cW (eh K PySem.F.plainAttrs_list PySem.F.slot_list_append PySem.F.type_list_append eF (fv 2) (FA.pa (aa (sW (fv 0) T.aN T.gS G_Standing_names (hr.mono (by decide)) b_Standing_names .nil aL) ae))))
  (ao (aC (dM (bp K HU) (aP (aw K) (fv 2) (r9 kW ac) (fun _ _ => rfl)) (aE (rA rfl) rfl T.qX oP (FA.pa (aa (fv 1) ae))) (aQ _)))))))), ?_⟩
 walk_at "rd"
 refine ⟨_, _, hp, fZ "names" _, hN, d, os, S.q.ch, S.q.ln, fun out po io q1 hq1 => ?_⟩
 have s1 := ak (HO.lst (out.map L2.T)) hq1
 have N1 : NoT (upd H q1 (HO.lst (out.map L2.T))) := aA hN rfl
 have h1 : upd H q1 (HO.lst (out.map L2.T)) q1 = _ := ai
 generalize upd H q1 (HO.lst (out.map L2.T)) = H1 at s1 N1 h1 ⊢
 have ke : bi H1 (.ref q1) = some "list" := by simp [bi, h1]
 simp only [ke]
 have eks : List.map (fun e : Key × V => kV e.fst) (os.map (kyL la)) = List.map L2.T (os.map (·.nm)) := by rw [List.map_map, List.map_map]; rfl
 refine ⟨N1, itn (by decide) ⟨_, os.map (·.nm), s1 _ _ S.dc, eks, by rw [List.length_map]; exact S.q.ln, fun out2 po2 io2 q2 hq2 => ?_⟩⟩
 have e2 : out2 = out := mJ (po2.trans po.symm) io2 io
 subst e2
 have fl : ((out2.map L2.T).all cC) = true := zy out2
 have s2 := ak (HO.lst (out2.map L2.T)) hq2
 refine ⟨_, EqR.flatL (SqL.of (s2 _ _ h1)) (SqL.of ai) fl, H1, Gc.none s2, itn (by decide) ?_⟩
 have lo : out2.length < 64 := by rw [po.length_eq, List.length_map]; exact S.q.ln
 refine ⟨.inl ⟨_, SqL.of h1⟩, q1, _, _, rfl, rfl, h1, by rw [List.length_map]; omega, ?_⟩
 have s3 := eJ (o := HO.lst (out2.map L2.T ++ [L2.T [109, 111, 114, 101]])) s1 hq1
 have N3 : NoT (upd H1 q1 (HO.lst (out2.map L2.T ++ [L2.T [109, 111, 114, 101]]))) := aA N1 rfl
 generalize upd H1 q1 (HO.lst (out2.map L2.T ++ [L2.T [109, 111, 114, 101]])) = H3 at s3 N3 ⊢
 have J3 := S.q.ch.same s3
 obtain ⟨dx3, hp3⟩ := J3.ob
 refine ⟨.inl ⟨_, SqL.of (s3 _ _ hh)⟩, _, _, hp3, fZ "names" _, N3, d, os, J3, S.q.ln, fun out4 po4 io4 q4 hq4 => ?_⟩
 have e4 : out4 = out2 := mJ (po4.trans po.symm) io4 io
 subst e4
 have s4 := s3.trans (ak (HO.lst (out4.map L2.T)) hq4)
 have N4 : NoT (upd H3 q4 (HO.lst (out4.map L2.T))) := aA N3 rfl
 have h4 : upd H3 q4 (HO.lst (out4.map L2.T)) q4 = _ := ai
 have f4 := s3.free hq4
 generalize upd H3 q4 (HO.lst (out4.map L2.T)) = H4 at s4 N4 h4 ⊢
 have n4 : q4 ≠ hd := Ne.symm (au hh f4)
 refine ⟨hd, hs, _, rfl, rfl, s4 _ _ hh, by rw [sizeLine_eq]; omega, _, _, .inl (SqL.of ai), vY _ _, ?_⟩
 have hr : upd H4 hd (HO.lst (hs ++ [V.ref q4])) r = _ := (ay (bN (s4 _ _ S.dc) (s4 _ _ hh))).trans (s4 _ _ S.dc)
 refine ⟨_, os.map (·.nm), hr, eks, by rw [List.length_map]; exact S.q.ln, fun out5 po5 io5 q5 hq5 => ?_⟩
 have e5 : out5 = out4 := mJ (po5.trans po.symm) io5 io
 subst e5
 walk_at "rd"
 have s5 := ak (HO.lst (out5.map L2.T)) hq5
 have h5 : upd H4 hd (HO.lst (hs ++ [V.ref q4])) q4 = _ := (ay n4).trans h4
 refine ⟨_, EqR.flatL (SqL.of (s5 _ _ h5)) (SqL.of ai) fl, ?_⟩
 refine k _ [.ref q4] ⟨s5 _ _ ai, ((Keep.same s4).put (.head _)).new hq5, aA (aA N4 rfl) rfl, fun e he => ?_⟩ (Nat.le_refl 1)
 rw [List.mem_singleton.mp he]
 exact ⟨q4, _, rfl, f4, s5 _ _ h5, ⟨fl, by rw [List.length_map]; omega⟩, n4⟩
open K3
theorem B7 {α β : Type} {R : α -> β -> Prop} {as : List α} {bs : List β} (h : A2 R as bs) : ∀ {i : Nat} {x : α}, as[i]? = some x -> ∃ y, bs[i]? = some y /\ R x y := by
 induction h with
 | nil => intro i x e; cases e
 | cons r _ ih =>
  intro i x e
  cases i with
  | zero => cases e; exact ⟨_, rfl, r⟩
  | succ i => exact ih e
theorem uB {α β : Type} {R : α -> β -> Prop} {as : List α} {bs : List β} (h : A2 R as bs) : as.length = bs.length := by
 induction h with
 | nil => rfl
 | cons _ _ ih => simp [ih]
theorem DU {ks : List Nat} {tt : TT} {te : TE} {σ : St} {H1 : Hp} {Q : VK} (a : Addr) (xs ys : List V) (ha : H1 a = some (.lst xs)) (hz : xs.length < sizeLine)
 (hp : ∀ x ∈ xs, ∀ G (R : Bool -> Hp -> Prop), R true G -> tt ([some x] ++ ks.map fun k => (σ[k]?).join) G R)
 (he : A2 (fun x y => ∀ G (R : VK), Same H1 G -> R y G -> te ([some x] ++ ks.map fun k => (σ[k]?).join) G R) xs ys)
 (k : ∀ D, H1 D = none -> Q (.ref D) (upd H1 D (.lst ys))) : CEl (Itl K a) 1 (h7 0) ks tt te σ H1 Q := by
 refine Bx a xs (fun D i zs G => H1 D = none /\ G = upd H1 D (.lst zs) /\ zs = ys.take i) hz ?_ ?_ ?_ ?_
 ·exact fun D hD => ⟨hD, rfl, rfl⟩
 ·rintro D i zs G ⟨hD, rfl, rfl⟩
  exact ⟨ai, SqL.of ((ak _ hD) _ _ ha), by rw [List.length_take]; omega⟩
 ·rintro D i y zs G us N1 N0 hy ⟨hD, rfl, rfl⟩ hzs n1 n0
  have my := List.mem_of_getElem? hy
  obtain ⟨z1, rfl⟩ := ex1 hzs
  obtain ⟨v, hv, ev⟩ := B7 he hy
  have et : ys.take (i + 1) = ys.take i ++ [v] := by rw [List.take_succ, hv]; rfl
  refine ⟨⟨[_], rfl, rfl⟩, hp y my _ _ ?_⟩
  rw [et] at n1
  exact itp rfl (ev _ _ (ak _ hD) (n1 _ _ ai ⟨hD, by rw [lJ], rfl⟩))
 ·rintro D zs G ⟨hD, rfl, rfl⟩
  rw [uB he, List.take_length]
  exact k D hD
theorem FU {α β γ : Type} {R : α -> β -> Prop} {S : α -> γ -> Prop} {f : β -> γ} {as : List α} {bs : List β} (h : A2 R as bs) (g : ∀ x y, R x y -> S x (f y)) : A2 S as (bs.map f) := by
 induction h with
 | nil => exact .nil
 | cons r _ ih => exact .cons (g _ _ r) ih
theorem eqx {n : Nat} {H : Hp} {v : V} (h : cC v = true \/ ∃ q, v = .ref q) : EqH K H n v v true := by
 rcases h with f | ⟨q, rfl⟩
 ·have h := EqH.flat (K := K) (H := H) (n := n) f f
  have e : eqV v v = true := by cases v <;> simp [eqV] at f ⊢ <;> simp [cC] at f
  rw [e] at h; exact h
 ·exact .same
theorem zS {H : Hp} {p q r s : Addr} {f e n : Int} {t : V} {rs : List V} (ht : cC t = true) (hv : ∀ v ∈ rs, ∃ q, v = .ref q) (hp : H p = some (.tup [.int f, .int e, .int n, t, .ref r])) (hq : H q = some (.tup [.int f, .int e, .int n, t, .ref s])) (hr : H r = some (.tup rs)) (hs : H s = some (.tup rs)) : EqR K H p q true := by
 have h := EqR.tup (K := K) (H := H) (e := fun _ => true) (SqT.of hp) (SqT.of hq) fun j x y gx gy => by
  match j, gx, gy with
  | 0, gx, gy => cases gx; cases gy; exact eqx (.inl rfl)
  | 1, gx, gy => cases gx; cases gy; exact eqx (.inl rfl)
  | 2, gx, gy => cases gx; cases gy; exact eqx (.inl rfl)
  | 3, gx, gy => cases gx; cases gy; exact eqx (.inl ht)
  | 4, gx, gy =>
   cases gx; cases gy
   by_cases hpq : r = s
   ·rw [hpq]; exact eqx (.inr ⟨_, rfl⟩)
   have h := EqH.tup (K := K) (H := H) (e := fun _ => true) (n := 49) hpq (SqT.of hr) (SqT.of hs) fun j x y gx gy => by
    rw [gx] at gy; cases gy; exact eqx (.inr (hv _ (List.mem_of_getElem? gx)))
   have e : ∀ n, (List.range n).all (fun _ => true) = true := fun n => List.all_eq_true.mpr fun _ _ => rfl
   rw [e] at h
   simpa using h
  | j + 5, gx, gy => simp at gx
 have e : ∀ n, (List.range n).all (fun _ => true) = true := fun n => List.all_eq_true.mpr fun _ _ => rfl
 rw [e] at h
 simpa using h
theorem zV {o : Od} {x : Lw} (h : LOk o x) : dys o.f o.e o.n = (List.range (NN x.m o.e o.n)).map fun j : Nat => dy (x.m + j * o.e) x.pl := by
 unfold dys
 rw [h.f]
 exact DP h.e.1 h.m.1 h.m.2 h.pl.1 h.pl.2
theorem BL {o : Od} {x : Lw} (h : LOk o x) (u : Int) : (((dys o.f o.e o.n).drop o.go.toNat).filter fun i => decide (i <= u)) = (dl x.m x.pl o.e o.go.toNat (NN x.m o.e o.n)).takeWhile fun i => decide (i <= u) := by
 rw [zV h, tF]
 ·rfl
 ·exact (BS h.e.1 h.pl.1 _).drop
def sp_By (S O : Addr) : Sp := sp6 fun x y l t w h H Q _ => NoT H /\ asR x fun p => asR y fun r => asT l fun nm => asI t fun u => asI w fun way => asR h fun hd => ∃ d la os c hs, Sq S O H p d r la os /\ c ∈ os /\ c.nm = nm /\ H hd = some (.lst hs) /\ hs.length <= 5000 /\
 ∀ H' es, New H H' hd hs es -> es.length <= 1 -> Q (.bl true) H'
theorem oO (T : Txt K mg a) : bv P w K mg base (XE P w) 4 a.fM a.iq ["_law_standing", "_law_orders", "_law_name", "_law_until", "_law_way", "_law_held"] (sp_By a.aq a.aj) := by
 refine T.fA.okX im (fun vs H Q E h => sp6.len h) (fun cdv A outer s H vs Q E hr h => ?_)
 obtain ⟨x0, x1, x2, x3, x4, x5, rfl, h⟩ := sp6.inv h
 try dsimp only [sp_By, sp6] at h
 have ND := im.nd
 have HU := bJ hr
 obtain ⟨hN, h1⟩ := h
 obtain ⟨p, rfl, h2⟩ := asR.inv h1
 obtain ⟨r, rfl, h3⟩ := asR.inv h2
 obtain ⟨nm, rfl, h4⟩ := asT.inv h3
 obtain ⟨u, rfl, h5⟩ := asI.inv h4
 obtain ⟨way, rfl, h6⟩ := asI.inv h5
 obtain ⟨hd, rfl, d, la, os, c, hs, S, hc, pc, hh, lh, k⟩ := asR.inv h6
 have pc : c.nm = nm := pc
 subst pc
 have sz : 10000 <= sizeLine := by rw [sizeLine_eq]; decide
 have A := S.rw c hc
 have B := S.ok c hc
 have ef : ff os (L2.T c.nm) = some c := uW S.ch.np hc
 have kn : ∀ H', Same H H' -> NoT H' -> Q (.bl true) H' := fun H' s n => k H' [] ⟨by rw [List.append_nil]; exact s _ _ hh, Keep.same s, n, fun _ m => nomatch m⟩ (Nat.zero_le _)
 obtain ⟨dx, hp⟩ := S.ch.ob
 have G_Standing_days := @iO P w K mg base a T
 have b_Standing_days := ix T.fP
 have G__law_left := @ui P w K mg base a T
 have b__law_left := uP T.jA
 have G_Standing_done := @eN P w K mg base a T
 have b_Standing_done := eU T.dH
 have G_Standing_terms := @gZ P w K mg base a T
 have b_Standing_terms := hE T.eT
 refine ⟨_, (ah (aD (i := 6) ND rfl (Or.inl rfl) (uV (Nat.lt_of_le_of_lt (Nat.add_le_add_left (by decide) _) HU) (fv 1) (fv 2) (fun _ _ => rfl)))
  (ah (ba (aU (bp K HU) (fv 4) ac (aQ _)) (ah (aD (i := 7) ND rfl (Or.inl rfl) (b9 (fv 0) T.aN T.hG G_Standing_terms (hr.mono (by decide)) b_Standing_terms .nil aL (FA.pa (aa (fv 2) ae))))
  (ao (aC (d8 (aE (bC K) rfl T.aK aI (FA.pa (aa (fv 7) (aa (cE (v := .ty "tuple") rfl T.j3 iJ rfl) ae)))) (d8 (dM (bp K HU) (fv 7) (aP (aw K) (fv 6) ac (fun _ _ => rfl)) (aQ _)) (iQ (aE (bC K) rfl T.aK aI (FA.pa (aa (aP (aw K) (fv 7) ac (fun _ _ => rfl)) (aa (cE (v := .ty "tuple") rfl T.j3 iJ rfl) ae)))))))))) aJ)
  (ah (ba (aU (bp K HU) (fv 4) ac (aQ _)) (ah (aD (i := 8) ND rfl (Or.inl rfl) (b9 (fv 0) T.aN T.eV G_Standing_done (hr.mono (by decide)) b_Standing_done .nil aL (FA.pa (aa (fv 2) ae))))
  (ao (aC (d8 (aE (bC K) rfl T.aK aI (FA.pa (aa (fv 8) (aa (cE (v := .ty "int") rfl T.yO ur rfl) ae)))) (d8 (zZ (aE (bC K) rfl T.aK aI (FA.pa (aa (fv 8) (aa (cE (v := .ty "bool") rfl T.Bk yl rfl) ae))))) (iQ (dM (bp K HU) (fv 8) (aP (aw K) (fv 6) ac (fun _ _ => rfl)) (aQ _)))))))) aJ)
  (ah (rT (i0 := 9) ND rfl (Or.inl rfl) rfl (cl := _) (x := "_law_pair") (xs := ["_law_pair"]) (fr := []) (ks := []) (by exact ⟨rfl, by decide +kernel, rfl, by decide +kernel, rfl, dA rfl, rfl, bb rfl, bb (k := fun y => List.lookup y _) rfl, dB rfl⟩) rfl (lG K (ar G__law_left (hr.mono (by decide)) rfl T.vn T.jA.kp b__law_left .nil aL (FA.pa (aa (fv 6) (aa (fv 3) ae))))) (fun _ _ _ _ _ => (aS (i := 0) (iA (l := ["_law_pair"]) (by decide)) rfl (Or.inl rfl))) (fun _ _ _ _ _ => iX) (fun _ _ _ _ _ => (aP (aw K) (fv 0) ac (fun _ _ => rfl))))
  (ah (aD (i := 10) ND rfl (Or.inl rfl) (b9 (fv 0) T.aN T.eG G_Standing_days (hr.mono (by decide)) b_Standing_days .nil aL (FA.pa (aa (fv 2) (aa (fv 3) ae)))))
  (ah (ba (L2.PW.pt (il (bI (bA (aE (bC K) rfl T.aK aI (FA.pa (aa (fv 10) (aa (cE (v := .ty "list") rfl T.qP me rfl) ae)))))) (eE (aU (eW K HU) (fv 10) (fv 9) (aQ _))))) (ao (aC cL)) aJ)
  (ah (cW (eh K PySem.F.plainAttrs_list PySem.F.slot_list_append PySem.F.type_list_append eF (fv 10) (FA.pa (aa ac ae))))
  (ah (cW (eh K PySem.F.plainAttrs_list PySem.F.slot_list_append PySem.F.type_list_append eF (fv 5) (FA.pa (aa (b9 (fv 0) T.aN T.eG G_Standing_days (hr.mono (by decide)) b_Standing_days .nil aL (FA.pa (aa (fv 2) (aa (fv 3) ae)))) ae))))
  (ao (aC (dM (bp K HU) (aP (aw K) (fv 5) (r9 kW ac) (fun _ _ => rfl)) (fv 9) (aQ _)))))))))))), ?_⟩
 walk_at "rd"
 refine ⟨r, _, rfl, yn S.rd hc, ?_⟩
 by_cases w0 : way = 0
 ·refine itp w0 ⟨_, _, hp, fZ "terms" _, hN, d, os, S.ch, ?_⟩
  rw [ef]
  have ag := (S.ch.od c hc).ag
  have ke : bi H (.ref c.ag) = some "tuple" := by simp [bi, ag.ag]
  have kr : bi H (.ref c.rt) = some "tuple" := by simp [bi, ag.rt]
  dsimp only [p_]
  simp only [ke]
  refine itp rfl ?_
  walk_at "rd"
  refine ⟨_, _, .inl (SqL.of A.q), aH (j := 5) rfl, ?_⟩
  walk_at "rd"
  refine ⟨_, zS (by obtain ⟨l, e⟩ := B.nt; rw [e]; rfl) B.rs ag.ag A.tq ag.rt A.rq, ?_⟩
  walk_at "rd"
  refine ⟨_, _, .inr (SqT.of ag.ag), aH (j := 4) rfl, ?_⟩
  simp only [kr]
  exact kn _ (Same.refl _) hN
 refine itn w0 ?_
 by_cases w1 : way = 1
 ·refine itp w1 ⟨_, _, hp, fZ "done" _, hN, d, os, S.ch, ?_⟩
  rw [ef]
  dsimp only [p_]
  walk_at "rd"
  refine ⟨_, _, .inl (SqL.of A.q), aH (j := 4) rfl, ?_⟩
  walk_at "rd"
  exact kn _ (Same.refl _) hN
 refine itn w1 (AT ?_)
 walk_at "rd"
 refine ⟨hN, _, _, _, _, _, _, A.q, B.m, B.e, ⟨by have := B.n; omega, B.n.2⟩, B.go, fun q0 vs H0 s0 N0 f0 g0 a0 => ?_⟩
 have lv : vs.length <= 1000 := by
  rw [uB a0]
  refine Nat.le_trans (List.takeWhile_prefix _).length_le ?_
  unfold dl
  rw [List.length_drop, List.length_map, List.length_range]
  unfold NN
  have := B.n
  omega
 have eD := BL B u
 refine ⟨⟨_, SqL.of g0⟩, DU q0 vs _ g0 (by omega) (fun x hx G R r => r) (FU (f := V.int) a0 fun x y ⟨pp, mm, e1, e2⟩ G R s r => ?_) fun D fD => ?_⟩
 ·subst e1
  walk_at "rd"
  exact ⟨_, _, .inr (SqT.of (s _ _ e2)), aH (j := 0) rfl, r⟩
 have lD : ((((dys c.f c.e c.n).drop c.go.toNat).filter fun i => decide (i <= u)).map V.int).length <= 1000 := by rw [eD, List.length_map, <- uB a0]; exact lv
 rw [<- eD]
 have fl : (((((dys c.f c.e c.n).drop c.go.toNat).filter fun i => decide (i <= u)).map V.int).all cC) = true := by
  rw [List.all_eq_true]; intro v m; obtain ⟨i, _, rfl⟩ := List.mem_map.mp m; rfl
 obtain ⟨ds, eds⟩ : ∃ ds, (((dys c.f c.e c.n).drop c.go.toNat).filter fun i => decide (i <= u)).map V.int = ds := ⟨_, rfl⟩
 rw [eds] at lD fl ⊢
 obtain ⟨H1, ee, n1, g1, N1⟩ := cU (o := HO.lst ds) fD N0 rfl
 rw [ee]
 have s1 := s0.trans n1
 have fD0 := s0.free fD
 have J1 := S.ch.same s1
 obtain ⟨dx1, hp1⟩ := J1.ob
 refine ⟨_, _, hp1, fZ "days" _, N1, d, os, J1, ?_⟩
 rw [ef]
 dsimp only [p_]
 refine ⟨⟨B.go.1, B.n.2⟩, fun q2 hq2 => ?_⟩
 rw [eds]
 have s2 := s1.trans (ak (HO.lst ds) hq2)
 have N2 : NoT (upd H1 q2 (HO.lst ds)) := aA N1 rfl
 have h2 : upd H1 q2 (HO.lst ds) q2 = _ := ai
 have h21 := (ak (HO.lst ds) hq2) _ _ g1
 have f2 := s1.free hq2
 have n12 : D ≠ q2 := au g1 hq2
 generalize upd H1 q2 (HO.lst ds) = H2 at s2 N2 h2 h21 ⊢
 have ke : bi H2 (.ref q2) = some "list" := by simp [bi, h2]
 simp only [ke]
 refine itn (by decide) ?_
 walk_at "rd"
 refine ⟨_, EqR.flatL (SqL.of h2) (SqL.of h21) fl, ?_⟩
 walk_at "rd"
 refine ⟨.inl ⟨_, SqL.of h2⟩, q2, _, _, rfl, rfl, h2, by omega, ?_⟩
 have s5 := eJ (o := HO.lst (ds ++ [V.int 0])) s2 f2
 have N5 : NoT (upd H2 q2 (HO.lst (ds ++ [V.int 0]))) := aA N2 rfl
 have h51 : upd H2 q2 (HO.lst (ds ++ [V.int 0])) D = _ := (ay n12).trans h21
 generalize upd H2 q2 (HO.lst (ds ++ [V.int 0])) = H5 at s5 N5 h51 ⊢
 have J5 := S.ch.same s5
 obtain ⟨dx5, hp5⟩ := J5.ob
 refine ⟨.inl ⟨_, SqL.of (s5 _ _ hh)⟩, _, _, hp5, fZ "days" _, N5, d, os, J5, ?_⟩
 rw [ef]
 dsimp only [p_]
 refine ⟨⟨B.go.1, B.n.2⟩, fun q3 hq3 => ?_⟩
 rw [eds]
 have s6 := s5.trans (ak (HO.lst ds) hq3)
 have N6 : NoT (upd H5 q3 (HO.lst ds)) := aA N5 rfl
 have h6 : upd H5 q3 (HO.lst ds) q3 = _ := ai
 have h61 := (ak (HO.lst ds) hq3) _ _ h51
 have f3 := s5.free hq3
 generalize upd H5 q3 (HO.lst ds) = H6 at s6 N6 h6 h61 ⊢
 have n1 : D ≠ hd := Ne.symm (au hh fD0)
 have n3 : q3 ≠ hd := Ne.symm (au hh f3)
 refine ⟨hd, hs, _, rfl, rfl, s6 _ _ hh, by rw [sizeLine_eq]; omega, _, _, .inl (SqL.of ai), vY _ _, ?_⟩
 walk_at "rd"
 refine ⟨_, EqR.flatL (SqL.of ((ay n3).trans h6)) (SqL.of ((ay n1).trans h61)) fl, ?_⟩
 refine k _ [.ref q3] ⟨ai, (Keep.same s6).put (.head _), aA N6 rfl, fun e he => ?_⟩ (Nat.le_refl 1)
 rw [List.mem_singleton.mp he]
 exact ⟨q3, ds, rfl, f3, (ay n3).trans h6, ⟨fl, lD⟩, n3⟩
open K3
def Off (hd : Addr) (la : List Nat -> Lw) (os : List Od) : Prop := ∀ c ∈ os, c.ad ≠ hd /\ (la c.nm).q ≠ hd
theorem LAt.keep {X : List Addr} {H H' : Hp} {o : Od} {x : Lw} (j : LAt H o x) (s : Keep X H H') (h : x.q ∉ X /\ x.tq ∉ X /\ x.rq ∉ X) : LAt H' o x := ⟨s _ _ j.q h.1, s _ _ j.tq h.2.1, s _ _ j.rq h.2.2⟩
theorem Sq.same {S O : Addr} {H H' : Hp} {p d r : Addr} {la : List Nat -> Lw} {os : List Od} (j : Sq S O H p d r la os) (s : Same H H') : Sq S O H' p d r la os :=
 ⟨j.ch.same s, by rcases j.rd with e | ⟨q, e⟩
                  ·exact .inl (s _ _ e)
                  ·exact .inr ⟨q, s _ _ e⟩, fun o ho => (j.rw o ho).same s, j.ok, j.ln⟩
theorem Sd.same {S O : Addr} {H H' : Hp} {p d r : Addr} {la : List Nat -> Lw} {os : List Od} (j : Sd S O H p d r la os) (s : Same H H') : Sd S O H' p d r la os := ⟨j.q.same s, s _ _ j.dc, j.ij⟩
theorem Sq.held {S O : Addr} {hd : Addr} {H H' : Hp} {p d r : Addr} {la : List Nat -> Lw} {os : List Od} {hs : List V} (j : Sq S O H p d r la os) (s : Keep [hd] H H') (hh : H hd = some (.lst hs)) (o : Off hd la os) : Sq S O H' p d r la os := by
 obtain ⟨dx, hp⟩ := j.ch.ob
 have n : ∀ {x : Addr} {o : HO}, H x = some o -> (∀ l, o ≠ .lst l) -> x ∉ [hd] := fun e q m => bN e hh (fun z => q _ z) (List.mem_singleton.mp m)
 refine ⟨j.ch.keep s (n hp (by intro _ z; cases z)) (n j.ch.dc (by intro _ z; cases z)) fun c hc => ⟨?_, n (j.ch.od c hc).ag.ag (by intro _ z; cases z), n (j.ch.od c hc).ag.rt (by intro _ z; cases z), by simpa using (o c hc).1⟩, ?_, fun c hc => (j.rw c hc).keep s ⟨by simpa using (o c hc).2, n (j.rw c hc).tq (by intro _ z; cases z), n (j.rw c hc).rq (by intro _ z; cases z)⟩, j.ok, j.ln⟩
 ·obtain ⟨dc, ho⟩ := (j.ch.od c hc).ob
  exact n ho (by intro _ z; cases z)
 ·rcases j.rd with e | ⟨q, e⟩
  ·exact .inl (s _ _ e (n e (by intro _ z; cases z)))
  ·exact .inr ⟨q, s _ _ e (n e (by intro _ z; cases z))⟩
theorem New.trans {H H1 H2 : Hp} {hd : Addr} {hs es es' : List V} (a : New H H1 hd hs es) (b : New H1 H2 hd (hs ++ es) es') : New H H2 hd hs (es ++ es') := by
 obtain ⟨a1, a2, a3, a4⟩ := a
 obtain ⟨b1, b2, b3, b4⟩ := b
 refine ⟨by rw [<- List.append_assoc]; exact b1, a2.trans b2, b3, fun e he => ?_⟩
 rcases List.mem_append.mp he with h | h
 ·obtain ⟨q, ls, e1, e2, e3, e5, e4⟩ := a4 e h
  exact ⟨q, ls, e1, e2, b2 _ _ e3 (by simpa using e4), e5, e4⟩
 ·obtain ⟨q, ls, e1, e2, e3, e5, e4⟩ := b4 e h
  exact ⟨q, ls, e1, a2.free e2 (by simpa using e4), e3, e5, e4⟩
theorem New.refl {H : Hp} {hd : Addr} {hs : List V} (hN : NoT H) (hh : H hd = some (.lst hs)) : New H H hd hs [] := ⟨by rw [List.append_nil]; exact hh, Keep.refl, hN, fun _ m => nomatch m⟩
def sp_Af (S O : Addr) : Sp := sp5 fun x y l t h H Q _ => NoT H /\ asR x fun p => asR y fun r => asT l fun nm => asI t fun u => asR h fun hd => ∃ d la os c hs, Sq S O H p d r la os /\ c ∈ os /\ c.nm = nm /\ H hd = some (.lst hs) /\ hs.length <= 4000 /\ Off hd la os /\
 ∀ H' es, New H H' hd hs es -> es.length <= 3 -> Q (.bl true) H'
theorem iK (T : Txt K mg a) : bv P w K mg base (XE P w) 5 a.fK a.iL ["_law_standing", "_law_orders", "_law_name", "_law_until", "_law_held"] (sp_Af a.aq a.aj) := by
 refine T.cT.okX iI (fun vs H Q E h => sp5.len h) (fun cdv A outer s H vs Q E hr h => ?_)
 obtain ⟨x0, x1, x2, x3, x4, rfl, h⟩ := sp5.inv h
 try dsimp only [sp_Af, sp5] at h
 have ND := iI.nd
 obtain ⟨hN, h1⟩ := h
 obtain ⟨p, rfl, h2⟩ := asR.inv h1
 obtain ⟨r, rfl, h3⟩ := asR.inv h2
 obtain ⟨nm, rfl, h4⟩ := asT.inv h3
 obtain ⟨u, rfl, h5⟩ := asI.inv h4
 obtain ⟨hd, rfl, d, la, os, c, hs, S, hc, pc, hh, lh, off, k⟩ := asR.inv h5
 have pc : c.nm = nm := pc
 subst pc
 have sz := szl
 have G__law_way_good := @oO P w K mg base a T
 have b__law_way_good := n_ T.fA
 refine ⟨_, (ah (aD (i := 5) ND rfl (Or.inl rfl) (ap aO (fv 3) (aE (e7 K) rfl T.kb ig (FA.pa (aa (fv 4) ae)))))
  (ah (gM (by passes_own) rfl (cw rfl T.cx (FA.pa (aa ac ae))) (aS (i := 6) ND rfl (Or.inl rfl)) (ao (ba (bI (bA (ar G__law_way_good (hr.mono (by decide)) rfl T.pZ T.fA.kp b__law_way_good .nil aL (FA.pa (aa (fv 0) (aa (fv 1) (aa (fv 2) (aa (fv 3) (aa (ap aW (ap aO (fv 5) (ap dD (fv 6) (ci (FA.pa (aa ac (aa ac ae))) (ap aW (ap aY (fv 5) ac) ac) (fun _ _ => rfl)))) ac) (aa (fv 4) ae)))))))))) (ao (aC cL)) aJ)))
  (ao (aC cL)))), ?_⟩
 walk_at "rd"
 refine ⟨_, .inl (SqL.of hh), gf ?_⟩
 walk_at "rd"
 refine dw (lo := 0) (n := 3) (fun i σ' H' => ∃ es x7, New H H' hd hs es /\ es.length <= i /\ σ' = [some (.ref p), some (.ref r), some (L2.T c.nm), some (.int u), some (.ref hd), some (.int (u + hs.length)), x7]) ⟨[], none, New.refl hN hh, Nat.zero_le _, rfl⟩ ?_ ?_
 ·rintro i σ' H1 hi ⟨es, x7, n1, le, rfl⟩
  walk_at "rd"
  refine ⟨n1.2.2.1, by walk_at "om", fun p1 hp1 => ?_⟩
  refine iG (ns := [1, 2]) (by omega) (by show _ < (2 : Int); omega) ?_
  generalize List.getD [1, 2] ((u + hs.length) / 3 % 2).toNat (0 : Int) = m
  walk_at "rd"
  refine ⟨.inl (by omega), n1.2.2.1, d, la, os, c, hs ++ es, S.held n1.2.1 hh off, hc, rfl, n1.1, by rw [List.length_append]; omega, fun H' es' n2 le2 => ⟨es ++ es', _, n1.trans n2, by rw [List.length_append]; omega, rfl⟩⟩
 ·rintro σ' H1 ⟨es, x7, n1, le, rfl⟩
  walk_at "rd"
  exact k _ es n1 le
open K3
structure Pt where
 nm : List Nat
 m : Int
 pl : Int
 e : Int
 n : Int
 nt : List Nat
 rq : Addr
 rs : List V
structure PAt (H : Hp) (q : Addr) (x : Pt) : Prop where
 q : H q = some (.tup [L2.T x.nm, .int (dy x.m x.pl), .int x.e, .int x.n, L2.T x.nt, .ref x.rq])
 rq : H x.rq = some (.lst x.rs)
 gr : ∀ v ∈ x.rs, GrA H v
structure POk (x : Pt) : Prop where
 nm : nm x.nm = true
 m : 0 <= x.m /\ x.m <= 4799
 pl : 1 <= x.pl /\ x.pl <= lg x.m
 e : 1 <= x.e /\ x.e <= 120
 n : 1 <= x.n /\ x.n <= 1000
 nt : nt x.nt = true
 rs : 2 <= x.rs.length /\ x.rs.length <= 4
theorem PAt.same {H H' : Hp} {q : Addr} {x : Pt} (j : PAt H q x) (s : Same H H') : PAt H' q x := ⟨s _ _ j.q, s _ _ j.rq, fun v m => (j.gr v m).same s⟩
structure Nms (H : Hp) (nq : Addr) (nms : List (List Nat)) : Prop where
 q : H nq = some (.lst (nms.map L2.T))
 ln : nms.length = 4
 ok : ∀ l ∈ nms, nm l = true
theorem Nms.same {H H' : Hp} {nq : Addr} {nms : List (List Nat)} (j : Nms H nq nms) (s : Same H H') : Nms H' nq nms := ⟨s _ _ j.q, j.ln, j.ok⟩
theorem Nms.at {H : Hp} {nq : Addr} {nms : List (List Nat)} (j : Nms H nq nms) {i : Int} (h0 : 0 <= i) (h1 : i < 4) : ∃ l ∈ nms, nms.getD i.toNat [] = l /\ atI (nms.map L2.T) i = some (L2.T l) := by
 obtain ⟨k, rfl⟩ : ∃ k : Nat, i = k := ⟨i.toNat, by omega⟩
 have hk : k < nms.length := by rw [j.ln]; omega
 refine ⟨nms[k], List.getElem_mem hk, by simp [List.getD, hk], aH ?_⟩
 rw [List.getElem?_map, List.getElem?_eq_getElem hk]; rfl
def sp_yF : Sp := sp5 fun x y z c m H Q _ => NoT H /\ asR x fun nq => asI y fun mo => asI z fun k => asI c fun c => asI m fun m => ∃ nms, Nms H nq nms /\ (0 <= mo /\ mo <= 4799) /\
 ∀ H' q t x, Same H H' -> NoT H' -> H' t = some (.tup [.ref q, .int x.pl]) -> PAt H' q x -> POk x -> x.m = mo -> x.nm = nms.getD (k / 8 % 4).toNat [] -> x.nm ∈ nms -> H q = none -> H x.rq = none -> Q (.ref t) H'
theorem ms (T : Txt K mg a) : bv P w K mg base (XE P w) 3 a.jV a.mP ["_law_names", "_law_month", "_law_kind", "_law_cell", "_law_more"] sp_yF := by
 refine T.fb.okX lR (fun vs H Q E h => sp5.len h) (fun cdv A outer s H vs Q E hr h => ?_)
 obtain ⟨x0, x1, x2, x3, x4, rfl, h⟩ := sp5.inv h
 try dsimp only [sp_yF, sp5] at h
 have ND := lR.nd
 obtain ⟨hN, h1⟩ := h
 obtain ⟨nq, rfl, h2⟩ := asR.inv h1
 obtain ⟨mo, rfl, h3⟩ := asI.inv h2
 obtain ⟨z, rfl, h4⟩ := asI.inv h3
 obtain ⟨c, rfl, h5⟩ := asI.inv h4
 obtain ⟨m, rfl, nms, hn, hm, k⟩ := asI.inv h5
 have sz := szl
 have hl := Df mo
 have G__law_rows := @tT P w K mg base a T
 have b__law_rows := ua T.je
 have G__law_note := @t5 P w K mg base a T
 have b__law_note := vb T.jp
 have G__law_day := @jT P w K mg base a T
 have b__law_day := jM T.c_
 have G__law_long := @lE P w K mg base a T
 have b__law_long := mw T.dY
 refine ⟨_, (ah (aD (i := 5) ND rfl (Or.inl rfl) (ap aO ac (ap aW (fv 3) (ar G__law_long (hr.mono (by decide)) rfl T.ji T.dY.kp b__law_long .nil aL (FA.pa (aa (fv 1) ae))))))
  (ah (aD (i := 6) ND rfl (Or.inl rfl) (ap aO ac (ap aW (ap aY (fv 3) ac) (ci (FA.pa (aa ac (aa ac ae))) (ap aW (ap aY (fv 3) ac) ac) (fun _ _ => rfl)))))
  (ah (aD (i := 7) ND rfl (Or.inl rfl) (ap aO ac (ap aW (fv 4) (ci (FA.pa (aa ac (aa ac (aa ac ae)))) (ap aW (ap aY (fv 4) ac) ac) (fun _ _ => rfl)))))
  (ah (aD (i := 8) ND rfl (Or.inl rfl) (eI (FA.pa (aa (aP (aw K) (fv 0) (ap aW (ap aY (fv 2) ac) ac) (fun _ _ => rfl)) (aa (ar G__law_day (hr.mono (by decide)) rfl T.iR T.c_.kp b__law_day .nil aL (FA.pa (aa (fv 1) (aa (fv 5) ae)))) (aa (fv 6) (aa (fv 7) (aa (ar G__law_note (hr.mono (by decide)) rfl T.vV T.jp.kp b__law_note .nil aL (FA.pa (aa (ap aY (fv 4) ac) ae))) (aa (ar G__law_rows (hr.mono (by decide)) rfl T.wj T.je.kp b__law_rows .nil aL (FA.pa (aa (ap aY (fv 3) ac) ae))) ae)))))))))
  (ao (aC (eI (FA.pa (aa (fv 8) (aa (fv 5) ae)))))))))), ?_⟩
 walk_at "rd"
 have p2 : 0 <= c / 93 % 2 /\ c / 93 % 2 < 2 := by omega
 have p3 : 0 <= m / 6 % 3 /\ m / 6 % 3 < 3 := by omega
 have e1 : ([3, 120] : List Int).getD (c / 93 % 2).toNat 0 = 3 \/ ([3, 120] : List Int).getD (c / 93 % 2).toNat 0 = 120 := by
  obtain h | h : (c / 93 % 2).toNat = 0 \/ (c / 93 % 2).toNat = 1 := by omega
  ·rw [h]; exact .inl rfl
  ·rw [h]; exact .inr rfl
 have e2 : ([6, 6, 1000] : List Int).getD (m / 6 % 3).toNat 0 = 6 \/ ([6, 6, 1000] : List Int).getD (m / 6 % 3).toNat 0 = 1000 := by
  obtain h | h | h : (m / 6 % 3).toNat = 0 \/ (m / 6 % 3).toNat = 1 \/ (m / 6 % 3).toNat = 2 := by omega
  ·rw [h]; exact .inl rfl
  ·rw [h]; exact .inl rfl
  ·rw [h]; exact .inr rfl
 refine ⟨hN, by omega, hN, by walk_at "om", fun _ _ => iG (ns := [3, 120]) p2.1 (by show _ < (2 : Int); omega) ?_⟩
 generalize ([3, 120] : List Int).getD (c / 93 % 2).toNat 0 = b1 at e1 ⊢
 have m1 : 0 <= c / 31 % b1 /\ c / 31 % b1 < 120 := by
  rcases e1 with rfl | rfl <;> omega
 walk_at "rd"
 refine ⟨by omega, hN, by walk_at "om", fun _ _ => iG (ns := [6, 6, 1000]) p3.1 (by show _ < (3 : Int); omega) ?_⟩
 generalize ([6, 6, 1000] : List Int).getD (m / 6 % 3).toNat 0 = b2 at e2 ⊢
 have m2 : 0 <= m % b2 /\ m % b2 < 1000 := by
  rcases e2 with rfl | rfl <;> omega
 walk_at "rd"
 obtain ⟨l, ml, el, al⟩ := hn.at (i := z / 8 % 4) (by omega) (by omega)
 have mc : 0 <= c % lg mo /\ c % lg mo < lg mo := ⟨Int.emod_nonneg _ (by omega), Int.emod_lt_of_pos _ (by omega)⟩
 refine ⟨by omega, _, _, .inl (SqL.of hn.q), al, hN, ⟨hm.1, by omega⟩, hN, fun tl ht => ⟨hN, fun rq rs H1 s1 N1 f1 g1 l1 a1 => ⟨by walk_at "om", fun q fq => ⟨by walk_at "om", fun t ft => ?_⟩⟩⟩⟩
 have s2 := s1.trans (ak (HO.tup [L2.T l, V.int (dy mo (1 + c % lg mo)), V.int (1 + c / 31 % b1), V.int (1 + m % b2), L2.T tl, V.ref rq]) fq)
 refine k _ q t ⟨l, mo, 1 + c % lg mo, 1 + c / 31 % b1, 1 + m % b2, tl, rq, rs⟩ (s2.trans (ak _ ft)) (aA (aA N1 rfl) rfl) ai (PAt.same ?_ (ak _ ft)) ⟨hn.ok l ml, hm, ⟨?_, ?_⟩, ⟨?_, ?_⟩, ⟨?_, ?_⟩, ht, l1⟩ rfl el.symm ml (s1.none_of fq) f1
 ·exact ⟨ai, ak _ fq _ _ g1, fun v mv => (a1 v mv).same (ak _ fq)⟩
 all_goals (dsimp only; omega)
open K3
def WD : List (List Nat) := [wg, BC, lf, lf, wI, zX]
theorem uK {i lo hi : Int} (h : lo <= i /\ i <= hi) : amg (.int i) lo hi = true := by
 unfold amg
 simp only [Bool.and_eq_true, decide_eq_true_eq]; omega
theorem Cu {m pl : Int} (m0 : 0 <= m) (h : m <= 4799) (p : 1 <= pl) : 0 <= dy m pl /\ dy m pl <= 146096 := by
 have h1 := Ai (m := m) p
 have h2 := Di h
 have h3 := Dc m0
 omega
theorem A8 {l : List Nat} (h : nt l = true) : ok l := by
 unfold nt lie at h
 simp only [Bool.and_eq_true, decide_eq_true_eq, List.all_eq_true] at h
 exact ⟨fun d hd => by have := (h.2.2.2 d hd).2; omega, by omega⟩
theorem PAt.put {H : Hp} {q : Addr} {x : Pt} (j : PAt H q x) (o : POk x) : nameV (L2.T x.nm) = true /\ amg (.int (dy x.m x.pl)) 0 146096 = true /\ amg (.int x.e) 1 120 = true /\ amg (.int x.n) 1 1000 = true /\ ntV (L2.T x.nt) = true /\ RwsX H (.ref x.rq) /\ fW H (.ref x.rq) = true := by
 have g : ∀ v ∈ x.rs, RwX H v /\ rwV H v = true := fun v m => by
  obtain ⟨q, l, c, i, rfl, e1, ol, oc, hi⟩ := j.gr v m
  refine ⟨⟨⟨"tuple", by simp [bi, e1]⟩, fun q' xs' e2 e3 => ?_⟩, ?_⟩
  ·cases e2; rw [e1] at e3; cases e3
   exact ⟨(by show 3 <= 10; decide), fa ⟨fw ol, ⟨_, rfl⟩, rfl⟩ (fa ⟨fw (wY oc), ⟨_, rfl⟩, rfl⟩ (fa ⟨nO (by intro _ z; cases z), ⟨_, rfl⟩, rfl⟩ fn))⟩
  ·unfold rwV; simp only [e1]
   have e4 : rwL [L2.T l, L2.T c, .int i] = (sy (L2.T c) && amg (.int i) (-1000000000000000) 1000000000000000 && !eqV (.int i) (.int 0)) := rfl
   have e5 : eqV (.int i) (.int 0) = false := by show (i == 0) = false; simpa using hi.2.2
   rw [e4, show sy (L2.T c) = true from oc, uK ⟨hi.1, hi.2.1⟩, e5]; rfl
 refine ⟨o.nm, uK (Cu o.m.1 o.m.2 o.pl.1), uK o.e, uK o.n, o.nt, .inl ⟨_, _, rfl, j.rq, by have := o.rs; omega, fun v m => (g v m).1⟩, ?_⟩
 unfold fW; simp only [j.rq]
 rw [decide_eq_true o.rs.1, decide_eq_true (by have := o.rs; omega : x.rs.length <= 200), List.all_eq_true.mpr fun v m => (g v m).2]; rfl
theorem xT {H : Hp} {os : List Od} {at_ : Int} {n f e t no r o n' f' e' t' no' r' r2 : V} (h : 0 <= at_ /\ at_ <= 5) (h1 : nameV n = true) (h2 : amg f 0 146096 = true) (h3 : amg e 1 120 = true) (h4 : amg t 1 1000 = true) (h5 : ntV no = true) (s : Spo at_ H o n f e t no r n' f' e' t' no' r2) (h6 : at_ = 5 -> fW H r' = false) : duP H os n' f' e' t' no' r' = WD.getD at_.toNat [] := by
 obtain ⟨s0, s1, s2, s3, s4, s5⟩ := s
 obtain rfl | rfl | rfl | rfl | rfl | rfl : at_ = 0 \/ at_ = 1 \/ at_ = 2 \/ at_ = 3 \/ at_ = 4 \/ at_ = 5 := by omega
 ·rw [if_pos rfl] at s0
  unfold duP; rw [s0.2.2]; rfl
 ·rw [if_neg (by decide)] at s0; rw [if_pos rfl] at s1
  unfold duP; rw [s0, h1, s1.2]; rfl
 ·rw [if_neg (by decide)] at s0 s1; rw [if_pos rfl] at s2
  unfold duP; rw [s0, h1, s1, h2, s2.2]; rfl
 ·rw [if_neg (by decide)] at s0 s1 s2; rw [if_pos rfl] at s3
  unfold duP; rw [s0, h1, s1, h2, s2, h3, s3.2]; rfl
 ·rw [if_neg (by decide)] at s0 s1 s2 s3; rw [if_pos rfl] at s4
  unfold duP; rw [s0, h1, s1, h2, s2, h3, s3, h4, s4.2.2]; rfl
 ·rw [if_neg (by decide)] at s0 s1 s2 s3 s4
  unfold duP; rw [s0, h1, s1, h2, s2, h3, s3, h4, s4, h5, h6 rfl]; rfl
theorem E3 {H : Hp} {at_ : Int} {n f e t no r o n' f' e' t' no' r' : V} (s : Spo at_ H o n f e t no r n' f' e' t' no' r') (h1 : okV n /\ Kd H n) (h2 : Kd H f) (h3 : Kd H e) (h4 : Kd H t) (h5 : okV no /\ Kd H no) : (okV n' /\ Kd H n') /\ Kd H f' /\ Kd H e' /\ Kd H t' /\ (okV no' /\ Kd H no') := by
 obtain ⟨s0, s1, s2, s3, s4, s5⟩ := s
 refine ⟨?_, ?_, ?_, ?_, ?_⟩
 ·split at s0
  ·exact ⟨s0.1, s0.2.1⟩
  ·rw [s0]; exact h1
 ·split at s1
  ·exact s1.1
  ·rw [s1]; exact h2
 ·split at s2
  ·exact s2.1
  ·rw [s2]; exact h3
 ·split at s3
  ·exact s3.1
  ·rw [s3]; exact h4
 ·split at s4
  ·exact ⟨s4.1, s4.2.1⟩
  ·rw [s4]; exact h5
theorem CG {H : Hp} {x : V} {Q : VK} (h : cC x = true) (q : Q (.bl true) H) : fj K false x x H Q := by
 cases x with
 | non => walk_at "rd"; simpa using q
 | bl => walk_at "rd"; simpa using q
 | int => walk_at "rd"; simpa using q
 | str => walk_at "rd"; simpa using q
 | _ => cases h
theorem Du {i : Int} (h : 0 <= i /\ i <= 5) : atI (WD.map L2.T) i = some (L2.T (WD.getD i.toNat [])) /\ WD.getD i.toNat [] ≠ [] := by
 obtain rfl | rfl | rfl | rfl | rfl | rfl : i = 0 \/ i = 1 \/ i = 2 \/ i = 3 \/ i = 4 \/ i = 5 := by omega
 all_goals exact ⟨rfl, by decide⟩
def sp_yd (S O : Addr) : Sp := sp4 fun x y c m H Q _ => NoT H /\ asR x fun p => asR y fun q => asI c fun c => asI m fun m => ∃ d os pt, SAt S O H p d os /\ os.length <= 100 /\ PAt H q pt /\ POk pt /\ ∀ H', Same H H' -> NoT H' -> Q (.bl true) H'
theorem nA (T : Txt K mg a) : bv P w K mg base (XE P w) 11 a.dL a.iw ["_law_standing", "_law_put_here", "_law_cell", "_law_more"] (sp_yd a.aq a.aj) := by
 refine T.fJ.okX iM (fun vs H Q E h => sp4.len h) (fun cdv A outer s H vs Q E hr h => ?_)
 obtain ⟨x0, x1, x2, x3, rfl, h⟩ := sp4.inv h
 try dsimp only [sp_yd, sp4] at h
 have ND := iM.nd
 have HU := bJ hr
 obtain ⟨hN, h1⟩ := h
 obtain ⟨p, rfl, h2⟩ := asR.inv h1
 obtain ⟨q, rfl, h3⟩ := asR.inv h2
 obtain ⟨c, rfl, h4⟩ := asI.inv h3
 obtain ⟨m, rfl, d, os, x, J, len, AP, B, k⟩ := asI.inv h4
 have sz := szl
 obtain ⟨y1, y2, y3, y4, y5, y6, y7⟩ := AP.put B
 have p6 : 0 <= c % 6 /\ c % 6 <= 5 := by omega
 have G__law_told := @fV P w K mg base a T
 have b__law_told := fU T.bQ
 have G__law_spoilt := @qY P w K mg base a T
 have b__law_spoilt := rS T.e_
 have c3 : ∃ u, PSs (cS (XE P w) P w K mg base ["_law_standing", "_law_put_here", "_law_cell", "_law_more", "_law_at", "_law_odd"] "_law_odd_good" (af bw) a.dL cdv A outer s H E) (List.drop 3 (av bw)) u /\ ∀ H1 q1 n' f' e' t' no' r', Same H H1 -> NoT H1 -> H1 q1 = some (.tup [n', f', e', t', no', r']) -> (okV n' /\ Kd H1 n') -> Kd H1 f' -> Kd H1 e' -> Kd H1 t' -> (okV no' /\ Kd H1 no') -> RwsX H1 r' -> duP H1 os n' f' e' t' no' r' = WD.getD (c % 6).toNat [] ->
  u { nx := fun _ H' => Q .non H', rt := Q } [some (.ref p), some (.ref q), some (.int c), some (.int m), some (.int (c % 6)), some (.ref q1)] H1 := by
  refine ⟨_, (ao (aC (dM (bp K HU) (ar G__law_told (hr.mono (by decide)) rfl T.dW T.bQ.kp b__law_told .nil aL (FA.pa (aa (fv 0) (aa ac (aa (fv 5) ae))))) (ci (FA.pa (aa (aB [110, 97, 109, 101]) (aa (aB [100, 97, 121]) (aa (aB [99, 111, 117, 110, 116]) (aa (aB [99, 111, 117, 110, 116]) (aa (aB [110, 111, 116, 101]) (aa (aB [114, 111, 119]) ae))))))) (fv 4) (fun _ _ => rfl)) (aQ _)))), fun H1 q1 n' f' e' t' no' r' s1 N1 g1 z1 z2 z3 z4 z5 z6 du => ?_⟩
  walk_at "rd"
  refine ⟨N1, d, os, J.same s1, len, .inl ⟨q1, n', f', e', t', no', r', rfl, g1, z1.1, z1.2, z2, z3, z4, z5.1, z5.2, z6, fun _ H' s2 N2 => ⟨N2, by walk_at "om", fun p1 _ => ?_⟩, fun z => ?_⟩⟩
  ·have ea : atI [L2.T wg, L2.T BC, L2.T lf, L2.T lf, L2.T wI, L2.T zX] (c % 6) = some (L2.T (WD.getD (c % 6).toNat [])) := (Du p6).1
   simp only [hX, ea]
   rw [du]
   exact CG rfl (k _ (s1.trans s2) N2)
  ·rw [du] at z; exact absurd z (Du p6).2
 obtain ⟨u3, hu3, c3⟩ := c3
 refine ⟨_, (ah (aD (i := 4) ND rfl (Or.inl rfl) (ap aW (fv 2) ac))
  (ah (aD (i := 5) ND rfl (Or.inl rfl) (ar G__law_spoilt (hr.mono (by decide)) rfl T.j9 T.e_.kp b__law_spoilt .nil aL (FA.pa (aa (fv 1) (aa (fv 4) (aa (fv 3) ae))))))
  (ah (ba (L2.PW.pt (rR (aU y8 (fv 4) ac (aQ _)) (m_ (aU (bp K HU) (ap aW (ap aY (fv 2) ac) ac) ac (aQ _))))) (ao (aD (i := 5) ND rfl (Or.inl rfl) (ar G__law_spoilt (hr.mono (by decide)) rfl T.j9 T.e_.kp b__law_spoilt .nil aL (FA.pa (aa (fv 5) (aa ac (aa ac ae))))))) aJ)
  hu3))), ?_⟩
 walk_at "rd"
 have hg : Grs H (.ref x.rq) := ⟨x.rq, x.rs, rfl, AP.rq, B.rs, AP.gr⟩
 refine ⟨hN, _, _, _, _, _, _, AP.q, p6, fun _ => ⟨x.nm, rfl, B.nm⟩, hg, fun q1 n' f' e' t' no' r' H1 s1 N1 g1 sp => ?_⟩
 have on := okn B.nm
 have kd : ∀ {H2 : Hp}, Same H1 H2 -> _ := fun {H2} s => E3 (sp.same s) (H := H2) ⟨fw ⟨on.1, by omega⟩, ⟨_, rfl⟩⟩ ⟨_, rfl⟩ ⟨_, rfl⟩ ⟨_, rfl⟩ ⟨fw (A8 B.nt), ⟨_, rfl⟩⟩
 by_cases l5 : c % 6 < 5
 ·refine itp l5 ?_
  have er : r' = .ref x.rq := by
   have h := sp.2.2.2.2.2
   rw [if_neg (by omega)] at h; exact h
  subst er
  by_cases c1 : c / 6 % 2 = 1
  ·refine itp c1 ⟨N1, _, _, _, _, _, _, g1, fun z => absurd z (by decide), hg.same s1, fun q2 n2 f2 e2 t2 no2 r2 H2 s2 N2 g2 sp2 => ?_⟩
   obtain ⟨a0, a1, a2, a3, a4, a5⟩ := sp2
   rw [if_neg (by decide)] at a0 a1 a2 a3 a4
   rw [if_pos rfl] at a5
   subst a0 a1 a2 a3 a4
   obtain ⟨z1, z2, z3, z4, z5⟩ := kd s2
   exact c3 H2 q2 _ _ _ _ _ _ (s1.trans s2) N2 g2 z1 z2 z3 z4 z5 a5.1 (xT p6 y1 y2 y3 y4 y5 (sp.same s2) fun _ => a5.2)
  ·obtain ⟨z1, z2, z3, z4, z5⟩ := kd (Same.refl _)
   exact itn c1 (c3 H1 q1 _ _ _ _ _ _ s1 N1 g1 z1 z2 z3 z4 z5 (y6.same s1) (xT p6 y1 y2 y3 y4 y5 sp fun z => by omega))
 ·have a5 := sp.2.2.2.2.2
  rw [if_pos (by omega)] at a5
  obtain ⟨z1, z2, z3, z4, z5⟩ := kd (Same.refl _)
  exact itn l5 (c3 H1 q1 _ _ _ _ _ _ s1 N1 g1 z1 z2 z3 z4 z5 a5.1 (xT p6 y1 y2 y3 y4 y5 sp fun _ => a5.2))
open K3
def Ew (p d r : Addr) (la : List Nat -> Lw) (os : List Od) (y : Addr) : Prop := y = p \/ y = d \/ y = r \/ ∃ o ∈ os, y ∈ [o.ob, o.ad, (la o.nm).q]
def Kp (U : Addr -> Prop) (H H' : Hp) : Prop := ∀ c z, H c = some z -> ¬ U c -> H' c = some z
structure St (S O : Addr) (H : Hp) (U : Addr -> Prop) (nms : List (List Nat)) (p d r : Addr) (la : List Nat -> Lw) (os : List Od) : Prop where
 sd : Sd S O H p d r la os
 us : ∀ y, Ew p d r la os y -> U y
 al : ∀ y, U y -> ∃ o, H y = some o /\ ∀ l, o ≠ .tup l
 nm : ∀ o ∈ os, o.nm ∈ nms
 n4 : nms.length <= 4
 dr : d ≠ r
 qa : ∀ o ∈ os, ∀ o' ∈ os, (la o.nm).q ≠ o'.ad
structure Go (S O : Addr) (H H' : Hp) (U U' : Addr -> Prop) (nms : List (List Nat)) (p d r : Addr) (la : List Nat -> Lw) (os : List Od) : Prop where
 st : St S O H' U' nms p d r la os
 kp : Kp U H H'
 gr : ∀ y, U' y -> U y \/ H y = none
 mo : ∀ y, U y -> U' y
 nT : NoT H'
theorem Go.trans {S O : Addr} {H H1 H2 : Hp} {U U1 U2 : Addr -> Prop} {nms : List (List Nat)} {p d r : Addr} {la la' : List Nat -> Lw} {os os' : List Od} (x : Go S O H H1 U U1 nms p d r la os) (y : Go S O H1 H2 U1 U2 nms p d r la' os') : Go S O H H2 U U2 nms p d r la' os' := by
 refine ⟨y.st, fun c z e n => y.kp c z (x.kp c z e n) fun m => ?_, fun c m => ?_, fun c m => y.mo c (x.mo c m), y.nT⟩
 ·rcases x.gr c m with m | m
  ·exact n m
  ·rw [e] at m; cases m
 ·rcases y.gr c m with m | m
  ·exact x.gr c m
  ·by_cases u : U c
   ·exact .inl u
   ·cases e : H c with
    | none => exact .inr rfl
    | some z => rw [x.kp c z e u] at m; cases m
theorem St.same {S O : Addr} {H H' : Hp} {U : Addr -> Prop} {nms : List (List Nat)} {p d r : Addr} {la : List Nat -> Lw} {os : List Od} (x : St S O H U nms p d r la os) (s : Same H H') : St S O H' U nms p d r la os := by
 refine ⟨x.sd.same s, x.us, fun y u => ?_, x.nm, x.n4, x.dr, x.qa⟩
 obtain ⟨o, e, n⟩ := x.al y u
 exact ⟨o, s _ _ e, n⟩
theorem Go.same {S O : Addr} {H H' : Hp} {U : Addr -> Prop} {nms : List (List Nat)} {p d r : Addr} {la : List Nat -> Lw} {os : List Od} (x : St S O H U nms p d r la os) (s : Same H H') (n : NoT H') : Go S O H H' U U nms p d r la os := ⟨x.same s, fun c z e _ => s c z e, fun _ m => .inl m, fun _ m => m, n⟩
theorem yt {β : Type} [DecidableEq β] : ∀ {l m : List β}, l.Nodup -> (∀ x ∈ l, x ∈ m) -> l.length <= m.length
 | [], _, _, _ => Nat.zero_le _
 | a :: l, m, h, s => by
  rw [List.nodup_cons] at h
  have ha := s a (.head _)
  have := yt (m := m.erase a) h.2 fun x hx => (List.mem_erase_of_ne (by rintro rfl; exact h.1 hx)).mpr (s x (.tail _ hx))
  rw [List.length_erase_of_mem ha] at this
  have := List.length_pos_of_mem ha
  rw [List.length_cons]; omega
theorem St.len {S O : Addr} {H : Hp} {U : Addr -> Prop} {nms : List (List Nat)} {p d r : Addr} {la : List Nat -> Lw} {os : List Od} (x : St S O H U nms p d r la os) : os.length <= 4 := by
 have h := yt (m := nms) x.sd.q.ch.np fun l hl => by obtain ⟨o, ho, rfl⟩ := List.mem_map.mp hl; exact x.nm o ho
 rw [List.length_map] at h
 exact Nat.le_trans h x.n4
theorem ne1 {H : Hp} {x y : Addr} {o z : HO} (e : H x = some o) (g : H y = some z) (n : o ≠ z) : x ∉ [y] := fun m => bN e g n (List.mem_singleton.mp m)
theorem Go.put {S O : Addr} {H H5 H6 H2 : Hp} {U : Addr -> Prop} {nms : List (List Nat)} {p d r lq tq rq hq : Addr} {la : List Nat -> Lw} {os : List Od} {o : Od} {x : Pt} (X : St S O H U nms p d r la os) (B : POk x) (s5 : Same H H5) (fq : H hq = none) (gq : H5 hq = some (.lst x.rs)) (k6 : Keep [d] H5 H6) (J6 : SAt S O H6 p d (os ++ [o])) (f1 : H5 o.ob = none) (f2 : H5 o.ad = none) (s2 : Same (upd H6 hq (.lst [])) H2) (N2 : NoT H2) (fl : upd H6 hq (.lst []) lq = none)
 (gl : H2 lq = some (.lst ([.int x.m, .int x.pl, .int x.e, .int x.n, .int 0] ++ [.ref tq]))) (gt : H2 tq = some (.tup [.int (dy x.m x.pl), .int x.e, .int x.n, L2.T x.nt, .ref rq])) (gr : H2 rq = some (.tup x.rs)) (ef : fnd os x.nm = none) (mn : x.nm ∈ nms) (on : o.nm = x.nm) (of : o.f = dy x.m x.pl) (oe : o.e = x.e) (onn : o.n = x.n) (ont : o.nt = L2.T x.nt) (ors : o.rs = x.rs) (og : o.go = 0) (hv : ∀ v ∈ x.rs, ∃ q, v = .ref q) :
 ∃ H4, DPut H2 r (L2.T x.nm) (.ref lq) H4 /\ ∃ U' la', Go S O H H4 U U' nms p d r la' (os ++ [o]) := by
 have sz := szl
 have len := X.len
 obtain ⟨la', el⟩ : ∃ la' : List Nat -> Lw, la' = fun l => if l = x.nm then ⟨lq, tq, rq, x.m, x.pl⟩ else la l := ⟨_, rfl⟩
 have la0 : la' o.nm = ⟨lq, tq, rq, x.m, x.pl⟩ := by rw [el, on]; exact if_pos rfl
 have la1 : ∀ c ∈ os, la' c.nm = la c.nm := fun c hc => by rw [el]; exact if_neg (mU ef c hc)
 clear el
 have kH : Keep [d] H H2 := fun c z e n => s2 _ _ ((ay (au e fq)).trans (k6 c z (s5 c z e) n))
 have r2 : H2 r = some (.dK (os.map (kyL la))) := kH _ _ X.sd.dc (by simpa using Ne.symm X.dr)
 have ep : k8 (os.map (kyL la)) (.inr ⟨⟨x.nm⟩⟩) (.ref lq) = (os ++ [o]).map (kyL la') := by
  rw [wb _ (by rw [gU, ef]; rfl), List.map_append]
  congr 1
  ·exact List.map_congr_left fun c hc => by unfold kyL; rw [la1 c hc]
  ·show _ = [kyL la' o]; unfold kyL; rw [la0, on]
 refine ⟨_, DPut.k (k := .inr ⟨⟨x.nm⟩⟩) r2 (by rw [List.length_map]; omega), (fun y => U y \/ y = o.ob \/ y = o.ad \/ y = lq), la', ?_⟩
 rw [ep]
 have nd : d ≠ hq := au X.sd.q.ch.dc fq
 have h6 : H6 hq = some (.lst x.rs) := k6 _ _ gq (by simpa using Ne.symm nd)
 have k62 : Keep [hq] H6 H2 := fun c z e n => s2 _ _ ((ay (by simpa using n)).trans e)
 obtain ⟨dx, hp6⟩ := J6.ob
 have mo : o ∈ os ++ [o] := by simp
 have sp : ∀ c ∈ os ++ [o], c ∈ os \/ c = o := fun c hc => by simpa using hc
 have J2 : SAt S O H2 p d (os ++ [o]) := J6.keep k62 (ne1 hp6 h6 (by intro z; cases z)) (by simpa using nd) fun c hc => by
  obtain ⟨dc, ec⟩ := (J6.od c hc).ob
  refine ⟨ne1 ec h6 (by intro z; cases z), ne1 (J6.od c hc).ag.ag h6 (by intro z; cases z), ne1 (J6.od c hc).ag.rt h6 (by intro z; cases z), ?_⟩
  rcases sp c hc with h | rfl
  ·simpa using au (X.sd.q.ch.od c h).ad fq
  ·simpa using Ne.symm (au gq f2)
 obtain ⟨dx2, hp2⟩ := J2.ob
 have k24 : Keep [r] H2 (upd H2 r (.dK ((os ++ [o]).map (kyL la')))) := Keep.refl.put (.head _)
 have n24 : NoT (upd H2 r (.dK ((os ++ [o]).map (kyL la')))) := aA N2 rfl
 have r4 : upd H2 r (.dK ((os ++ [o]).map (kyL la'))) r = some (.dK ((os ++ [o]).map (kyL la'))) := ai
 generalize upd H2 r (.dK ((os ++ [o]).map (kyL la'))) = H4 at k24 n24 r4 ⊢
 have J4 : SAt S O H4 p d (os ++ [o]) := J2.keep k24 (ne1 hp2 r2 (by intro z; cases z)) (by simpa using X.dr) fun c hc => by
  obtain ⟨dc, ec⟩ := (J2.od c hc).ob
  exact ⟨ne1 ec r2 (by intro z; cases z), ne1 (J2.od c hc).ag.ag r2 (by intro z; cases z), ne1 (J2.od c hc).ag.rt r2 (by intro z; cases z), ne1 (J2.od c hc).ad r2 (by intro z; cases z)⟩
 have nlq : lq ≠ hq := fun z => by rw [z, ai] at fl; cases fl
 rw [ay nlq] at fl
 have fl5 : H5 lq = none := k6.free fl (fun m => by rw [List.mem_singleton.mp m, J6.dc] at fl; cases fl)
 have fl0 := s5.free fl5
 have f10 := s5.free f1
 have f20 := s5.free f2
 have l4 : H4 lq = some (.lst ([.int x.m, .int x.pl, .int x.e, .int x.n, .int 0] ++ [.ref tq])) := k24 _ _ gl (ne1 gl r2 (by intro z; cases z))
 have kf : ∀ {c : Addr} {z : HO}, H c = some z -> c ≠ d -> c ≠ r -> H4 c = some z := fun e n1 n2 => k24 _ _ (kH _ _ e (by simpa using n1)) (by simpa using n2)
 have rw4 : ∀ c ∈ os, LAt H4 c (la c.nm) := fun c hc => by
  have A := X.sd.q.rw c hc
  exact ⟨kf A.q (bN A.q X.sd.q.ch.dc) (bN A.q X.sd.dc), kf A.tq (bN A.tq X.sd.q.ch.dc) (bN A.tq X.sd.dc), kf A.rq (bN A.rq X.sd.q.ch.dc) (bN A.rq X.sd.dc)⟩
 have Ao : LAt H4 o (la' o.nm) := by
  rw [la0]
  refine ⟨?_, ?_, ?_⟩
  ·rw [oe, onn, og]; exact l4
  ·rw [of, oe, onn, ont]; exact k24 _ _ gt (ne1 gt r2 (by intro z; cases z))
  ·rw [ors]; exact k24 _ _ gr (ne1 gr r2 (by intro z; cases z))
 have Bo : LOk o (la' o.nm) := by
  rw [la0]
  exact ⟨by rw [of, Fk B.pl.2], B.m, B.pl, by rw [oe]; exact B.e, by rw [onn]; exact B.n, by rw [og]; decide, ⟨_, ont⟩, by rw [ors]; exact hv⟩
 have lqn : ∀ c ∈ os, (la c.nm).q ≠ lq := fun c hc => au (X.sd.q.rw c hc).q fl0
 refine ⟨⟨⟨⟨J4, .inl r4, fun c hc => ?_, fun c hc => ?_, by rw [List.length_append, List.length_singleton]; omega⟩, r4, fun c hc c' hc' e => ?_⟩, fun y hy => ?_, fun y hy => ?_, fun c hc => ?_, X.n4, X.dr, fun c hc c' hc' => ?_⟩, fun c z e n => ?_, fun y hy => ?_, fun y hy => .inl hy, n24⟩
 ·rcases sp c hc with h | rfl
  ·rw [la1 c h]; exact rw4 c h
  ·exact Ao
 ·rcases sp c hc with h | rfl
  ·rw [la1 c h]; exact X.sd.q.ok c h
  ·exact Bo
 ·rcases sp c hc with h | rfl
  ·rcases sp c' hc' with h' | rfl
   ·rw [la1 c h, la1 c' h'] at e; exact X.sd.ij c h c' h' e
   ·rw [la1 c h, la0] at e; exact absurd e (lqn c h)
  ·rcases sp c' hc' with h' | rfl
   ·rw [la1 c' h', la0] at e; exact absurd e.symm (lqn c' h')
   ·rfl
 ·rcases hy with h | h | h | ⟨c, hc, h⟩
  ·exact .inl (X.us y (.inl h))
  ·exact .inl (X.us y (.inr (.inl h)))
  ·exact .inl (X.us y (.inr (.inr (.inl h))))
  ·rcases sp c hc with hc | rfl
   ·rw [la1 c hc] at h
    exact .inl (X.us y (.inr (.inr (.inr ⟨c, hc, h⟩))))
   ·rw [la0] at h
    simp only [List.mem_cons, List.not_mem_nil, or_false] at h
    exact .inr h
 ·rcases hy with h | rfl | rfl | rfl
  ·by_cases hd : y = d
   ·rw [hd]; exact ⟨_, J4.dc, fun _ z => nomatch z⟩
   by_cases hr : y = r
   ·rw [hr]; exact ⟨_, r4, fun _ z => nomatch z⟩
   obtain ⟨z, e, n⟩ := X.al y h
   exact ⟨z, kf e hd hr, n⟩
  ·obtain ⟨dc, ec⟩ := (J4.od o mo).ob
   exact ⟨_, ec, fun _ z => nomatch z⟩
  ·exact ⟨_, (J4.od o mo).ad, fun _ z => nomatch z⟩
  ·exact ⟨_, l4, fun _ z => nomatch z⟩
 ·rcases sp c hc with h | rfl
  ·exact X.nm c h
  ·rw [on]; exact mn
 ·rcases sp c hc with h | rfl
  ·rw [la1 c h]
   rcases sp c' hc' with h' | rfl
   ·exact X.qa c h c' h'
   ·exact au (X.sd.q.rw c h).q f20
  ·rw [la0]
   rcases sp c' hc' with h' | rfl
   ·exact Ne.symm (au (X.sd.q.ch.od c' h').ad fl0)
   ·exact Ne.symm (au (J6.od _ mo).ad fl)
 ·exact kf e (fun h => n (X.us c (.inr (.inl h)))) (fun h => n (X.us c (.inr (.inr (.inl h)))))
 ·rcases hy with h | rfl | rfl | rfl
  ·exact .inl h
  ·exact .inr f10
  ·exact .inr f20
  ·exact .inr fl0
theorem GC {K : W.Frag} {X : TS} {D : fk} {σ : L2.St} {H : Hp} {l : List Nat} (hv : σ[6]? = some (some (L2.T l))) (hne : l ≠ []) (h : D.nx σ H) : lM (fi (tOp (fj K false) (jd 6) (tC (L2.T [])))) X i4 D σ H := by
 have e : eqS (L2.T l) (L2.T []) = some false := by
  show some (decide _) = some false
  rw [decide_eq_false]
  intro z; exact hne z
 simp only [lM, fi, tOp, jd, hv, tC, fj, e, kB, i4]
 exact h
theorem GP {K : W.Frag} {X : TS} {D : fk} {σ : L2.St} {H : Hp} (hv : σ[6]? = some (some (L2.T []))) (h : X D σ H) : lM (fi (tOp (fj K false) (jd 6) (tC (L2.T [])))) X i4 D σ H := by
 have e : eqS (L2.T []) (L2.T []) = some true := rfl
 simp only [lM, fi, tOp, jd, hv, tC, fj, e, kB]
 exact h
theorem FH {K : W.Frag} {X R : TS} {D : fk} {σ : L2.St} {H : Hp} {l : List Nat} (hv : σ[6]? = some (some (L2.T l))) (hne : l ≠ []) (h : R D σ H) : wJ (lM (fi (tOp (fj K false) (jd 6) (tC (L2.T [])))) X i4) R D σ H := GC (D := { D with nx := R D }) hv hne h
theorem FM {K : W.Frag} {X R : TS} {D : fk} {σ : L2.St} {H : Hp} (hv : σ[6]? = some (some (L2.T []))) (h : X { D with nx := R D } σ H) : wJ (lM (fi (tOp (fj K false) (jd 6) (tC (L2.T [])))) X i4) R D σ H := GP (D := { D with nx := R D }) hv h
theorem yQ {H : Hp} {p q : Addr} {rs : List V} (hv : ∀ v ∈ rs, ∃ q, v = .ref q) (hx : H p = some (.lst rs)) (hy : H q = some (.lst rs)) : EqR K H p q true := by
 have h := EqR.lst (K := K) (H := H) (e := fun _ => true) (SqL.of hx) (SqL.of hy) rfl fun j x y gx gy => by
  rw [gx] at gy; cases gy; exact eqx (.inr (hv _ (List.mem_of_getElem? gx)))
 have e : ∀ n, (List.range n).all (fun _ => true) = true := fun n => List.all_eq_true.mpr fun _ _ => rfl
 rw [e] at h
 exact h
theorem PAt.refs {H : Hp} {q : Addr} {x : Pt} (j : PAt H q x) : ∀ v ∈ x.rs, ∃ q, v = .ref q := fun v m => by
 obtain ⟨q, _, _, _, e, _⟩ := j.gr v m
 exact ⟨q, e⟩
def sp_yY (S O : Addr) : Sp := sp5 fun x y q m l H Q _ => NoT H /\ asR x fun p => asR y fun r => asR q fun q => asI m fun mo => asI l fun pl => ∃ U nms d la os pt, St S O H U nms p d r la os /\ PAt H q pt /\ POk pt /\ pt.m = mo /\ pt.pl = pl /\ pt.nm ∈ nms /\
 ∀ H' U' la' os', Go S O H H' U U' nms p d r la' os' -> Q (.bl true) H'
theorem pI (T : Txt K mg a) : bv P w K mg base (XE P w) 11 a.gs a.pT ["_law_standing", "_law_orders", "_law_put_here", "_law_month", "_law_place"] (sp_yY a.aq a.aj) := by
 refine T.eZ.okX pD (fun vs H Q E h => sp5.len h) (fun cdv A outer s H vs Q E hr h => ?_)
 obtain ⟨x0, x1, x2, x3, x4, rfl, h⟩ := sp5.inv h
 try dsimp only [sp_yY, sp5] at h
 have ND := pD.nd
 have HU := bJ hr
 obtain ⟨hN, h1⟩ := h
 obtain ⟨p, rfl, h2⟩ := asR.inv h1
 obtain ⟨r, rfl, h3⟩ := asR.inv h2
 obtain ⟨q, rfl, h4⟩ := asR.inv h3
 obtain ⟨mo, rfl, h5⟩ := asI.inv h4
 obtain ⟨pl, rfl, U, nms, d, la, os, x, X, AP, B, e1, e2, mn, k⟩ := asI.inv h5
 have len := X.len
 have k1 : (fnd os x.nm).isSome = true -> ∀ H', Same H H' -> NoT H' -> Q (.bl true) H' := fun _ H' s n => k H' U la os (Go.same X s n)
 subst e1 e2
 have sz := szl
 have hS := SqT.of (K := K) AP.q
 obtain ⟨y1, y2, y3, y4, y5, y6, y7⟩ := AP.put B
 obtain ⟨dx, hp⟩ := X.sd.q.ch.ob
 have G__law_told := @fV P w K mg base a T
 have b__law_told := fU T.bQ
 have c4 : ∃ u, PSs (cS (XE P w) P w K mg base ["_law_standing", "_law_orders", "_law_put_here", "_law_month", "_law_place", "_law_handed", "_law_due"] "_law_put" (af cf) a.gs cdv A outer s H E) (List.drop 4 (av cf)) u /\ (∀ H1 hq, (fnd os x.nm).isSome = true -> Same H H1 -> NoT H1 -> u { nx := fun _ H' => Q .non H', rt := Q } [some (.ref p), some (.ref r), some (.ref q), some (.int x.m), some (.int x.pl), some (.ref hq), some (L2.T oQ)] H1) /\ (∀ H1 hq, NoT H1 -> H1 q = some (.tup [L2.T x.nm, .int (dy x.m x.pl), .int x.e, .int x.n, L2.T x.nt, .ref x.rq]) -> H1 x.rq = some (.lst x.rs) -> (∀ lq tq rq H2, Same H1 H2 -> NoT H2 -> H1 lq = none -> H2 lq = some (.lst ([.int x.m, .int x.pl, .int x.e, .int x.n, .int 0] ++ [.ref tq])) -> H2 tq = some (.tup [.int (dy x.m x.pl), .int x.e, .int x.n, L2.T x.nt, .ref rq]) -> H2 rq = some (.tup x.rs) -> ∃ H4, DPut H2 r (L2.T x.nm) (.ref lq) H4 /\ Q (.bl true) H4) -> u { nx := fun _ H' => Q .non H', rt := Q } [some (.ref p), some (.ref r), some (.ref q), some (.int x.m), some (.int x.pl), some (.ref hq), some (L2.T [])] H1) := by
  refine ⟨_, (ah (ba (aU (bp K HU) (fv 6) (aB []) (aQ _)) (ao (y0 (Nat.lt_of_le_of_lt (Nat.add_le_add_left (by decide) _) HU) (fv 1) (aP (aw K) (fv 2) ac (fun _ _ => rfl)) (cj (FA.pa (aa (fv 3) (aa (fv 4) (aa (aP (aw K) (fv 2) ac (fun _ _ => rfl)) (aa (aP (aw K) (fv 2) ac (fun _ _ => rfl)) (aa ac (aa (ap yK (d6 (qF K) (fv 2) (dZ ac) (dZ ac)) (eI (FA.pa (aa (eY (rg K) rfl T.j3 iJ (FA.pa (aa (aP (aw K) (fv 2) ac (fun _ _ => rfl)) ae))) ae)))) ae)))))))) rfl)) aJ)
   (ao (aC cL))), fun H1 hq ef s1 N1 => ?_, fun H1 hq N1 g1 g2 kk => ?_⟩
  ·exact FH rfl (by decide) (k1 ef H1 s1 N1)
  ·have hS1 := SqT.of (K := K) g1
   refine FM rfl ?_
   refine Exists.intro _ (Exists.intro _ (And.intro (.inr hS1) (And.intro (aH (j := 2) rfl) ?_)))
   refine Exists.intro _ (Exists.intro _ (And.intro (.inr hS1) (And.intro (aH (j := 3) rfl) ?_)))
   refine Exists.intro 1 (And.intro rfl (Exists.intro 5 (And.intro rfl (Exists.intro q (Exists.intro _ (And.intro rfl (And.intro hS1 (And.intro (by intro z; have z2 : HT.sIx 6 0 (some 1) = 0 := z.1; exact absurd z2 (by decide)) fun ps fs => ?_))))))))
   have n1 := ak (HO.tup (fX [L2.T x.nm, .int (dy x.m x.pl), .int x.e, .int x.n, L2.T x.nt, .ref x.rq] (some 1) (some 5))) fs
   have hS2 := cO n1 hS1
   refine Exists.intro _ (Exists.intro _ (And.intro (.inr hS2) (And.intro (aH (j := 5) rfl) ?_)))
   refine Exists.intro _ (.inl (And.intro (SqL.of (n1 _ _ g2)) fun pt ft => ?_))
   have n2 := ak (HO.tup x.rs) ft
   refine And.intro (by show 1 <= _; omega) fun pu fu => ?_
   have n3 := ak (HO.tup [V.ref pt]) fu
   refine Exists.intro _ (Exists.intro _ (And.intro (n3 _ _ (n2 _ _ ai)) (And.intro ai (And.intro (by show 4 + 1 <= _; omega) fun tq H5 g5 s5 m5 => ?_))))
   have N5 := m5 (aA (aA (aA N1 rfl) rfl) rfl)
   have s15 := n1.trans (n2.trans (n3.trans s5))
   refine And.intro (by show 6 <= _; omega) fun lq fl => ?_
   have n6 := ak (HO.lst ([V.int x.m, V.int x.pl, V.int x.e, V.int x.n, V.int 0] ++ [V.ref tq])) fl
   have hS6 := cO n6 (cO s15 hS1)
   refine Exists.intro _ (Exists.intro _ (And.intro (.inr hS6) (And.intro (aH (j := 0) rfl) ?_)))
   obtain ⟨H4, e4, q4⟩ := kk lq tq pt _ (s15.trans n6) (aA N5 rfl) (s15.none_of fl) ai (n6 _ _ g5) (n6 _ _ (s5 _ _ (n3 _ _ ai)))
   exact ⟨r, H4, rfl, e4, q4⟩
 obtain ⟨u4, hu4, c4a, c4b⟩ := c4
 have c3 : ∃ u, PSs (cS (XE P w) P w K mg base ["_law_standing", "_law_orders", "_law_put_here", "_law_month", "_law_place", "_law_handed", "_law_due"] "_law_put" (af cf) a.gs cdv A outer s H E) (List.drop 3 (av cf)) u /\ (∀ H1 hq, (fnd os x.nm).isSome = true -> Same H H1 -> NoT H1 -> H hq = none -> H1 hq = some (.lst x.rs) -> u { nx := fun _ H' => Q .non H', rt := Q } [some (.ref p), some (.ref r), some (.ref q), some (.int x.m), some (.int x.pl), some (.ref hq), some (L2.T oQ)] H1) /\ (∀ H1 hq, NoT H1 -> H1 hq = some (.lst x.rs) -> hq ≠ x.rq -> H1 q = some (.tup [L2.T x.nm, .int (dy x.m x.pl), .int x.e, .int x.n, L2.T x.nt, .ref x.rq]) -> H1 x.rq = some (.lst x.rs) -> (∀ lq tq rq H2, Same (upd H1 hq (.lst [])) H2 -> NoT H2 -> upd H1 hq (.lst []) lq = none -> H2 lq = some (.lst ([.int x.m, .int x.pl, .int x.e, .int x.n, .int 0] ++ [.ref tq])) -> H2 tq = some (.tup [.int (dy x.m x.pl), .int x.e, .int x.n, L2.T x.nt, .ref rq]) -> H2 rq = some (.tup x.rs) -> ∃ H4, DPut H2 r (L2.T x.nm) (.ref lq) H4 /\ Q (.bl true) H4) -> u { nx := fun _ H' => Q .non H', rt := Q } [some (.ref p), some (.ref r), some (.ref q), some (.int x.m), some (.int x.pl), some (.ref hq), some (L2.T [])] H1) := by
  refine ⟨_, (ah (cW (Cz K PySem.F.plainAttrs_list PySem.F.slot_list_clear PySem.F.type_list_clear AJ (fv 5)))
   hu4), fun H1 hq ef s1 N1 fq gq => ?_, fun H1 hq N1 gq nq g1 g2 kk => ?_⟩
  ·walk_at "rd"
   exact ⟨.inl ⟨_, SqL.of gq⟩, hq, _, rfl, gq, c4a _ hq ef (eJ s1 fq) (aA N1 rfl)⟩
  ·walk_at "rd"
   exact ⟨.inl ⟨_, SqL.of gq⟩, hq, _, rfl, gq, c4b _ hq (aA N1 rfl) ((ay (bN g1 gq)).trans g1) ((ay (Ne.symm nq)).trans g2) kk⟩
 obtain ⟨u3, hu3, c3a, c3b⟩ := c3
 refine ⟨_, (ah (aD (i := 5) ND rfl (Or.inl rfl) (eY (yj K) rfl T.qP me (FA.pa (aa (aP (aw K) (fv 2) ac (fun _ _ => rfl)) ae))))
  (ah (aD (i := 6) ND rfl (Or.inl rfl) (ap qD (aB [116, 119, 105, 99, 101]) (eY yq rfl T.yO ur (FA.pa (aa (wP (xb (Nat.lt_of_le_of_lt (Nat.add_le_add_left (by decide) _) HU) (aP (aw K) (fv 2) ac (fun _ _ => rfl)) (fv 1)) (by with_unfolding_all rfl)) ae)))))
  (ah (ba (L2.PW.pt (il (aU (eW K HU) (ar G__law_told (hr.mono (by decide)) rfl T.dW T.bQ.kp b__law_told .nil aL (FA.pa (aa (fv 0) (aa ac (aa (ap yK (d6 (qF K) (fv 2) iV (dZ ac)) (eI (FA.pa (aa (fv 5) ae)))) ae))))) (fv 6) (aQ _)) (eE (aU (eW K HU) (fv 5) (aP (aw K) (fv 2) ac (fun _ _ => rfl)) (aQ _))))) (ao (aC cL)) aJ)
  hu3))), ?_⟩
 refine Exists.intro _ (Exists.intro _ (And.intro (.inr hS) (And.intro (aH (j := 5) rfl) ?_)))
 refine Exists.intro _ (And.intro (.inl (SqL.of AP.rq)) fun hq fq => ?_)
 have n1 := ak (HO.lst x.rs) fq
 have gq : upd H hq (HO.lst x.rs) hq = some (.lst x.rs) := ai
 have N1 : NoT (upd H hq (HO.lst x.rs)) := aA hN rfl
 have g1 := DGet.k (k := .inr ⟨⟨x.nm⟩⟩) (n1 _ _ X.sd.dc)
 rw [gU] at g1
 refine Exists.intro _ (Exists.intro _ (And.intro (.inr (cO n1 hS)) (And.intro (aH (j := 0) rfl) ?_)))
 refine Exists.intro r (Exists.intro _ (And.intro rfl (And.intro g1 ?_)))
 generalize upd H hq (HO.lst x.rs) = H1 at n1 gq N1 ⊢
 rw [Option.isSome_map]
 cases ef : fnd os x.nm with
 | some o0 =>
  refine And.intro ⟨by show 5 <= 1000; decide, by show (0 : Int) <= 1; decide, by show (1 : Int) <= 100; decide⟩ ?_
  walk_at "rd"
  refine ⟨q, _, rfl, cO n1 hS, (by intro z; have z2 : HT.sIx 6 6 (some 5) = 6 := z.2; exact absurd z2 (by decide)), fun ps fs => ⟨by omega, fun pu fu => ⟨_, _, (ak _ fu) _ _ ai, ai, by show 5 + 1 <= _; omega, fun tq H5 g5 s5 m5 => ?_⟩⟩⟩
  have N5 := m5 (aA (aA N1 rfl) rfl)
  have s15 := (ak (HO.tup (fX [L2.T x.nm, .int (dy x.m x.pl), .int x.e, .int x.n, L2.T x.nt, .ref x.rq] none (some 5))) fs).trans ((ak (HO.tup [V.ref hq]) fu).trans s5)
  have q5 := s15 _ _ gq
  have on := okn B.nm
  have AQ : PAt H5 tq { x with rq := hq } := ⟨g5, q5, fun v m => (AP.gr v m).same (n1.trans s15)⟩
  have BQ : POk { x with rq := hq } := ⟨B.nm, B.m, B.pl, B.e, B.n, B.nt, B.rs⟩
  obtain ⟨w1, w2, w3, w4, w5, w6, w7⟩ := AQ.put BQ
  have du : duP H5 os (L2.T x.nm) (.int (dy x.m x.pl)) (.int x.e) (.int x.n) (L2.T x.nt) (.ref hq) = oQ := by
   unfold duP
   rw [if_pos w1, if_pos w2, if_pos ⟨w3, w4⟩, if_pos w5, if_pos w7, if_pos (show (ff os (L2.T x.nm)).isSome = true from by show (fnd os x.nm).isSome = true; rw [ef]; rfl)]
  refine ⟨N5, d, os, X.sd.q.ch.same (n1.trans s15), by omega, .inl ⟨tq, _, _, _, _, _, _, rfl, g5, fw ⟨on.1, by omega⟩, ⟨_, rfl⟩, ⟨_, rfl⟩, ⟨_, rfl⟩, ⟨_, rfl⟩, fw (A8 B.nt), ⟨_, rfl⟩, w6, fun _ H6 s6 N6 => ?_, fun z => ?_⟩⟩
  ·rw [du]
   refine itp rfl ⟨_, _, .inr (cO s6 (cO s15 (cO n1 hS))), aH (j := 5) rfl, ?_⟩
   walk_at "rd"
   exact ⟨_, yQ AP.refs (s6 _ _ q5) (s6 _ _ (s15 _ _ (n1 _ _ AP.rq))), itn (by decide) (c3a H6 hq (by rw [ef]; rfl) (n1.trans (s15.trans s6)) N6 fq (s6 _ _ q5))⟩
  ·rw [du] at z; exact absurd z (by decide)
 | none =>
  refine And.intro ⟨by show 5 <= 1000; decide, by show (0 : Int) <= 0; decide, by show (0 : Int) <= 100; decide⟩ ?_
  walk_at "rd"
  refine ⟨q, _, rfl, cO n1 hS, (by intro z; have z2 : HT.sIx 6 6 (some 5) = 6 := z.2; exact absurd z2 (by decide)), fun ps fs => ⟨by omega, fun pu fu => ⟨_, _, (ak _ fu) _ _ ai, ai, by show 5 + 1 <= _; omega, fun tq H5 g5 s5 m5 => ?_⟩⟩⟩
  have N5 := m5 (aA (aA N1 rfl) rfl)
  have s15 := (ak (HO.tup (fX [L2.T x.nm, .int (dy x.m x.pl), .int x.e, .int x.n, L2.T x.nt, .ref x.rq] none (some 5))) fs).trans ((ak (HO.tup [V.ref hq]) fu).trans s5)
  have q5 := s15 _ _ gq
  have on := okn B.nm
  have AQ : PAt H5 tq { x with rq := hq } := ⟨g5, q5, fun v m => (AP.gr v m).same (n1.trans s15)⟩
  have BQ : POk { x with rq := hq } := ⟨B.nm, B.m, B.pl, B.e, B.n, B.nt, B.rs⟩
  obtain ⟨w1, w2, w3, w4, w5, w6, w7⟩ := AQ.put BQ
  have du : duP H5 os (L2.T x.nm) (.int (dy x.m x.pl)) (.int x.e) (.int x.n) (L2.T x.nt) (.ref hq) = [] := by
   unfold duP
   rw [if_pos w1, if_pos w2, if_pos ⟨w3, w4⟩, if_pos w5, if_pos w7, if_neg (show ¬ (ff os (L2.T x.nm)).isSome = true from by show ¬ (fnd os x.nm).isSome = true; rw [ef]; decide)]
  refine ⟨N5, d, os, X.sd.q.ch.same (n1.trans s15), by omega, .inl ⟨tq, _, _, _, _, _, _, rfl, g5, fw ⟨on.1, by omega⟩, ⟨_, rfl⟩, ⟨_, rfl⟩, ⟨_, rfl⟩, ⟨_, rfl⟩, fw (A8 B.nt), ⟨_, rfl⟩, w6, fun z => absurd du z, fun _ o q' H6 a1 a2 a3 a4 a5 a6 a7 a8 a9 b1 b2 b3 b4 => ?_⟩⟩
  have s0 := n1.trans s15
  have nx : ∀ {c : Addr} {z : HO}, H5 c = some z -> z ≠ .dK (os.map kyO) -> H6 c = some z := fun e n => b3 _ _ e (ne1 e (s0 _ _ X.sd.q.ch.dc) n)
  have xr6 := nx (s0 _ _ AP.rq) (by intro z; cases z)
  have q6 := nx (s0 _ _ AP.q) (by intro z; cases z)
  have hq6 := nx q5 (by intro z; cases z)
  cases a6
  rw [q5] at a7
  have ers : o.rs = x.rs := by injection a7 with h; injection h with h; exact h.symm
  refine itp rfl ⟨_, _, .inr (SqT.of q6), aH (j := 5) rfl, ?_⟩
  walk_at "rd"
  refine ⟨_, yQ AP.refs hq6 xr6, itn (by decide) (c3b H6 hq b4 hq6 (Ne.symm (au AP.rq fq)) q6 xr6 fun lq tq rq H2 z1 z2 z3 z4 z5 z6 => ?_)⟩
  obtain ⟨H4, e4, U', la', G⟩ := Go.put X B s0 fq q5 b3 b2 a9 b1 z1 z2 z3 z4 z5 z6 ef mn (by injection a1 with h; injection h with h; injection h with h; exact h.symm) (V.int.inj a2).symm (V.int.inj a3).symm (V.int.inj a4).symm a5.symm ers a8 AP.refs
  exact ⟨H4, e4, k H4 U' la' _ G⟩
open K3
theorem Go.drop {S O : Addr} {H H1 H2 : Hp} {U : Addr -> Prop} {nms : List (List Nat)} {p d r : Addr} {la : List Nat -> Lw} {os os' : List Od} (X : St S O H U nms p d r la os) (sb : ∀ o ∈ os', o ∈ os) (ln : os'.length <= os.length) (k1 : Keep [r] H H1) (r1 : H1 r = some (.dK (os'.map (kyL la)))) (k2 : Keep [d] H1 H2) (J : SAt S O H2 p d os') (N : NoT H2) : Go S O H H2 U U nms p d r la os' := by
 have kf : ∀ {c : Addr} {z : HO}, H c = some z -> c ≠ d -> c ≠ r -> H2 c = some z := fun e n1 n2 => k2 _ _ (k1 _ _ e (by simpa using n2)) (by simpa using n1)
 have r2 : H2 r = some (.dK (os'.map (kyL la))) := k2 _ _ r1 (by simpa using Ne.symm X.dr)
 refine ⟨⟨⟨⟨J, .inl r2, fun c hc => ?_, fun c hc => X.sd.q.ok c (sb c hc), Nat.lt_of_le_of_lt ln X.sd.q.ln⟩, r2, fun c hc c' hc' => X.sd.ij c (sb c hc) c' (sb c' hc')⟩, fun y hy => X.us y ?_, fun y hy => ?_, fun c hc => X.nm c (sb c hc), X.n4, X.dr, fun c hc c' hc' => X.qa c (sb c hc) c' (sb c' hc')⟩, fun c z e n => kf e (fun h => n (X.us c (.inr (.inl h)))) (fun h => n (X.us c (.inr (.inr (.inl h))))), fun y hy => .inl hy, fun y hy => hy, N⟩
 ·have A := X.sd.q.rw c (sb c hc)
  exact ⟨kf A.q (bN A.q X.sd.q.ch.dc) (bN A.q X.sd.dc), kf A.tq (bN A.tq X.sd.q.ch.dc) (bN A.tq X.sd.dc), kf A.rq (bN A.rq X.sd.q.ch.dc) (bN A.rq X.sd.dc)⟩
 ·rcases hy with h | h | h | ⟨c, hc, h⟩
  ·exact .inl h
  ·exact .inr (.inl h)
  ·exact .inr (.inr (.inl h))
  ·exact .inr (.inr (.inr ⟨c, sb c hc, h⟩))
 ·by_cases hd : y = d
  ·rw [hd]; exact ⟨_, J.dc, fun _ z => nomatch z⟩
  by_cases hr : y = r
  ·rw [hr]; exact ⟨_, r2, fun _ z => nomatch z⟩
  obtain ⟨z, e, n⟩ := X.al y hy
  exact ⟨z, kf e hd hr, n⟩
theorem SAt.row {S O : Addr} {H H1 : Hp} {U : Addr -> Prop} {nms : List (List Nat)} {p d r : Addr} {la : List Nat -> Lw} {os : List Od} (X : St S O H U nms p d r la os) {c : Od} (hc : c ∈ os) (k1 : Keep [(la c.nm).q] H H1) : SAt S O H1 p d os := by
 have g := (X.sd.q.rw c hc).q
 obtain ⟨dx, hp⟩ := X.sd.q.ch.ob
 refine X.sd.q.ch.keep k1 (ne1 hp g (by intro z; cases z)) (ne1 X.sd.q.ch.dc g (by intro z; cases z)) fun o ho => ?_
 obtain ⟨dc, ec⟩ := (X.sd.q.ch.od o ho).ob
 exact ⟨ne1 ec g (by intro z; cases z), ne1 (X.sd.q.ch.od o ho).ag.ag g (by intro z; cases z), ne1 (X.sd.q.ch.od o ho).ag.rt g (by intro z; cases z), by simpa using Ne.symm (X.qa c hc o ho)⟩
theorem Go.step {S O : Addr} {H H1 H2 : Hp} {U : Addr -> Prop} {nms : List (List Nat)} {p d r : Addr} {la : List Nat -> Lw} {os : List Od} (X : St S O H U nms p d r la os) {c : Od} (hc : c ∈ os) {i : Int} (hi : 0 <= i /\ i <= 1000) (k1 : Keep [(la c.nm).q] H H1) (g1 : H1 (la c.nm).q = some (.lst ([.int (la c.nm).m, .int (la c.nm).pl, .int c.e, .int c.n, .int i] ++ [.ref (la c.nm).tq]))) (k2 : Keep [c.ob] H1 H2) (J : SAt S O H2 p d (jj os c.nm (stp i))) (N : NoT H2) : Go S O H H2 U U nms p d r la (jj os c.nm (stp i)) := by
 have gq := (X.sd.q.rw c hc).q
 obtain ⟨dc, gc⟩ := (X.sd.q.ch.od c hc).ob
 have kf : ∀ {b : Addr} {z : HO}, H b = some z -> b ≠ (la c.nm).q -> b ≠ c.ob -> H2 b = some z := fun e n1 n2 => k2 _ _ (k1 _ _ e (by simpa using n1)) (by simpa using n2)
 have g2 := k2 _ _ g1 (by simpa using bN gq gc)
 have r2 : H2 r = some (.dK ((jj os c.nm (stp i)).map (kyL la))) := by
  rw [m6 (f := stp i) (kyL la) fun _ => rfl]
  exact kf X.sd.dc (bN X.sd.dc gq) (bN X.sd.dc gc)
 have back : ∀ z ∈ jj os c.nm (stp i), ∃ y ∈ os, z.nm = y.nm /\ z.ad = y.ad /\ z.ob = y.ob /\ (z = y /\ y.nm ≠ c.nm \/ z = stp i c /\ y = c) := fun z hz => by
  obtain ⟨y, hy, e⟩ := vO hz
  by_cases h : y.nm = c.nm
  ·have : y = c := mM X.sd.q.ch.np hy hc h
   subst this
   rw [if_pos rfl] at e
   exact ⟨y, hy, by rw [e]; rfl, by rw [e]; rfl, by rw [e]; rfl, .inr ⟨e, rfl⟩⟩
  ·rw [if_neg h] at e
   exact ⟨y, hy, by rw [e], by rw [e], by rw [e], .inl ⟨e, h⟩⟩
 have ln : (jj os c.nm (stp i)).length = os.length := by unfold jj; rw [List.length_map]
 refine ⟨⟨⟨⟨J, .inl r2, fun z hz => ?_, fun z hz => ?_, by rw [ln]; exact X.sd.q.ln⟩, r2, fun z hz z' hz' e => ?_⟩, fun y hy => X.us y ?_, fun y hy => ?_, fun z hz => ?_, X.n4, X.dr, fun z hz z' hz' => ?_⟩, fun b z e n => kf e (fun h => n (X.us b (.inr (.inr (.inr ⟨c, hc, by simp [h]⟩))))) (fun h => n (X.us b (.inr (.inr (.inr ⟨c, hc, by simp [h]⟩))))), fun y hy => .inl hy, fun y hy => hy, N⟩
 ·obtain ⟨y, hy, e1, _, _, ⟨rfl, h⟩ | ⟨rfl, rfl⟩⟩ := back z hz
  ·have A := X.sd.q.rw z hy
   exact ⟨kf A.q (fun e => h (X.sd.ij z hy c hc e)) (bN A.q gc), kf A.tq (bN A.tq gq) (bN A.tq gc), kf A.rq (bN A.rq gq) (bN A.rq gc)⟩
  ·have A := X.sd.q.rw y hy
   exact ⟨g2, kf A.tq (bN A.tq gq) (bN A.tq gc), kf A.rq (bN A.rq gq) (bN A.rq gc)⟩
 ·obtain ⟨y, hy, e1, _, _, ⟨rfl, h⟩ | ⟨rfl, rfl⟩⟩ := back z hz
  ·exact X.sd.q.ok z hy
  ·have B := X.sd.q.ok y hy
   exact ⟨B.f, B.m, B.pl, B.e, B.n, hi, B.nt, B.rs⟩
 ·obtain ⟨y, hy, e1, _⟩ := back z hz
  obtain ⟨y', hy', e1', _⟩ := back z' hz'
  rw [e1, e1'] at e ⊢
  exact X.sd.ij y hy y' hy' e
 ·rcases hy with h | h | h | ⟨z, hz, h⟩
  ·exact .inl h
  ·exact .inr (.inl h)
  ·exact .inr (.inr (.inl h))
  ·obtain ⟨y', hy', e1, e2, e3, _⟩ := back z hz
   rw [e1, e2, e3] at h
   exact .inr (.inr (.inr ⟨y', hy', h⟩))
 ·by_cases hd : y = (la c.nm).q
  ·rw [hd]; exact ⟨_, g2, fun _ z => nomatch z⟩
  by_cases hr : y = c.ob
  ·have mc : stp i c ∈ jj os c.nm (stp i) := by
    have : (if c.nm = c.nm then stp i c else c) ∈ jj os c.nm (stp i) := List.mem_map_of_mem hc
    rwa [if_pos rfl] at this
   obtain ⟨dz, ez⟩ := (J.od _ mc).ob
   rw [hr]; exact ⟨_, ez, fun _ z => nomatch z⟩
  obtain ⟨z, e, n⟩ := X.al y hy
  exact ⟨z, kf e hd hr, n⟩
 ·obtain ⟨y, hy, e1, _⟩ := back z hz
  rw [e1]; exact X.nm y hy
 ·obtain ⟨y, hy, e1, _⟩ := back z hz
  obtain ⟨y', hy', _, e2, _⟩ := back z' hz'
  rw [e1, e2]; exact X.qa y hy y' hy'
theorem Br (la : List Nat -> Lw) (os : List Od) (l : List Nat) : kc (os.map (kyL la)) (.inr ⟨⟨l⟩⟩) = (os.filter fun o => decide (o.nm ≠ l)).map (kyL la) := by
 unfold kc
 rw [List.filter_map]
 congr 1
 apply List.filter_congr
 intro o _
 show decide ((Sum.inr ⟨⟨o.nm⟩⟩ : Key) ≠ Sum.inr ⟨⟨l⟩⟩) = decide (o.nm ≠ l)
 exact decide_eq_decide.mpr ⟨fun h z => h (by rw [z]), fun h z => h (by cases z; rfl)⟩
theorem Aw {ta : TA} {n : Nat} {g : TG} {ks : List Nat} {tt : TT} {te : TE} {σ : L2.St} {H : Hp} {Q : VK} (h : ta σ H fun vs H1 => ∃ i j : Int, vs = [.int i, .int j] /\ (-(2 ^ 62) <= i /\ i < 2 ^ 62 /\ -(2 ^ 62) <= j /\ j < 2 ^ 62) /\ CEl (Itr i (j - i).toNat) n g ks tt te σ H1 Q) : ii (zU ta) n g ks tt te σ H Q := h
theorem AS {ks : List Nat} {tt : TT} {te : TE} {σ : L2.St} {H : Hp} {Q : VK} (lo : Int) (m : Nat) (hN : NoT H)
 (hp : ∀ i : Nat, i < m -> ∀ G (R : Bool -> Hp -> Prop), Same H G -> NoT G -> (∀ G', Same G G' -> NoT G' -> R false G') -> tt (some (.int (lo + i)) :: ks.map fun k => (σ[k]?).join) G R)
 (q : ∀ D G, H D = none -> G D = some (.lst []) -> Same H G -> NoT G -> Q (.ref D) G) : CEl (Itr lo m) 1 (h7 0) ks tt te σ H Q := by
 intro D hDn
 refine ⟨fun i k ys H' => k = m - i /\ i <= m /\ ys = [] /\ Same H H' /\ NoT H' /\ H' D = some (.lst []), ⟨_, rfl, Nat.zero_le _, rfl, ak _ hDn, aA hN rfl, ai⟩, ?_⟩
 rintro i k ys H' ⟨rfl, hi, rfl, sm, nH, hD⟩
 refine ⟨hD, ?_⟩
 rcases Nat.lt_or_ge i m with lt | ge
 ·refine .inr ⟨lt, ?_⟩
  rintro x H3 ⟨rfl, rfl⟩ zs hzs
  obtain ⟨z, rfl⟩ := ex1 hzs
  refine ⟨⟨[_], rfl, rfl⟩, hp i lt _ _ sm nH fun G' s' n' => ?_⟩
  exact itn (by decide) ⟨_, by omega, rfl, lt, rfl, sm.trans s', n', s' _ _ hD⟩
 ·obtain rfl : i = m := Nat.le_antisymm hi ge
  exact .inl ⟨Nat.le_refl _, q D H' hDn hD sm nH⟩
theorem EQ {o : Od} {x : Lw} (B : LOk o x) : stG o = (if (if o.n < o.go + 1 then o.n else o.go + 1) < (4799 - x.m) / o.e + 1 then (if o.n < o.go + 1 then o.n else o.go + 1) else (4799 - x.m) / o.e + 1) /\ 0 <= stG o /\ stG o <= 1000 := by
 unfold stG
 rw [zV B, List.length_map, List.length_range]
 unfold NN
 have h1 := B.n; have h2 := B.go; have h3 := B.m
 have h4 : 0 <= (4799 - x.m) / o.e := Int.ediv_nonneg (by omega) (by have := B.e; omega)
 split <;> split <;> split <;> omega
def sp_vL (S O : Addr) : Sp := sp5 fun x y l z m H Q _ => NoT H /\ asR x fun p => asR y fun r => asT l fun nm => asI z fun kind => asI m fun many => ∃ U nms d la os, St S O H U nms p d r la os /\ (0 <= many /\ many <= 3) /\ ∀ H' U' la' os', Go S O H H' U U' nms p d r la' os' -> Q (.bl true) H'
theorem gb (T : Txt K mg a) : bv P w K mg base (XE P w) 11 a.cy a.gE ["_law_standing", "_law_orders", "_law_name", "_law_kind", "_law_many"] (sp_vL a.aq a.aj) := by
 refine T.bH.okX gJ (fun vs H Q E h => sp5.len h) (fun cdv A outer s H vs Q E hr h => ?_)
 obtain ⟨x0, x1, x2, x3, x4, rfl, h⟩ := sp5.inv h
 try dsimp only [sp_vL, sp5] at h
 have ND := gJ.nd
 have HU := bJ hr
 obtain ⟨hN, h1⟩ := h
 obtain ⟨p, rfl, h2⟩ := asR.inv h1
 obtain ⟨r, rfl, h3⟩ := asR.inv h2
 obtain ⟨nm, rfl, h4⟩ := asT.inv h3
 obtain ⟨kind, rfl, h5⟩ := asI.inv h4
 obtain ⟨many, rfl, U, nms, d, la, os, X, hm, k⟩ := asI.inv h5
 have sz := szl
 have len := X.len
 have G__law_told := @fV P w K mg base a T
 have b__law_told := fU T.bQ
 have G_Standing_done := @eN P w K mg base a T
 have b_Standing_done := eU T.dH
 have c2 : ∃ u, PSs (cS (XE P w) P w K mg base ["_law_standing", "_law_orders", "_law_name", "_law_kind", "_law_many", "_law_turn", "_law_order"] "_law_other_good" (af aV) a.cy cdv A outer s H E) (List.drop 2 (av aV)) u /\ ∀ c ∈ os, c.nm = nm -> u { nx := fun _ H' => Q .non H', rt := Q } [some (.ref p), some (.ref r), some (L2.T nm), some (.int kind), some (.int many), none, none] H := by
  refine ⟨_, (ah (gM (by passes_own) rfl (cw rfl T.cx (FA.pa (aa (fv 4) ae))) (aS (i := 5) ND rfl (Or.inl rfl)) (ah (aD (i := 6) ND rfl (Or.inl rfl) (uV (Nat.lt_of_le_of_lt (Nat.add_le_add_left (by decide) _) HU) (fv 1) (fv 2) (fun _ _ => rfl)))
   (ah (oa (aE (Co rfl) rfl T.qL kK (FA.pa (aa (ap aO (aP (aw K) (fv 6) ac (fun _ _ => rfl)) ac) (aa (aP (aw K) (fv 6) ac (fun _ _ => rfl)) (aa (ap aO (ap aY (ap gv ac (aP (aw K) (fv 6) ac (fun _ _ => rfl))) (aP (aw K) (fv 6) ac (fun _ _ => rfl))) ac) ae))))) (Bv (fv 6) ac vx))
   (ao (ba (L2.PW.pt (il (aU (eW K HU) (ar G__law_told (hr.mono (by decide)) rfl T.dW T.bQ.kp b__law_told .nil aL (FA.pa (aa (fv 0) (aa ac (aa (fv 2) ae))))) (aB []) (aQ _)) (eE (aU (eW K HU) (b9 (fv 0) T.aN T.eV G_Standing_done (hr.mono (by decide)) b_Standing_done .nil aL (FA.pa (aa (fv 2) ae))) (aP (aw K) (fv 6) ac (fun _ _ => rfl)) (aQ _))))) (ao (aC cL)) aJ)))))
   (ao (aC cL))), fun c hc ec => ?_⟩
  subst ec
  refine gf ?_
  walk_at "rd"
  refine ⟨by omega, by omega, dw (lo := 0) (n := many.toNat) (fun i σ' G => ∃ os1 x5 x6, Go a.aq a.aj H G U U nms p d r la os1 /\ (∃ c' ∈ os1, c'.nm = c.nm) /\ σ' = [some (.ref p), some (.ref r), some (L2.T c.nm), some (.int kind), some (.int many), x5, x6]) ⟨os, none, none, Go.same X (Same.refl _) hN, ⟨c, hc, rfl⟩, rfl⟩ ?_ ?_⟩
  ·rintro i σ' G hi ⟨os1, x5, x6, X1, ⟨c1, hc1, e1⟩, rfl⟩
   rw [<- e1]
   walk_at "rd"
   have X2 := X1.st
   have A := X2.sd.q.rw c1 hc1
   have B := X2.sd.q.ok c1 hc1
   have l2 := X2.len
   have ef1 : ff os1 (L2.T c1.nm) = some c1 := uW X2.sd.q.ch.np hc1
   refine ⟨r, _, rfl, yn X2.sd.q.rd hc1, _, _, .inl (SqL.of A.q), aH (j := 4) rfl, ?_⟩
   walk_at "rd"
   refine ⟨_, _, .inl (SqL.of A.q), aH (j := 3) rfl, _, _, .inl (SqL.of A.q), aH (j := 0) rfl, ?_⟩
   walk_at "rd"
   refine ⟨_, _, .inl (SqL.of A.q), aH (j := 2) rfl, ?_⟩
   walk_at "rd"
   refine ⟨⟨by have := B.e; omega, by have := B.e; omega⟩, fun g hg g1 g2 g3 => ?_⟩
   obtain ⟨sg, sg0, sg1⟩ := EQ B
   have eg : g = stG c1 := by rw [sg]; split <;> split <;> omega
   subst eg
   have ku : Keep [(la c1.nm).q] G (upd G (la c1.nm).q (.lst ([.int (la c1.nm).m, .int (la c1.nm).pl, .int c1.e, .int c1.n, .int (stG c1)] ++ [.ref (la c1.nm).tq]))) := Keep.refl.put (.head _)
   refine ⟨_, _, 4, 4, rfl, rfl, A.q, rfl, aA X1.nT rfl, d, os1, SAt.row X2 hc1 ku, by omega, .inr ⟨⟨_, rfl⟩, .inr ⟨c1, ef1, .inr fun H' J' K' N' => ?_⟩⟩⟩
   have Gs := Go.step X2 hc1 ⟨sg0, sg1⟩ ku ai K' J' N'
   have mc : stp (stG c1) c1 ∈ jj os1 c1.nm (stp (stG c1)) := by
    have : (if c1.nm = c1.nm then stp (stG c1) c1 else c1) ∈ jj os1 c1.nm (stp (stG c1)) := List.mem_map_of_mem hc1
    rwa [if_pos rfl] at this
   have ef2 : ff (jj os1 c1.nm (stp (stG c1))) (L2.T c1.nm) = some (stp (stG c1) c1) := uW J'.np mc
   obtain ⟨dx, hp⟩ := J'.ob
   refine ⟨_, _, hp, fZ "done" _, N', d, _, J', ?_⟩
   rw [ef2]
   dsimp only [p_]
   refine ⟨_, _, .inl (SqL.of (Gs.st.sd.q.rw _ mc).q), aH (j := 4) rfl, ?_⟩
   walk_at "rd"
   exact ⟨_, _, _, X1.trans Gs, ⟨_, mc, rfl⟩, rfl, rfl⟩
  ·rintro σ' G ⟨os1, x5, x6, X1, _, rfl⟩
   walk_at "rd"
   exact k G U la os1 X1
 obtain ⟨u2, hu2, c2⟩ := c2
 have c1 : ∃ u, PSs (cS (XE P w) P w K mg base ["_law_standing", "_law_orders", "_law_name", "_law_kind", "_law_many", "_law_turn", "_law_order"] "_law_other_good" (af aV) a.cy cdv A outer s H E) (List.drop 1 (av aV)) u /\ ∀ c ∈ os, c.nm = nm -> u { nx := fun _ H' => Q .non H', rt := Q } [some (.ref p), some (.ref r), some (L2.T nm), some (.int kind), some (.int many), none, none] H := by
  refine ⟨_, (ah (ba (aU (bp K HU) (fv 3) ac (aQ _)) (ah (cW (wM (fv 1) (fv 2) ⟨rfl, rfl, rfl, rfl⟩))
   (ao (aC (dM (bp K HU) (ar G__law_told (hr.mono (by decide)) rfl T.dW T.bQ.kp b__law_told .nil aL (FA.pa (aa (fv 0) (aa ac (aa (fv 2) ae))))) (aB []) (aQ _))))) aJ)
   hu2), fun c hc ec => ?_⟩
  subst ec
  have ef : fnd os c.nm = some c := uW X.sd.q.ch.np hc
  walk_at "rd"
  by_cases k4 : kind = 4
  ·refine itp k4 ⟨.inl ⟨_, .inl X.sd.dc⟩, _, .inr ⟨⟨c.nm⟩⟩, _, X.sd.dc, rfl, by rw [gU, ef]; rfl, aA hN rfl, d, os, ?_, by omega, .inr ⟨⟨_, rfl⟩, .inr ⟨c, ef, .inl fun H' J' K' N' => ?_⟩⟩⟩
   ·obtain ⟨dx, hp⟩ := X.sd.q.ch.ob
    refine X.sd.q.ch.keep (Keep.refl.put (.head _)) (ne1 hp X.sd.dc (by intro z; cases z)) (by simpa using X.dr) fun o ho => ?_
    obtain ⟨dc, ec⟩ := (X.sd.q.ch.od o ho).ob
    exact ⟨ne1 ec X.sd.dc (by intro z; cases z), ne1 (X.sd.q.ch.od o ho).ag.ag X.sd.dc (by intro z; cases z), ne1 (X.sd.q.ch.od o ho).ag.rt X.sd.dc (by intro z; cases z), ne1 (X.sd.q.ch.od o ho).ad X.sd.dc (by intro z; cases z)⟩
   ·refine k H' U la _ (Go.drop X (fun o ho => (List.mem_filter.mp ho).1) (List.length_filter_le _ _) (Keep.refl.put (.head _)) (ai.trans ?_) K' J' N')
    rw [Br]
  ·exact itn k4 (c2 c hc rfl)
 obtain ⟨u1, hu1, c1⟩ := c1
 refine ⟨_, (ah (ba (xX (nF (Nat.lt_of_le_of_lt (Nat.add_le_add_left (by decide) _) HU) (fv 2) (fv 1)) (by with_unfolding_all rfl)) (ao (aC (dM (bp K HU) (dE rfl (cl := _) (x := "_law_way") (xs := ["_law_way"]) (fr := ["_law_standing", "_law_name"]) (ks := [0, 2]) (by exact ⟨rfl, by decide +kernel, rfl, by decide +kernel, rfl, dA rfl, rfl, bb rfl, bb (k := fun y => List.lookup y _) rfl, dB rfl⟩) rfl (jW rfl T.cx (FA.pa (aa ac (aa ac ae)))) (fun _ _ _ _ _ => (aS (i := 0) (iA (l := ["_law_way", "_law_standing", "_law_name"]) (by decide)) rfl (Or.inl rfl))) (fun _ _ _ _ _ => (j2 (aU (eW K HU) (ar G__law_told (hr.mono (by decide)) rfl T.dW T.bQ.kp b__law_told .nil lK (FA.pa (aa (fv 1) (aa (fv 0) (aa (fv 2) ae))))) (aB [111, 114, 100, 101, 114]) (aQ _)))) (fun _ _ _ _ _ => (fv 0))) (cj (FA.pa ae)) (aQ _)))) aJ)
  hu1), ?_⟩
 walk_at "rd"
 have g := DGet.k (k := .inr ⟨⟨nm⟩⟩) X.sd.dc
 rw [gU] at g
 refine ⟨r, _, rfl, g, ?_⟩
 rw [Option.isSome_map]
 cases ef : fnd os nm with
 | some c => exact itn (by intro z; cases z) (c1 c (ia ef).1 (ia ef).2)
 | none =>
  refine itp rfl (Aw ⟨1, 6, rfl, by decide, AS 1 5 hN (fun i hi G R s n r' => ?_) fun D G f g s n => ⟨Nat.zero_le _, fun p1 f1 => ?_⟩⟩)
  ·walk_at "rd"
   refine ⟨n, d, os, X.sd.q.ch.same s, by omega, .inr ⟨by omega, ⟨_, rfl⟩, .inl ⟨ef, fun H' s' n' => ?_⟩⟩⟩
   exact r' H' s' n'
  ·refine ⟨_, EqR.flatL (SqL.same (ak _ f1) (SqL.of g)) (SqL.of ai) rfl, k _ U la os (Go.same X (s.trans (ak _ f1)) (aA n rfl))⟩
def sp_Ae (S O : Addr) : Sp := sp5 fun x y l t h H Q _ => NoT H /\ asR x fun p => asR y fun r => asT l fun nm => asI t fun u => asR h fun hd => ∃ d la os hs, Sd S O H p d r la os /\ H hd = some (.lst hs) /\ hs.length <= 4000 /\ Off hd la os /\
 ∀ H' es, New H H' hd hs es -> es.length <= 3 -> Q (.bl true) H'
theorem nI (T : Txt K mg a) : bv P w K mg base (XE P w) 6 a.fO a.iE ["_law_standing", "_law_orders", "_law_name", "_law_until", "_law_held"] (sp_Ae a.aq a.aj) := by
 refine T.dI.okX o9 (fun vs H Q E h => sp5.len h) (fun cdv A outer s H vs Q E hr h => ?_)
 obtain ⟨x0, x1, x2, x3, x4, rfl, h⟩ := sp5.inv h
 try dsimp only [sp_Ae, sp5] at h
 have HU := bJ hr
 obtain ⟨hN, h1⟩ := h
 obtain ⟨p, rfl, h2⟩ := asR.inv h1
 obtain ⟨r, rfl, h3⟩ := asR.inv h2
 obtain ⟨nm, rfl, h4⟩ := asT.inv h3
 obtain ⟨u, rfl, h5⟩ := asI.inv h4
 obtain ⟨hd, rfl, d, la, os, hs, S, hh, lh, off, k⟩ := asR.inv h5
 have sz := szl
 have G__law_one_good := @iK P w K mg base a T
 have b__law_one_good := iD T.cT
 refine ⟨_, (ao (aC (Fq (wP (nF (Nat.lt_of_le_of_lt (Nat.add_le_add_left (by decide) _) HU) (fv 2) (fv 1)) (by with_unfolding_all rfl)) (iQ (ar G__law_one_good (hr.mono (by decide)) rfl T.i8 T.cT.kp b__law_one_good .nil aL (FA.pa (aa (fv 0) (aa (fv 1) (aa (fv 2) (aa (fv 3) (aa (fv 4) ae))))))))))), ?_⟩
 walk_at "rd"
 have g := DGet.k (k := .inr ⟨⟨nm⟩⟩) S.dc
 rw [gU] at g
 refine ⟨r, _, rfl, g, ?_⟩
 rw [Option.isSome_map]
 cases ef : fnd os nm with
 | none => exact itp rfl (k H [] (New.refl hN hh) (Nat.zero_le _))
 | some c => exact itn (by intro z; cases z) ⟨hN, d, la, os, c, hs, S.q, (ia ef).1, (ia ef).2, hh, lh, off, k⟩
def sp_yH (S O : Addr) : Sp := sp3 fun x y th H Q _ => NoT H /\ asR x fun p => asR y fun r => asK H th fun _ => ∃ d la os, Sd S O H p d r la os /\ os.length <= 50 /\ Q (.bl true) H
theorem mx (T : Txt K mg a) : bv P w K mg base (XE P w) 11 a.dt a.h_ ["_law_standing", "_law_orders", "_law_thing"] (sp_yH a.aq a.aj) := by
 refine T.eQ.okG mO (fun vs H Q E h => sp3.len h) (fun cdv A outer s H vs Q E hr h => ?_)
 obtain ⟨x0, x1, x2, rfl, h⟩ := sp3.inv h
 try dsimp only [sp_yH, sp3] at h
 have HU := bJ hr
 obtain ⟨hN, h1⟩ := h
 obtain ⟨p, rfl, h2⟩ := asR.inv h1
 obtain ⟨r, rfl, h3⟩ := asR.inv h2
 obtain ⟨t, ht, _, d, la, os, S, len, k⟩ := asK.inv h3
 have sz := szl
 have G__law_told := @fV P w K mg base a T
 have b__law_told := fU T.bQ
 have c1 : ∃ u, PSs (cS (XE P w) P w K mg base ["_law_standing", "_law_orders", "_law_thing"] "_law_none_good" (af bj) a.dt cdv A outer s H (gcE H E)) (List.drop 1 (av bj)) u /\ (ff os x2 = none -> u { nx := fun _ H' => ∃ G, Gc H G H' /\ Q .non G, rt := fun v H' => ∃ G, Gc H G H' /\ Q v G } [some (.ref p), some (.ref r), some x2] H) := by
  refine ⟨_, (ao (aC (dM (bp K HU) (dE rfl (cl := _) (x := "_law_way") (xs := ["_law_way"]) (fr := ["_law_standing", "_law_thing"]) (ks := [0, 2]) (by exact ⟨rfl, by decide +kernel, rfl, by decide +kernel, rfl, dA rfl, rfl, bb rfl, bb (k := fun y => List.lookup y _) rfl, dB rfl⟩) rfl (jW rfl T.cx (FA.pa (aa ac (aa ac ae)))) (fun _ _ _ _ _ => (aS (i := 0) (iA (l := ["_law_way", "_law_standing", "_law_thing"]) (by decide)) rfl (Or.inl rfl))) (fun _ _ _ _ _ => (j2 (aU (eW K HU) (ar G__law_told (hr.mono (by decide)) rfl T.dW T.bQ.kp b__law_told .nil lK (FA.pa (aa (fv 1) (aa (fv 0) (aa (fv 2) ae))))) (aB [111, 114, 100, 101, 114]) (aQ _)))) (fun _ _ _ _ _ => (fv 0))) (cj (FA.pa ae)) (aQ _)))), fun ef => ?_⟩
  walk_at "rd"
  refine Aw ⟨1, 6, rfl, by decide, AS 1 5 hN (fun i hi G R s n r' => ?_) fun D G f g s n => ⟨Nat.zero_le _, fun p1 f1 => ?_⟩⟩
  ·walk_at "rd"
   exact ⟨n, d, os, S.q.ch.same s, by omega, .inr ⟨by omega, ⟨_, fY s ht⟩, .inl ⟨ef, fun H' s' n' => r' H' s' n'⟩⟩⟩
  ·exact ⟨_, EqR.flatL (SqL.same (ak _ f1) (SqL.of g)) (SqL.of ai) rfl, H, Gc.none (s.trans (ak _ f1)), k⟩
 obtain ⟨u1, hu1, c1⟩ := c1
 refine ⟨hN, _, (ah (ba (L2.PW.pt (rR (bA (aE (bC K) rfl T.aK aI (FA.pa (aa (fv 2) (aa (cE (v := .ty "str") rfl T.tP nE rfl) ae))))) (m_ (xX (xb (Nat.lt_of_le_of_lt (Nat.add_le_add_left (by decide) _) HU) (fv 2) (fv 1)) (by with_unfolding_all rfl))))) (ao (aC cL)) aJ)
  hu1), ?_⟩
 by_cases hs : ∃ l, x2 = .str ⟨⟨l⟩⟩
 ·obtain ⟨l, rfl⟩ := hs
  walk_at "rd"
  have g := DGet.k (k := .inr ⟨⟨l⟩⟩) S.dc
  rw [gU] at g
  refine ⟨r, _, rfl, g, ?_⟩
  rw [Option.isSome_map]
  cases ef : fnd os l with
  | some c => exact itp rfl k
  | none => exact itn (by decide) (c1 ef)
 ·have e1 := jX ht hs
  walk_at "rd"
  simp only [ht]
  refine itn (by rw [e1]; decide) (c1 ?_)
  cases x2 with
  | str y => exact absurd ⟨y.cps.toList, rfl⟩ hs
  | _ => rfl
open K3
theorem PAt.go {S O : Addr} {H H' : Hp} {U U' : Addr -> Prop} {nms : List (List Nat)} {p d r q : Addr} {la la' : List Nat -> Lw} {os os' : List Od} {x : Pt} (X : St S O H U nms p d r la os) (g : Go S O H H' U U' nms p d r la' os') (j : PAt H q x) (n : ¬ U x.rq) : PAt H' q x /\ ¬ U' x.rq := by
 have tu : ∀ {y : Addr} {l : List V}, H y = some (.tup l) -> H' y = some (.tup l) := fun e => g.kp _ _ e fun u => by
  obtain ⟨o, e1, n1⟩ := X.al _ u
  rw [e] at e1; cases e1; exact n1 _ rfl
 refine ⟨⟨tu j.q, g.kp _ _ j.rq n, fun v m => ?_⟩, fun u => ?_⟩
 ·obtain ⟨q, l, c, i, e, e1, h⟩ := j.gr v m
  exact ⟨q, l, c, i, e, tu e1, h⟩
 ·rcases g.gr _ u with h | h
  ·exact n h
  ·rw [j.rq] at h; cases h
def sp_vM (S O : Addr) : Sp := sp5 fun x y q m l H Q _ => NoT H /\ asR x fun p => asR y fun r => asR q fun q => asI m fun mo => asI l fun pl => ∃ U nms d la os pt, St S O H U nms p d r la os /\ PAt H q pt /\ POk pt /\ ¬ U pt.rq /\ pt.m = mo /\ pt.pl = pl /\ pt.nm ∈ nms /\
 ∀ H' U' la' os', Go S O H H' U U' nms p d r la' os' -> Q (.bl true) H'
theorem kQ (T : Txt K mg a) : bv P w K mg base (XE P w) 12 a.d5 a.gj ["_law_standing", "_law_orders", "_law_put_here", "_law_month", "_law_place"] (sp_vM a.aq a.aj) := by
 refine T.d_.okX gk (fun vs H Q E h => sp5.len h) (fun cdv A outer s H vs Q E hr h => ?_)
 obtain ⟨x0, x1, x2, x3, x4, rfl, h⟩ := sp5.inv h
 try dsimp only [sp_vM, sp5] at h
 have ND := gk.nd
 obtain ⟨hN, h1⟩ := h
 obtain ⟨p, rfl, h2⟩ := asR.inv h1
 obtain ⟨r, rfl, h3⟩ := asR.inv h2
 obtain ⟨q, rfl, h4⟩ := asR.inv h3
 obtain ⟨mo, rfl, h5⟩ := asI.inv h4
 obtain ⟨pl, rfl, U, nms, d, la, os, x, X, AP, B, nU, e1, e2, mn, k⟩ := asI.inv h5
 subst e1 e2
 have G__law_put := @pI P w K mg base a T
 have b__law_put := pV T.eZ
 have G__law_other_good := @gb P w K mg base a T
 have b__law_other_good := gH T.bH
 refine ⟨_, (ah (gM (by passes_own) rfl (cw rfl T.cx (FA.pa (aa ac ae))) (aS (i := 5) ND rfl (Or.inl rfl)) (ao (ba (bI (bA (ar G__law_put (hr.mono (by decide)) rfl T.kq T.eZ.kp b__law_put .nil aL (FA.pa (aa (fv 0) (aa (fv 1) (aa (fv 2) (aa (fv 3) (aa (fv 4) ae))))))))) (ao (aC cL)) aJ)))
  (ah (ba (L2.PW.pt (il (bI (bA (ar G__law_other_good (hr.mono (by decide)) rfl T.cV T.bH.kp b__law_other_good .nil aL (FA.pa (aa (fv 0) (aa (fv 1) (aa (aP (aw K) (fv 2) ac (fun _ _ => rfl)) (aa ac (aa ac ae))))))))) (eE (bI (bA (ar G__law_other_good (hr.mono (by decide)) rfl T.cV T.bH.kp b__law_other_good .nil aL (FA.pa (aa (fv 0) (aa (fv 1) (aa (aP (aw K) (fv 2) ac (fun _ _ => rfl)) (aa ac (aa ac ae)))))))))))) (ao (aC cL)) aJ)
  (ao (aC (d8 (ar G__law_put (hr.mono (by decide)) rfl T.kq T.eZ.kp b__law_put .nil aL (FA.pa (aa (fv 0) (aa (fv 1) (aa (fv 2) (aa (fv 3) (aa (fv 4) ae))))))) (iQ (ar G__law_other_good (hr.mono (by decide)) rfl T.cV T.bH.kp b__law_other_good .nil aL (FA.pa (aa (fv 0) (aa (fv 1) (aa (aP (aw K) (fv 2) ac (fun _ _ => rfl)) (aa ac (aa ac ae))))))))))))), ?_⟩
 refine gf ?_
 walk_at "rd"
 refine dw (lo := 0) (n := 2) (fun i σ' G => ∃ U1 la1 os1 x5, Go a.aq a.aj H G U U1 nms p d r la1 os1 /\ PAt G q x /\ ¬ U1 x.rq /\ σ' = [some (.ref p), some (.ref r), some (.ref q), some (.int x.m), some (.int x.pl), x5]) ⟨U, la, os, none, Go.same X (Same.refl _) hN, AP, nU, rfl⟩ ?_ ?_
 ·rintro i σ' G hi ⟨U1, la1, os1, x5, X1, A1, n1, rfl⟩
  walk_at "rd"
  refine ⟨X1.nT, U1, nms, d, la1, os1, x, X1.st, A1, B, rfl, rfl, mn, fun H' U' la' os' g => ?_⟩
  obtain ⟨A2, n2⟩ := A1.go X1.st g n1
  exact ⟨_, _, _, _, X1.trans g, A2, n2, rfl⟩
 ·rintro σ' G ⟨U1, la1, os1, x5, X1, A1, n1, rfl⟩
  walk_at "rd"
  refine ⟨_, _, .inr (SqT.of A1.q), aH (j := 0) rfl, X1.nT, U1, nms, d, la1, os1, X1.st, fun H2 U2 la2 os2 g2 => ?_⟩
  obtain ⟨A2, n2⟩ := A1.go X1.st g2 n1
  refine ⟨_, _, .inr (SqT.of A2.q), aH (j := 0) rfl, g2.nT, U2, nms, d, la2, os2, g2.st, fun H3 U3 la3 os3 g3 => ?_⟩
  obtain ⟨A3, n3⟩ := A2.go g2.st g3 n2
  refine ⟨g3.nT, U3, nms, d, la3, os3, x, g3.st, A3, B, rfl, rfl, mn, fun H4 U4 la4 os4 g4 => ?_⟩
  obtain ⟨A4, n4⟩ := A3.go g3.st g4 n3
  refine ⟨_, _, .inr (SqT.of A4.q), aH (j := 0) rfl, g4.nT, U4, nms, d, la4, os4, g4.st, fun H5 U5 la5 os5 g5 => ?_⟩
  exact k H5 U5 la5 os5 ((((X1.trans g2).trans g3).trans g4).trans g5)
def sp_yi (S O : Addr) : Sp := sp5 fun x y n c b H Q _ => NoT H /\ asR x fun p => asR y fun r => asR n fun nq => asR c fun cq => asI b fun bas => ∃ U nms d la os c0 c1 c2 c3, St S O H U nms p d r la os /\ Nms H nq nms /\ H cq = some (.lst [.int c0, .int c1, .int c2, .int c3]) /\ (0 <= bas /\ bas <= 4799) /\
 ∀ H' U' la' os', Go S O H H' U U' nms p d r la' os' -> Q (.bl true) H'
theorem lY (T : Txt K mg a) : bv P w K mg base (XE P w) 12 a.dv a.ib ["_law_standing", "_law_orders", "_law_names", "_law_cells", "_law_base"] (sp_yi a.aq a.aj) := by
 refine T.eL.okX gY (fun vs H Q E h => sp5.len h) (fun cdv A outer s H vs Q E hr h => ?_)
 obtain ⟨x0, x1, x2, x3, x4, rfl, h⟩ := sp5.inv h
 try dsimp only [sp_yi, sp5] at h
 have ND := gY.nd
 have HU := bJ hr
 obtain ⟨hN, h1⟩ := h
 obtain ⟨p, rfl, h2⟩ := asR.inv h1
 obtain ⟨r, rfl, h3⟩ := asR.inv h2
 obtain ⟨nq, rfl, h4⟩ := asR.inv h3
 obtain ⟨cq, rfl, h5⟩ := asR.inv h4
 obtain ⟨bas, rfl, U, nms, d, la, os, c0, c1, c2, c3, X, hn, hc, hb, k⟩ := asI.inv h5
 have len := X.len
 have hS := SqL.of (K := K) hc
 have G__law_other_good := @gb P w K mg base a T
 have b__law_other_good := gH T.bH
 have G__law_odd_good := @nA P w K mg base a T
 have b__law_odd_good := oo T.fJ
 have G__law_put := @pI P w K mg base a T
 have b__law_put := pV T.eZ
 have G__law_made := @ms P w K mg base a T
 have b__law_made := mZ T.fb
 have d3 : ∃ u, PSs (cS (XE P w) P w K mg base ["_law_standing", "_law_orders", "_law_names", "_law_cells", "_law_base", "_law_kind", "_law_month", "_law_put_here", "_law_place"] "_law_deed_good" (af bo) a.dv cdv A outer s H E) (List.drop 3 (av bo)) u /\ ∀ H1 q x, Same H H1 -> NoT H1 -> PAt H1 q x -> POk x -> x.nm ∈ nms -> u { nx := fun _ H' => Q .non H', rt := Q } [some (.ref p), some (.ref r), some (.ref nq), some (.ref cq), some (.int bas), some (.int (c0 / 2 % 8)), some (.int x.m), some (.ref q), some (.int x.pl)] H1 := by
  refine ⟨_, (ah (ba (aU y8 (fv 5) ac (aQ _)) (ao (aC (ar G__law_put (hr.mono (by decide)) rfl T.kq T.eZ.kp b__law_put .nil aL (FA.pa (aa (fv 0) (aa (fv 1) (aa (fv 7) (aa (fv 6) (aa (fv 8) ae))))))))) aJ)
   (ah (ba (aU (bp K HU) (fv 5) ac (aQ _)) (ao (aC (ar G__law_odd_good (hr.mono (by decide)) rfl T.qy T.fJ.kp b__law_odd_good .nil aL (FA.pa (aa (fv 0) (aa (fv 7) (aa (aP (aw K) (fv 3) ac (fun _ _ => rfl)) (aa (aP (aw K) (fv 3) ac (fun _ _ => rfl)) ae)))))))) aJ)
   (ao (aC (ar G__law_other_good (hr.mono (by decide)) rfl T.cV T.bH.kp b__law_other_good .nil aL (FA.pa (aa (fv 0) (aa (fv 1) (aa (aP (aw K) (fv 2) (ap aW (ap aY (aP (aw K) (fv 3) ac (fun _ _ => rfl)) ac) ac) (fun _ _ => rfl)) (aa (fv 5) (aa (ap aO ac (ap aW (aP (aw K) (fv 3) ac (fun _ _ => rfl)) ac)) ae))))))))))), fun H1 q x s N1 AP B mn => ?_⟩
  have hS1 := hS.same s
  have X1 := Go.same X s N1
  have kk : ∀ H' U' la' os', Go a.aq a.aj H1 H' U U' nms p d r la' os' -> Q (.bl true) H' := fun H' U' la' os' g => k H' U' la' os' (X1.trans g)
  walk_at "rd"
  by_cases k4 : c0 / 2 % 8 < 4
  ·exact itp k4 ⟨N1, U, nms, d, la, os, x, X1.st, AP, B, rfl, rfl, mn, kk⟩
  refine itn k4 ?_
  by_cases k7 : c0 / 2 % 8 = 7
  ·exact itp k7 ⟨_, _, .inl hS1, aH (j := 1) rfl, _, _, .inl hS1, aH (j := 3) rfl, N1, d, os, x, X1.st.sd.q.ch, by omega, AP, B, fun H' s' n' => kk H' U la os (Go.same X1.st s' n')⟩
  refine itn k7 ⟨_, _, .inl hS1, aH (j := 0) rfl, ?_⟩
  walk_at "rd"
  obtain ⟨l, ml, el, al⟩ := (hn.same s).at (i := c0 / 16 % 4) (by omega) (by omega)
  refine ⟨_, _, .inl (SqL.of (s _ _ hn.q)), al, _, _, .inl hS1, aH (j := 2) rfl, ?_⟩
  walk_at "rd"
  exact ⟨N1, U, nms, d, la, os, X1.st, ⟨by omega, by omega⟩, kk⟩
 obtain ⟨u3, hu3, d3⟩ := d3
 refine ⟨_, (ah (aD (i := 5) ND rfl (Or.inl rfl) (ap aW (ap aY (aP (aw K) (fv 3) ac (fun _ _ => rfl)) ac) ac))
  (ah (aD (i := 6) ND rfl (Or.inl rfl) (aE (nQ rfl) rfl T.qL kK (FA.pa (aa ac (aa (ap aO (fv 4) (ap aW (aP (aw K) (fv 3) ac (fun _ _ => rfl)) ac)) ae)))))
  (ah (oa (ar G__law_made (hr.mono (by decide)) rfl T.pi T.fb.kp b__law_made .nil aL (FA.pa (aa (fv 2) (aa (fv 6) (aa (ap aY (aP (aw K) (fv 3) ac (fun _ _ => rfl)) ac) (aa (aP (aw K) (fv 3) ac (fun _ _ => rfl)) (aa (aP (aw K) (fv 3) ac (fun _ _ => rfl)) ae))))))) (uF K (n := 2) rfl (cv (aS (i := 7) ND rfl (Or.inl rfl)) (cv (aS (i := 8) ND rfl (Or.inl rfl)) qC))))
  hu3))), ?_⟩
 walk_at "rd"
 refine ⟨_, _, .inl hS, aH (j := 0) rfl, ?_⟩
 walk_at "rd"
 refine ⟨_, _, .inl hS, aH (j := 1) rfl, ?_⟩
 walk_at "rd"
 have em : ∃ mo, (if bas + c1 % 30 < 4799 then bas + c1 % 30 else 4799) = mo /\ 0 <= mo /\ mo <= 4799 := ⟨_, rfl, by split <;> omega, by split <;> omega⟩
 obtain ⟨mo, em, hm⟩ := em
 rw [em]
 refine ⟨_, _, .inl hS, aH (j := 0) rfl, ?_⟩
 walk_at "rd"
 refine ⟨_, _, .inl hS, aH (j := 2) rfl, _, _, .inl hS, aH (j := 3) rfl, hN, nms, hn, hm, ?_⟩
 rintro H1 q t x s N1 ht AP B rfl _ mn _ _
 exact ⟨t, _, rfl, SqT.of ht, rfl, _, _, rfl, _, _, rfl, rfl, d3 H1 q x s N1 AP B mn⟩
open K3
def sp_Ap (S O : Addr) : Sp := sp4 fun x y n t H Q _ => NoT H /\ asR x fun p => asR y fun r => asR n fun nq => asI t fun u => ∃ nms d la os, Sd S O H p d r la os /\ d ≠ r /\ os.length <= 50 /\ Nms H nq nms /\ Q (.bl true) H
theorem oK (T : Txt K mg a) : bv P w K mg base (XE P w) 12 a.dG a.ir ["_law_standing", "_law_orders", "_law_names", "_law_until"] (sp_Ap a.aq a.aj) := by
 refine T.fL.okG iy (fun vs H Q E h => sp4.len h) (fun cdv A outer s H vs Q E hr h => ?_)
 obtain ⟨x0, x1, x2, x3, rfl, h⟩ := sp4.inv h
 try dsimp only [sp_Ap, sp4] at h
 have ND := iy.nd
 have HU := bJ hr
 obtain ⟨hN, h1⟩ := h
 obtain ⟨p, rfl, h2⟩ := asR.inv h1
 obtain ⟨r, rfl, h3⟩ := asR.inv h2
 obtain ⟨nq, rfl, h4⟩ := asR.inv h3
 obtain ⟨u, rfl, nms, d, la, os, S, dr, len, hn, k⟩ := asI.inv h4
 have sz := szl
 have G__law_none_good := @mx P w K mg base a T
 have b__law_none_good := mY T.eQ
 have G__law_names_good := @gm P w K mg base a T
 have b__law_names_good := gz T.cB
 have G__law_one_good := @iK P w K mg base a T
 have b__law_one_good := iD T.cT
 have c1 : ∃ u1, PSs (cS (XE P w) P w K mg base ["_law_standing", "_law_orders", "_law_names", "_law_until", "_law_turn", "_law_things"] "_law_end_good" (af bu) a.dG cdv A outer s H (gcE H E)) (List.drop 1 (av bu)) u1 /\ ∀ x4, u1 { nx := fun _ H' => ∃ G, Gc H G H' /\ Q .non G, rt := fun v H' => ∃ G, Gc H G H' /\ Q v G } [some (.ref p), some (.ref r), some (.ref nq), some (.int u), x4, none] H := by
  refine ⟨_, (ah (aD (i := 5) ND rfl (Or.inl rfl) (eI (FA.pa (aa ik (aa ac (aa (cj (FA.pa (aa (aP (aw K) (fv 2) ac (fun _ _ => rfl)) ae))) (aa (ap aO (aP (aw K) (fv 2) ac (fun _ _ => rfl)) (aB [120])) (aa (aB []) (aa (aP (aw K) (fv 2) ac (fun _ _ => rfl)) ae)))))))))
   (ao (aC (dM (bp K HU) (dE rfl (cl := _) (x := "_law_thing") (xs := ["_law_thing"]) (fr := ["_law_standing", "_law_orders"]) (ks := [0, 1]) (by exact ⟨rfl, by decide +kernel, rfl, by decide +kernel, rfl, dA rfl, rfl, bb rfl, bb (k := fun y => List.lookup y _) rfl, dB rfl⟩) rfl (Db K (fv 5)) (fun _ _ _ _ _ => (aS (i := 0) (iA (l := ["_law_thing", "_law_standing", "_law_orders"]) (by decide)) rfl (Or.inl rfl))) (fun _ _ _ _ _ => (j2 (bI (bA (ar G__law_none_good (hr.mono (by decide)) rfl T.nL T.eQ.kp b__law_none_good .nil lK (FA.pa (aa (fv 1) (aa (fv 2) (aa (fv 0) ae))))))))) (fun _ _ _ _ _ => (fv 0))) (cj (FA.pa ae)) (aQ _))))), fun x4 => ?_⟩
  obtain ⟨l0, m0, _, a0⟩ := hn.at (i := 0) (by decide) (by decide)
  obtain ⟨l1, m1, _, a1⟩ := hn.at (i := 1) (by decide) (by decide)
  have o0 := okn (hn.ok l0 m0)
  walk_at "rd"
  refine ⟨_, _, .inl (SqL.of hn.q), a0, by omega, fun p1 f1 => ?_⟩
  obtain ⟨H2, ee, s2, g2, N2⟩ := cU (o := HO.lst [L2.T l0]) f1 hN rfl
  rw [ee]
  have hn2 := SqL.of (K := K) (s2 _ _ hn.q)
  refine ⟨_, _, .inl hn2, a0, ?_⟩
  walk_at "rd"
  refine ⟨by omega, _, _, .inl hn2, a1, by omega, fun p2 f2 => ?_⟩
  obtain ⟨H3, ee, s3, g3, N3⟩ := cU (o := HO.tup [V.non, V.int 5, V.ref p1, L2.T (l0 ++ [120]), L2.T [], L2.T l1]) f2 N2 rfl
  rw [ee]
  have t3 := s2.trans s3
  have kx : ∀ x ∈ [V.non, V.int 5, V.ref p1, L2.T (l0 ++ [120]), L2.T [], L2.T l1], Kd H3 x := fa ⟨_, rfl⟩ (fa ⟨_, rfl⟩ (fa ⟨"list", by simp [bi, s3 _ _ g2]⟩ (fa ⟨_, rfl⟩ (fa ⟨_, rfl⟩ (fa ⟨_, rfl⟩ fn)))))
  have S3 := S.same t3
  have lx : [V.non, V.int 5, V.ref p1, L2.T (l0 ++ [120]), L2.T [], L2.T l1].length <= 6 := Nat.le_refl 6
  generalize [V.non, V.int 5, V.ref p1, L2.T (l0 ++ [120]), L2.T [], L2.T l1] = xs at g3 kx lx
  refine cmT p2 xs (fun H' => NoT H' /\ Same H3 H') (fun D ys hD => ⟨aA N3 rfl, ak _ hD⟩) (fun H' c => SqT.of (c.2 _ _ g3)) (fun _ => false) (fun x => x) (fun R r => r) (SqT.of g3) (by omega) (fun x hx H' R c r' => ?_) (fun x hx z => nomatch z) (fun D hD => ⟨Nat.zero_le _, fun p4 f4 => ?_⟩)
  ·obtain ⟨t, ht⟩ := kx x hx
   walk_at "rd"
   exact ⟨c.1, asK.of (fY c.2 ht) ⟨d, la, os, S3.same c.2, len, r'⟩⟩
  ·walk_at "rd"
   have ez : (xs.filter fun _ => false).map (fun x => x) = [] := by rw [List.filter_eq_nil_iff.mpr (by simp)]; rfl
   rw [ez] at f4 ⊢
   exact ⟨_, EqR.flatL (SqL.same (ak _ f4) (SqL.of ai)) (SqL.of ai) rfl, H, Gc.none ((t3.trans (ak _ hD)).trans (ak _ f4)), k⟩
 obtain ⟨u1, hu1, c1⟩ := c1
 refine ⟨hN, _, (ah (gM (by passes_own) rfl (cw rfl T.cx (FA.pa (aa ac ae))) (aS (i := 4) ND rfl (Or.inl rfl)) (ah (ba (yZ (aU (eW K HU) (Cn (dE rfl (cl := _) (x := "_law_name") (xs := ["_law_name"]) (fr := ["_law_standing", "_law_orders", "_law_until"]) (ks := [0, 1, 3]) (by exact ⟨rfl, by decide +kernel, rfl, by decide +kernel, rfl, dA rfl, rfl, bb rfl, bb (k := fun y => List.lookup y _) rfl, dB rfl⟩) rfl (CB (fv 1)) (fun _ _ _ _ _ => (aS (i := 0) (iA (l := ["_law_name", "_law_standing", "_law_orders", "_law_until"]) (by decide)) rfl (Or.inl rfl))) (fun _ _ _ _ _ => (j2 (yZ (bI (bA (ar G__law_one_good (hr.mono (by decide)) rfl T.i8 T.cT.kp b__law_one_good .nil lK (FA.pa (aa (fv 1) (aa (fv 2) (aa (fv 0) (aa (fv 3) (aa (cj (FA.pa ae)) ae)))))))))))) (fun _ _ _ _ _ => (fv 0)))) (cj (FA.pa ae)) (aQ _))) (ao (aC cL)) aJ)
  (ao (ba (yZ (bI (bA (ar G__law_names_good (hr.mono (by decide)) rfl T.gT T.cB.kp b__law_names_good .nil aL (FA.pa (aa (fv 0) (aa (fv 1) (aa (cj (FA.pa ae)) ae)))))))) (ao (aC cL)) aJ))))
  hu1), ?_⟩
 refine gf ?_
 walk_at "rd"
 refine dw (lo := 0) (n := 2) (fun i σ' G => G = H /\ ∃ x4, σ' = [some (.ref p), some (.ref r), some (.ref nq), some (.int u), x4, none]) ⟨rfl, none, rfl⟩ ?_ ?_
 ·rintro i σ' G hi ⟨rfl, x4, rfl⟩
  walk_at "rd"
  refine ⟨hN, cmK r (os.map (kyL la)) (fun _ => false) (fun x => x) (fun R r' => r') (.inl S.dc) (by rw [List.length_map]; omega) (fun x hx D ys o R hD nb r' => ?_) (fun x hx z => nomatch z) fun D hD => ⟨Nat.zero_le _, fun p1 f1 => ?_⟩⟩
  ·obtain ⟨kv, hkv, rfl⟩ := List.mem_map.mp hx
   obtain ⟨c, hc, rfl⟩ := List.mem_map.mp hkv
   have NG : NoT (upd (upd G r (.frz o (.dK (os.map (kyL la))))) D (.lst ys)) := aA (aA hN rfl) rfl
   have gr : upd (upd G r (.frz o (.dK (os.map (kyL la))))) D (.lst ys) r = some (.frz o (.dK (os.map (kyL la)))) := (ay (Ne.symm nb)).trans ai
   have kp : Keep [r] G (upd (upd G r (.frz o (.dK (os.map (kyL la))))) D (.lst ys)) := fun c z e n => by rw [ay (au e hD), ay (by simpa using n)]; exact e
   generalize upd (upd G r (.frz o (.dK (os.map (kyL la))))) D (.lst ys) = G1 at NG gr kp r' ⊢
   walk_at "rd"
   have nr : ∀ {x : Addr} {o : HO}, G x = some o -> (∀ l, o ≠ .dK l) -> x ∉ [r] := fun e q m => bN e S.dc (fun z => q _ z) (List.mem_singleton.mp m)
   refine ⟨NG, Nat.zero_le _, fun hd fh => ?_⟩
   obtain ⟨G2, ee, s2, q2, N2⟩ := cU (o := HO.lst []) fh NG rfl
   rw [ee]
   have ks : Keep [r] G G2 := kp.trans (Keep.same s2)
   have off : Off hd la os := fun c hc => ⟨au (kp _ _ (S.q.ch.od c hc).ad (nr (S.q.ch.od c hc).ad (by intro _ z; cases z))) fh, au (kp _ _ (S.q.rw c hc).q (nr (S.q.rw c hc).q (by intro _ z; cases z))) fh⟩
   obtain ⟨dx, hp⟩ := S.q.ch.ob
   have Sx : Sq a.aq a.aj G2 p d r la os := ⟨S.q.ch.keep ks (nr hp (by intro _ z; cases z)) (by simpa using dr) fun c hc => ⟨by obtain ⟨dc, ho⟩ := (S.q.ch.od c hc).ob; exact nr ho (by intro _ z; cases z), nr (S.q.ch.od c hc).ag.ag (by intro _ z; cases z), nr (S.q.ch.od c hc).ag.rt (by intro _ z; cases z), nr (S.q.ch.od c hc).ad (by intro _ z; cases z)⟩, .inr ⟨o, s2 _ _ gr⟩, fun c hc => (S.q.rw c hc).keep ks ⟨nr (S.q.rw c hc).q (by intro _ z; cases z), nr (S.q.rw c hc).tq (by intro _ z; cases z), nr (S.q.rw c hc).rq (by intro _ z; cases z)⟩, S.q.ok, S.q.ln⟩
   refine ⟨N2, d, la, os, c, [], Sx, hc, rfl, q2, Nat.zero_le _, off, fun H' es n _ => ⟨G1, Gc.none (fun c z e => ?_), r'⟩⟩
   exact n.2.1 _ _ (s2 _ _ e) (by simpa using au e fh)
  ·have ez : List.map (fun x => x) (List.filter (fun x => false) (List.map (fun e => kV e.fst) (List.map (kyL la) os))) = [] := by rw [List.filter_eq_nil_iff.mpr (by simp)]; rfl
   rw [ez] at f1 ⊢
   walk_at "rd"
   refine ⟨_, EqR.flatL (SqL.same (ak _ f1) (SqL.of ai)) (SqL.of ai) rfl, G, Gc.none ((ak _ hD).trans (ak _ f1)), itn (by decide) ⟨hN, Nat.zero_le _, fun p2 f2 => ?_⟩⟩
   have s2 := ak (HO.lst []) f2
   refine ⟨aA hN rfl, d, la, os, [], S.same s2, ai, Nat.zero_le _, fun H' es n _ => ⟨G, Gc.none (fun c z e => ?_), rfl, _, rfl⟩⟩
   exact n.2.1 _ _ (s2 _ _ e) (by simpa using au e f2)
 ·rintro σ' G ⟨rfl, x4, rfl⟩
  exact c1 x4
open K3
theorem St.move {S O : Addr} {H H' : Hp} {U : Addr -> Prop} {nms : List (List Nat)} {p d r : Addr} {la : List Nat -> Lw} {os : List Od} (X : St S O H U nms p d r la os) (kf : ∀ c z, H c = some z -> (U c \/ ∃ l, z = .tup l) -> H' c = some z) : St S O H' U nms p d r la os := by
 have ku : ∀ {c : Addr} {z : HO}, H c = some z -> Ew p d r la os c -> H' c = some z := fun e u => kf _ _ e (.inl (X.us _ u))
 have kt : ∀ {c : Addr} {l : List V}, H c = some (.tup l) -> H' c = some (.tup l) := fun e => kf _ _ e (.inr ⟨_, rfl⟩)
 have uo : ∀ {o : Od} {y : Addr}, o ∈ os -> y ∈ [o.ob, o.ad, (la o.nm).q] -> Ew p d r la os y := fun ho h => .inr (.inr (.inr ⟨_, ho, h⟩))
 have r' := ku X.sd.dc (.inr (.inr (.inl rfl)))
 refine ⟨⟨⟨⟨?_, ku X.sd.q.ch.dc (.inr (.inl rfl)), fun o ho => ?_, X.sd.q.ch.np, X.sd.q.ch.na⟩, .inl r', fun o ho => ?_, X.sd.q.ok, X.sd.q.ln⟩, r', X.sd.ij⟩, X.us, fun y u => ?_, X.nm, X.n4, X.dr, X.qa⟩
 ·obtain ⟨dx, e⟩ := X.sd.q.ch.ob
  exact ⟨dx, ku e (.inl rfl)⟩
 ·have A := X.sd.q.ch.od o ho
  obtain ⟨dx, e⟩ := A.ob
  exact ⟨⟨dx, ku e (uo ho (.head _))⟩, ⟨kt A.ag.ag, kt A.ag.rt⟩, ku A.ad (uo ho (.tail _ (.head _)))⟩
 ·have A := X.sd.q.rw o ho
  exact ⟨ku A.q (uo ho (.tail _ (.tail _ (.head _)))), kt A.tq, kt A.rq⟩
 ·obtain ⟨z, e, n⟩ := X.al y u
  exact ⟨z, kf _ _ e (.inl u), n⟩
theorem St.off {S O : Addr} {H : Hp} {U : Addr -> Prop} {nms : List (List Nat)} {p d r hd : Addr} {la : List Nat -> Lw} {os : List Od} (X : St S O H U nms p d r la os) (h : ¬ U hd) : Off hd la os := fun c hc =>
 ⟨fun e => h (X.us _ (.inr (.inr (.inr ⟨c, hc, by simp [e]⟩)))), fun e => h (X.us _ (.inr (.inr (.inr ⟨c, hc, by simp [e]⟩))))⟩
structure Sde where
 p : Addr
 d : Addr
 r : Addr
 U : Addr -> Prop
 la : List Nat -> Lw
 os : List Od
def WO (s t : Sde) (x : Addr) : Prop := s.U x \/ t.U x
def WW (hd : Addr) (s t : Sde) (x : Addr) : Prop := x = hd \/ WO s t x
structure LS (S O : Addr) (H0 H : Hp) (nms : List (List Nat)) (s t : Sde) : Prop where
 sm : Same H0 H
 nT : NoT H
 s0 : St S O H s.U nms s.p s.d s.r s.la s.os
 s1 : St S O H t.U nms t.p t.d t.r t.la t.os
 dj : ∀ x, s.U x -> ¬ t.U x
 fr : ∀ x, WO s t x -> H0 x = none
def Stay (H : Hp) (W : Addr -> Prop) (H' : Hp) (W' : Addr -> Prop) : Prop := ∀ q o, H q = some o -> ¬ W q -> H' q = some o /\ ¬ W' q
theorem Stay.same {H H' : Hp} {W : Addr -> Prop} (s : Same H H') : Stay H W H' W := fun q o e n => ⟨s _ _ e, n⟩
def HdA (H : Hp) (W : Addr -> Prop) (v : V) (ls : List V) : Prop := ∃ q, v = .ref q /\ H q = some (.lst ls) /\ (ls.all cC = true /\ ls.length <= 1000) /\ ¬ W q
theorem A2.imp' {α β : Type} {R R' : α -> β -> Prop} {as : List α} {bs : List β} (h : A2 R as bs) (g : ∀ x y, R x y -> R' x y) : A2 R' as bs := by
 induction h with
 | nil => exact .nil
 | cons r _ ih => exact .cons (g _ _ r) ih
theorem HdA.stay {H H' : Hp} {W W' : Addr -> Prop} {vs : List V} {cs : List (List V)} (x : A2 (HdA H W) vs cs) (y : Stay H W H' W') : A2 (HdA H' W') vs cs := A2.imp' x fun v ls h => by
 obtain ⟨q, e, e1, e2, n⟩ := h
 obtain ⟨e3, n2⟩ := y q _ e1 n
 exact ⟨q, e, e3, e2, n2⟩
variable {S O : Addr} {H0 H H' : Hp} {hd h0 : Addr} {s t : Sde} {hs es : List V} {nms : List (List Nat)} {U' : Addr -> Prop} {la' : List Nat -> Lw} {os' : List Od}
theorem LS.swap (L : LS S O H0 H nms s t) : LS S O H0 H nms t s :=
 ⟨L.sm, L.nT, L.s1, L.s0, fun x hx hy => L.dj x hy hx, fun x h => L.fr x h.symm⟩
theorem LS.same (L : LS S O H0 H nms s t) (m : Same H H') (n : NoT H') : LS S O H0 H' nms s t :=
 ⟨L.sm.trans m, n, L.s0.same m, L.s1.same m, L.dj, L.fr⟩
theorem LS.new (L : LS S O H0 H nms s t) {q : Addr} (e : H q = none) : ¬ WO s t q := fun z => by
 rcases z with z | z
 ·obtain ⟨o, e1, _⟩ := L.s0.al q z
  rw [e] at e1; cases e1
 ·obtain ⟨o, e1, _⟩ := L.s1.al q z
  rw [e] at e1; cases e1
theorem LS.step (L : LS S O H0 H nms s t) (g : Go S O H H' s.U U' nms s.p s.d s.r la' os') : LS S O H0 H' nms { s with U := U', la := la', os := os' } t /\ Stay H (WO s t) H' (WO { s with U := U', la := la', os := os' } t) := by
 have nt : ∀ x, t.U x -> H x ≠ none := fun x hx e => L.new e (.inr hx)
 refine ⟨⟨fun c z e => g.kp _ _ (L.sm _ _ e) fun u => ?_, g.nT, g.st, L.s1.move fun c z e h => g.kp _ _ e fun u => ?_, fun x hx hy => ?_, fun x h => ?_⟩, fun q o e nw => ⟨g.kp _ _ e fun u => nw (.inl u), fun z => ?_⟩⟩
 ·rw [L.fr c (.inl u)] at e; cases e
 ·rcases h with h | ⟨l, rfl⟩
  ·exact L.dj c u h
  ·obtain ⟨o, e1, n1⟩ := L.s0.al c u
   rw [e] at e1; cases e1; exact n1 _ rfl
 ·rcases g.gr x hx with z | z
  ·exact L.dj x z hy
  ·exact nt x hy z
 ·rcases h with z | z
  ·rcases g.gr x z with z | z
   ·exact L.fr x (.inl z)
   ·exact L.sm.free z
  ·exact L.fr x (.inr z)
 ·rcases z with z | z
  ·rcases g.gr q z with z | z
   ·exact nw (.inl z)
   ·rw [e] at z; cases z
  ·exact nw (.inr z)
theorem LS.held (L : LS S O H0 H nms s t) (hl : H hd = some (.lst hs)) (hw : ¬ WO s t hd) (h0 : H0 hd = none) (n : New H H' hd hs es) : LS S O H0 H' nms s t /\ Stay H (WW hd s t) H' (WW hd s t) /\ ∀ e ∈ es, ∃ ls, HdA H' (WW hd s t) e ls := by
 have mv : ∀ {U : Addr -> Prop} {p d r : Addr} {la : List Nat -> Lw} {os : List Od}, ¬ U hd -> St S O H U nms p d r la os -> St S O H' U nms p d r la os := fun nu X => X.move fun c z e h => n.2.1 _ _ e fun m => by
  have m := List.mem_singleton.mp m
  subst m
  rcases h with h | ⟨l, rfl⟩
  ·exact nu h
  ·rw [hl] at e; cases e
 refine ⟨⟨fun c z e => n.2.1 _ _ (L.sm _ _ e) fun m => ?_, n.2.2.1, mv (fun z => hw (.inl z)) L.s0, mv (fun z => hw (.inr z)) L.s1, L.dj, L.fr⟩, fun q o e nw => ⟨n.2.1 _ _ e fun m => nw (.inl (List.mem_singleton.mp m)), nw⟩, fun e he => ?_⟩
 ·rw [List.mem_singleton.mp m, h0] at e; cases e
 ·obtain ⟨q, ls, e1, e2, e3, e4, e5⟩ := n.2.2.2 e he
  refine ⟨ls, q, e1, e3, e4, fun z => ?_⟩
  rcases z with z | z
  ·exact e5 z
  ·exact L.new e2 z
def SameA (s t : Sde) : Prop := t.p = s.p /\ t.d = s.d /\ t.r = s.r
theorem SameA.refl (s : Sde) : SameA s s := ⟨rfl, rfl, rfl⟩
theorem SameA.trans {s t u : Sde} (h : SameA s t) (g : SameA t u) : SameA s u := ⟨g.1.trans h.1, g.2.1.trans h.2.1, g.2.2.trans h.2.2⟩
theorem yC (s t : Sde) : WO s t = WO t s := by funext x; exact propext ⟨Or.symm, Or.symm⟩
theorem BP {s0 t0 : Sde} {i : Int} (hi : i = 0 \/ i = 1) (es : SameA s0 s) (et : SameA t0 t) (L : LS S O H0 H nms s t) :
 ∃ x y, LS S O H0 H nms x y /\ atI [V.ref s0.p, V.ref t0.p] i = some (.ref x.p) /\ atI [V.ref s0.r, V.ref t0.r] i = some (.ref x.r) /\ WO x y = WO s t /\
  ∀ x' H', SameA x x' -> LS S O H0 H' nms x' y -> ∃ s' t', SameA s0 s' /\ SameA t0 t' /\ LS S O H0 H' nms s' t' /\ WO x' y = WO s' t' := by
 rcases hi with rfl | rfl
 ·exact ⟨s, t, L, by rw [es.1]; rfl, by rw [es.2.2]; rfl, rfl, fun x' H' e L' => ⟨x', t, es.trans e, et, L', rfl⟩⟩
 ·exact ⟨t, s, L.swap, by rw [et.1]; rfl, by rw [et.2.2]; rfl, yC _ _, fun x' H' e L' => ⟨s, x', es, et.trans e, L'.swap, yC _ _⟩⟩
theorem B6 {W W' : Addr -> Prop} {p q : Addr} {xs ys : List V} {cs : List (List V)} (hp : H p = some (.lst xs)) (hq : H q = some (.lst ys)) (h : A2 (HdA H W) xs cs) (h' : A2 (HdA H W') ys cs) : EqR K H p q true := by
 have := EqR.lst (K := K) (e := fun _ => true) (SqL.of hp) (SqL.of hq) ((uB h).trans (uB h').symm) fun j x y gx gy => by
  obtain ⟨e, g1, q1, rfl, e1, fe, _⟩ := B7 h gx
  obtain ⟨e', g2, q2, rfl, e2, _, _⟩ := B7 h' gy
  rw [g1] at g2; cases g2
  by_cases hq : q1 = q2
  ·subst hq; exact .same
  ·have := EqH.lst (K := K) (H := H) (n := 49) (e := fun _ => true) hq (SqL.of e1) (SqL.of e2) rfl fun j x y gx gy => by
    rw [gx] at gy; cases gy
    exact eqx (.inl (List.all_eq_true.mp fe.1 _ (List.mem_of_getElem? gx)))
   rwa [show (List.range e.length).all (fun _ => true) = true by simp] at this
 rwa [show (List.range xs.length).all (fun _ => true) = true by simp] at this
def FX (fx : List (Addr × HO)) (G : Hp) (W : Addr -> Prop) : Prop := ∀ e ∈ fx, G e.1 = some e.2 /\ ¬ W e.1
theorem FX.stay {fx : List (Addr × HO)} {H H' : Hp} {W W' : Addr -> Prop} (x : FX fx H W) (y : Stay H W H' W') : FX fx H' W' := fun e he => y _ _ (x e he).1 (x e he).2
abbrev fix (pn pc pr : Addr) (nl : List (List Nat)) (s0 t0 : Sde) : List (Addr × HO) := [(pn, .lst (nl.map L2.T)), (pc, .lst [.ref s0.p, .ref t0.p]), (pr, .lst [.ref s0.r, .ref t0.r])]
theorem A2.app {α β : Type} {R : α -> β -> Prop} {as as' : List α} {bs bs' : List β} (h : A2 R as bs) (g : A2 R as' bs') : A2 R (as ++ as') (bs ++ bs') := by
 induction h with
 | nil => exact g
 | cons r _ ih => exact .cons r ih
theorem A2.dropN {α β : Type} {R : α -> β -> Prop} {as : List α} {bs : List β} (h : A2 R as bs) : ∀ n, A2 R (as.drop n) (bs.drop n) := by
 induction h with
 | nil => intro n; rw [List.drop_nil, List.drop_nil]; exact .nil
 | cons r t ih => intro n; cases n with
  | zero => exact .cons r t
  | succ n => exact ih n
theorem A2.sn {α β : Type} {R : α -> β -> Prop} {as : List α} {bs : List β} {x : α} {y : β} (h : A2 R as bs) (g : R x y) : A2 R (as ++ [x]) (bs ++ [y]) := A2.app h (.cons g .nil)
def CpA (H G : Hp) (v : V) (ls : List V) : Prop := ∃ q, v = .ref q /\ H q = none /\ G q = some (.lst ls) /\ (ls.all cC = true /\ ls.length <= 1000)
theorem EZ {ks : List Nat} {te : TE} {σ : L2.St} {H1 : Hp} {Q : VK} (a : Addr) (xs : List V) (cs : List (List V)) (hN : NoT H1) (ha : H1 a = some (.lst xs)) (hx : A2 (fun v ls => ∃ q, v = .ref q /\ H1 q = some (.lst ls) /\ (ls.all cC = true /\ ls.length <= 1000)) xs cs) (hz : xs.length < sizeLine)
 (he : ∀ q (ls : List V) G (R : VK), G q = some (.lst ls) -> ls.length <= 1000 -> (∀ l, G l = none -> R (.ref l) (upd G l (.lst ls))) -> te ([some (.ref q)] ++ ks.map fun k => (σ[k]?).join) G R)
 (k : ∀ D ys G, H1 D = none -> Same H1 G -> NoT G -> G D = some (.lst ys) -> A2 (CpA H1 G) ys cs -> Q (.ref D) G) : CEl (Itl K a) 1 (h7 0) ks (fun _ H Q => Q true H) te σ H1 Q := by
 refine Bx a xs (fun D i ys G => H1 D = none /\ Same H1 G /\ NoT G /\ G D = some (.lst ys) /\ ys.length <= i /\ A2 (fun v ls => CpA H1 G v ls /\ v ≠ .ref D) ys (cs.take i)) hz ?_ ?_ ?_ ?_
 ·exact fun D hD => ⟨hD, ak _ hD, aA hN rfl, ai, Nat.le_refl _, .nil⟩
 ·rintro D i ys G ⟨hD, sm, _, gd, ly, _⟩
  exact ⟨gd, SqL.of (sm _ _ ha), ly⟩
 ·rintro D i y ys G zs N1 N0 hy ⟨hD, sm, nG, gd, ly, A⟩ hzs n1 n0
  obtain ⟨ls, hb, q, rfl, hq, fl⟩ := B7 hx hy
  obtain ⟨z1, rfl⟩ := ex1 hzs
  refine ⟨⟨[_], rfl, rfl⟩, ?_⟩
  refine itp rfl (he q ls G _ (sm _ _ hq) fl.2 fun l fl' => ?_)
  have nl : l ≠ D := Ne.symm (au gd fl')
  have m2 := sm.trans (ak (HO.lst ls) fl')
  refine n1 _ _ ((ak _ fl') _ _ gd) ⟨hD, eJ m2 hD, aA (aA nG rfl) rfl, ai, by rw [List.length_append, List.length_singleton]; omega, ?_⟩
  rw [List.take_succ, hb]
  refine A2.sn (A2.imp' A fun v ls' h => ?_) ⟨⟨l, rfl, sm.free fl', (ay nl).trans ai, fl⟩, fun z => nl (by cases z; rfl)⟩
  obtain ⟨⟨q', rfl, f', e', g'⟩, n'⟩ := h
  have nq : q' ≠ D := fun z => n' (by rw [z])
  exact ⟨⟨q', rfl, f', (ay nq).trans ((ak _ fl') _ _ e'), g'⟩, n'⟩
 ·rintro D ys G ⟨hD, sm, nG, gd, ly, A⟩
  rw [uB hx, List.take_length] at A
  exact k D ys G hD sm nG gd (A2.imp' A fun _ _ h => h.1)
theorem kX {ns : List Int} {j : Int} (j0 : 0 <= j) (j1 : j < ns.length) : atI (ns.map V.int) j = some (.int (ns.getD j.toNat 0)) := by
 obtain ⟨j, rfl⟩ : ∃ n : Nat, j = n := ⟨j.toNat, by omega⟩
 have hj : j < ns.length := by omega
 exact aH (by rw [List.getElem?_map, List.getElem?_eq_getElem hj]; simp [List.getD, hj])
theorem Fv {xs : List V} {k : Nat} (h : k + 3 < xs.length) : (xs.drop k).take 4 = [xs[k], xs[k + 1], xs[k + 2], xs[k + 3]] := by
 rw [List.drop_eq_getElem_cons (by omega), List.drop_eq_getElem_cons (by omega), List.drop_eq_getElem_cons (by omega), List.drop_eq_getElem_cons (by omega)]
 rfl
theorem GJ {ns : List Int} {kx : Int} (h0 : 0 <= kx) (h : kx + 3 < ns.length) : fX (ns.map V.int) (some kx) (some (kx + 4)) = [.int (ns.getD kx.toNat 0), .int (ns.getD (kx + 1).toNat 0), .int (ns.getD (kx + 2).toNat 0), .int (ns.getD (kx + 3).toNat 0)] := by
 obtain ⟨k, rfl⟩ : ∃ n : Nat, kx = n := ⟨kx.toNat, by omega⟩
 have hk : k + 3 < (ns.map V.int).length := by rw [List.length_map]; omega
 have e4 : (k : Int) + 4 = ((k + 4 : Nat) : Int) := by omega
 have t1 : ((k : Int) + 1).toNat = k + 1 := by omega
 have t2 : ((k : Int) + 2).toNat = k + 2 := by omega
 have t3 : ((k : Int) + 3).toNat = k + 3 := by omega
 unfold fX
 rw [e4, HT.sIx_nat, HT.sIx_nat, Nat.min_eq_left (by omega), Nat.min_eq_left (by omega), Nat.add_sub_cancel_left, Fv hk, t1, t2, t3, Int.toNat_natCast]
 have g : ∀ j, (hj : j < ns.length) -> (ns.map V.int)[j]'(by rw [List.length_map]; exact hj) = .int (ns.getD j 0) := fun j hj => by simp [List.getD, hj]
 rw [g k (by omega), g (k + 1) (by omega), g (k + 2) (by omega), g (k + 3) (by omega)]
structure LI (S O : Addr) (H0 G : Hp) (nms : List (List Nat)) (s0 t0 : Sde) (hd : Addr) (fx : List (Addr × HO)) (hs : List V) (cts : List (List V)) (kp : Addr) (ks : List V) (ck : List (List V)) (s t : Sde) : Prop where
 es : SameA s0 s
 et : SameA t0 t
 ls : LS S O H0 G nms s t
 hl : G hd = some (.lst hs)
 hw : ¬ WO s t hd
 fx : FX fx G (WW hd s t)
 hA : A2 (HdA G (WW hd s t)) hs cts
 kl : G kp = some (.lst ks)
 kw : ¬ WW hd s t kp
 kA : A2 (HdA G (WW hd s t)) ks ck
variable {G G' : Hp} {s0 t0 : Sde} {fx : List (Addr × HO)} {cts ck : List (List V)} {kp : Addr} {ks : List V}
theorem LI.same (I : LI S O H0 G nms s0 t0 hd fx hs cts kp ks ck s t) (x : Same G G') (n : NoT G') : LI S O H0 G' nms s0 t0 hd fx hs cts kp ks ck s t :=
 ⟨I.es, I.et, I.ls.same x n, x _ _ I.hl, I.hw, I.fx.stay (Stay.same x), HdA.stay I.hA (Stay.same x), x _ _ I.kl, I.kw, HdA.stay I.kA (Stay.same x)⟩
theorem Stay.wd {W W' : Addr -> Prop} (x : Stay G W G' W') : Stay G (fun q => q = hd \/ W q) G' (fun q => q = hd \/ W' q) := fun q o e n => by
 obtain ⟨e1, n1⟩ := x q o e fun z => n (.inr z)
 exact ⟨e1, fun z => z.elim (fun z => n (.inl z)) n1⟩
theorem LI.side {i : Int} (I : LI S O H0 G nms s0 t0 hd fx hs cts kp ks ck s t) (hi : i = 0 \/ i = 1) :
 ∃ x : Sde, atI [V.ref s0.p, V.ref t0.p] i = some (.ref x.p) /\ atI [V.ref s0.r, V.ref t0.r] i = some (.ref x.r) /\ St S O G x.U nms x.p x.d x.r x.la x.os /\ Off hd x.la x.os /\ (∀ q, x.U q -> WO s t q) /\
  ∀ H' U' la' os', Go S O G H' x.U U' nms x.p x.d x.r la' os' -> ∃ s' t', LI S O H0 H' nms s0 t0 hd fx hs cts kp ks ck s' t' /\ Stay G (WO s t) H' (WO s' t') := by
 obtain ⟨x, y, L, eP, eR, wo, back⟩ := BP hi I.es I.et I.ls
 have hw : ¬ WO x y hd := by rw [wo]; exact I.hw
 refine ⟨x, eP, eR, L.s0, L.s0.off fun z => hw (.inl z), fun q h => by rw [<- wo]; exact .inl h, fun H' U' la' os' g => ?_⟩
 obtain ⟨L2', st⟩ := L.step g
 obtain ⟨s', t', e1, e2, L3, wo3⟩ := back { x with U := U', la := la', os := os' } H' ⟨rfl, rfl, rfl⟩ L2'
 rw [wo, wo3] at st
 have sw : Stay G (WW hd s t) H' (WW hd s' t') := Stay.wd st
 exact ⟨s', t', ⟨e1, e2, L3, (st _ _ I.hl I.hw).1, (st _ _ I.hl I.hw).2, I.fx.stay sw, HdA.stay I.hA sw, (sw _ _ I.kl I.kw).1, (sw _ _ I.kl I.kw).2, HdA.stay I.kA sw⟩, st⟩
theorem LI.held {cn : List (List V)} (I : LI S O H0 G nms s0 t0 hd fx hs cts kp ks ck s t) (ec : cts = ck ++ cn) (h0 : H0 hd = none) (n : New G H' hd hs es) : ∃ cts' cn', cts' = ck ++ cn' /\ LI S O H0 H' nms s0 t0 hd fx (hs ++ es) cts' kp ks ck s t := by
 obtain ⟨L, sw, ne⟩ := I.ls.held I.hl I.hw h0 n
 obtain ⟨c', hc⟩ : ∃ cts', A2 (HdA H' (WW hd s t)) es cts' := by
  clear n
  induction es with
  | nil => exact ⟨[], .nil⟩
  | cons e r ih =>
   obtain ⟨ls, h1⟩ := ne e (.head _)
   obtain ⟨c, h2⟩ := ih fun e he => ne e (.tail _ he)
   exact ⟨ls :: c, .cons h1 h2⟩
 exact ⟨cts ++ c', cn ++ c', by rw [ec, List.append_assoc], I.es, I.et, L, n.1, I.hw, I.fx.stay sw, A2.app (HdA.stay I.hA sw) hc, (sw _ _ I.kl I.kw).1, I.kw, HdA.stay I.kA sw⟩
end
section
variable {pS : Addr} {ns : List Int} {P : Program} {w : World} {K : W.Frag} {mg : Str -> Option Value} {base : Heap} {a : Adr}
open K3
def GE : Stmt -> List Stmt
 | .For _ _ b _ _ => b
 | _ => []
noncomputable abbrev yS : List Stmt := GE ((av dU).getD 7 (.Pass ⟨0, 0, 0, 0⟩))
abbrev sig (pS pn : Addr) (bas : Int) (pc pr : Addr) (day : Int) (hd kp : Addr) (x8 x9 x10 x11 x12 x13 : Option V) : L2.St := [some (.ref pS), some (.ref pn), some (.int bas), some (.ref pc), some (.ref pr), some (.int day), some (.ref hd), some (.ref kp), x8, x9, x10, x11, x12, x13]
theorem zB {ta : TA} {g : TG} {tb : TS} {D : fk} {σ : L2.St} {H : Hp} (h : ta σ H fun vs H1 => ∃ i j c : Int, vs = [.int i, .int j, .int c] /\ (0 <= i /\ i < 1000000 /\ -1000000 <= j /\ j < 1000000 /\ 1 <= c /\ c < 1000000) /\ FE (wW i c (rsz i j c)) g tb D σ H1) : xx (Al ta) g tb D σ H := h
def sp_law (K : W.Frag) : Sp := sp1 fun x H Q _ => asR x fun p => NoT H /\ ∃ ns : List Int, SqL K H p (ns.map V.int) /\ ns.length <= 63 /\ Q (.bl true) H
set_option maxHeartbeats 4000000 in
theorem EX (T : Txt K mg a) : bv P w K mg base (XE P w) 13 a.ka a.A0 ["_law_script"] (sp_law K) := by
 refine T.FP.okG Ad (fun vs H Q E h => sp1.len h) (fun cdv A outer s H vs Q E hr h => ?_)
 obtain ⟨x0, rfl, h⟩ := sp1.inv h
 try dsimp only [sp_law, sp1] at h
 have ND := Ad.nd
 have HU := bJ hr
 obtain ⟨pS, rfl, hN, ns, hS, hl, k⟩ := asR.inv h
 have G__law_end_good := @oK P w K mg base a T
 have b__law_end_good := oH T.fL
 have G__law_again_good := @kQ P w K mg base a T
 have b__law_again_good := kh T.d_
 have G__law_made := @ms P w K mg base a T
 have b__law_made := mZ T.fb
 have G__law_cell_at := @pY P w K mg base a T
 have b__law_cell_at := qp T.cN
 have G__law_met_good := @nI P w K mg base a T
 have b__law_met_good := oN T.dI
 have G__law_names_good := @gm P w K mg base a T
 have b__law_names_good := gz T.cB
 have G__law_deed_good := @lY P w K mg base a T
 have b__law_deed_good := lU T.eL
 have G__law_day := @jT P w K mg base a T
 have b__law_day := jM T.c_
 have G_Standing___init__ := @jo P w K mg base a T
 have b_Standing___init__ := jf T.fQ
 have G__law_name_by := @qq P w K mg base a T
 have b__law_name_by := qb T.gh
 have sz := szl
 have c9 : ∃ u, PSs (cS (XE P w) P w K mg base ["_law_script", "_law_names", "_law_base", "_law_both", "_law_orders", "_law_until", "_law_held", "_law_kept", "_law_k", "_law_side", "_law_name", "_law_which", "_law_put_here", "_law_place"] "law" (af dU) a.ka cdv A outer s H (gcE H E)) (List.drop 9 (av dU)) u /\ ∀ (nl : List (List Nat)) (s0 t0 s t : Sde) (pn pc pr hd kp q : Addr) (x : Pt) (hs ks : List V) cts (bas day : Int) H1 x8 x9 x10 x11,
  nl.length = 4 -> (∀ n ∈ nl, nm n = true) -> LI a.aq a.aj H H1 nl s0 t0 hd (fix pn pc pr nl s0 t0) hs cts kp ks cts s t -> PAt H1 q x -> POk x -> ¬ WO s t x.rq -> x.m = bas -> x.nm ∈ nl ->
  u { nx := fun _ H' => ∃ G, Gc H G H' /\ Q .non G, rt := fun v H' => ∃ G, Gc H G H' /\ Q v G } (sig pS pn bas pc pr day hd kp x8 x9 x10 x11 (some (.ref q)) (some (.int x.pl))) H1 := by
  refine ⟨_, (ah (gM (by passes_own) rfl (cw rfl T.cx (FA.pa (aa ac ae))) (aS (i := 9) ND rfl (Or.inl rfl)) (ah (ba (bI (bA (ar G__law_again_good (hr.mono (by decide)) rfl T.lV T.d_.kp b__law_again_good .nil aL (FA.pa (aa (aP (aw K) (fv 3) (fv 9) (fun _ _ => rfl)) (aa (aP (aw K) (fv 4) (fv 9) (fun _ _ => rfl)) (aa (fv 12) (aa (fv 2) (aa (fv 13) ae))))))))) (ao (aC cL)) aJ)
   (ao (ba (bI (bA (ar G__law_end_good (hr.mono (by decide)) rfl T.qe T.fL.kp b__law_end_good .nil aL (FA.pa (aa (aP (aw K) (fv 3) (fv 9) (fun _ _ => rfl)) (aa (aP (aw K) (fv 4) (fv 9) (fun _ _ => rfl)) (aa (fv 1) (aa (fv 5) ae)))))))) (ao (aC cL)) aJ))))
   (ao (aC (dM (bp K HU) (fv 6) (fv 7) (aQ _))))), fun nl s0 t0 s t pn pc pr hd kp q x hs ks cts bas day H1 x8 x9 x10 x11 ln nmn I AP B nw em mn => ?_⟩
  subst em
  refine gf ?_
  walk_at "rd"
  refine dw (lo := 0) (n := 2) (fun i σ' G => ∃ s t x9, LI a.aq a.aj H G nl s0 t0 hd (fix pn pc pr nl s0 t0) hs cts kp ks cts s t /\ PAt G q x /\ ¬ WO s t x.rq /\ σ' = sig pS pn x.m pc pr day hd kp x8 x9 x10 x11 (some (.ref q)) (some (.int x.pl))) ⟨s, t, x9, I, AP, nw, rfl⟩ ?_ ?_
  ·clear I AP nw
   rintro i σ' G hi ⟨s, t, x9, I, AP, nw, rfl⟩
   have fn_ := (I.fx _ (.head _)).1
   have fc := (I.fx _ (.tail _ (.head _))).1
   have fr := (I.fx _ (.tail _ (.tail _ (.head _)))).1
   walk_at "rd"
   obtain ⟨y, eP, eR, Y, off, yU, step⟩ := I.side (i := 0 + (i : Int)) (by omega)
   refine ⟨_, _, .inl (SqL.of fc), eP, _, _, .inl (SqL.of fr), eR, I.ls.nT, y.U, nl, y.d, y.la, y.os, x, Y, AP, B, fun z => nw (yU _ z), rfl, rfl, mn, fun H' U' la' os' g => ?_⟩
   obtain ⟨s', t', I', st⟩ := step H' U' la' os' g
   have AP' := (AP.go Y g fun z => nw (yU _ z)).1
   have nw' := (st _ _ AP.rq nw).2
   have fn' := (I'.fx _ (.head _)).1
   have fc' := (I'.fx _ (.tail _ (.head _))).1
   have fr' := (I'.fx _ (.tail _ (.tail _ (.head _)))).1
   refine ⟨_, _, .inl (SqL.of fc'), eP, _, _, .inl (SqL.of fr'), eR, ?_⟩
   walk_at "rd"
   exact ⟨I'.ls.nT, nl, y.d, la', os', g.st.sd, g.st.dr, by have := g.st.len; omega, ⟨fn', ln, nmn⟩, s', t', _, I', AP', nw', rfl⟩
  ·clear I AP nw
   rintro σ' G ⟨s, t, x9, I, AP, nw, rfl⟩
   walk_at "rd"
   exact ⟨_, B6 I.hl I.kl I.hA I.kA, H, Gc.none I.ls.sm, k⟩
 obtain ⟨u9, hu9, c9⟩ := c9
 have c8 : ∃ u, PSs (cS (XE P w) P w K mg base ["_law_script", "_law_names", "_law_base", "_law_both", "_law_orders", "_law_until", "_law_held", "_law_kept", "_law_k", "_law_side", "_law_name", "_law_which", "_law_put_here", "_law_place"] "law" (af dU) a.ka cdv A outer s H (gcE H E)) (List.drop 8 (av dU)) u /\ ∀ (nl : List (List Nat)) (s0 t0 s t : Sde) (pn pc pr hd kp : Addr) (hs ks : List V) cts (bas day : Int) H1 x8 x9 x10 x11,
  nl.length = 4 -> (∀ n ∈ nl, nm n = true) -> (0 <= bas /\ bas <= 4799) -> LI a.aq a.aj H H1 nl s0 t0 hd (fix pn pc pr nl s0 t0) hs cts kp ks cts s t ->
  u { nx := fun _ H' => ∃ G, Gc H G H' /\ Q .non G, rt := fun v H' => ∃ G, Gc H G H' /\ Q v G } (sig pS pn bas pc pr day hd kp x8 x9 x10 x11 none none) H1 := by
  refine ⟨_, (ah (oa (ar G__law_made (hr.mono (by decide)) rfl T.pi T.fb.kp b__law_made .nil aL (FA.pa (aa (fv 1) (aa (fv 2) (aa ac (aa (ar G__law_cell_at (hr.mono (by decide)) rfl T.ei T.cN.kp b__law_cell_at .nil aL (FA.pa (aa (fv 0) (aa ac ae)))) (aa (ar G__law_cell_at (hr.mono (by decide)) rfl T.ei T.cN.kp b__law_cell_at .nil aL (FA.pa (aa (fv 0) (aa ac ae)))) ae))))))) (uF K (n := 2) rfl (cv (aS (i := 12) ND rfl (Or.inl rfl)) (cv (aS (i := 13) ND rfl (Or.inl rfl)) qC))))
   hu9), fun nl s0 t0 s t pn pc pr hd kp hs ks cts bas day H1 x8 x9 x10 x11 ln nmn hb I => ?_⟩
  have fn_ := (I.fx _ (.head _)).1
  walk_at "rd"
  refine ⟨ns, hS.same I.ls.sm, ns, hS.same I.ls.sm, I.ls.nT, nl, ⟨fn_, ln, nmn⟩, hb, ?_⟩
  rintro H' q tq x s' N' ht AP B em _ mn _ fr
  exact ⟨tq, _, rfl, SqT.of ht, rfl, _, _, rfl, _, _, rfl, rfl, c9 nl s0 t0 s t pn pc pr hd kp q x hs ks cts bas day H' x8 x9 x10 x11 ln nmn (I.same s' N') AP B (I.ls.new fr) em mn⟩
 obtain ⟨u8, hu8, c8⟩ := c8
 have b7 : ∃ u, PSs (cS (XE P w) P w K mg base ["_law_script", "_law_names", "_law_base", "_law_both", "_law_orders", "_law_until", "_law_held", "_law_kept", "_law_k", "_law_side", "_law_name", "_law_which", "_law_put_here", "_law_place"] "law" (af dU) a.ka cdv A outer s H (gcE H E)) (List.drop 7 yS) u /\ ∀ (D : fk) (nl : List (List Nat)) (s0 t0 s t : Sde) (pn pc pr hd kp : Addr) (hs ks : List V) cts ck cn (bas day : Int) G x8 x9 x10 x11, LI a.aq a.aj H G nl s0 t0 hd (fix pn pc pr nl s0 t0) hs cts kp ks ck s t -> cts = ck ++ cn -> hs.length <= 500 ->
  (∀ kp' ks' G', LI a.aq a.aj H G' nl s0 t0 hd (fix pn pc pr nl s0 t0) hs cts kp' ks' cts s t -> D.nx (sig pS pn bas pc pr day hd kp' x8 x9 x10 x11 none none) G') ->
  u D (sig pS pn bas pc pr day hd kp x8 x9 x10 x11 none none) G := by
  refine ⟨_, (ao (aD (i := 7) ND rfl (Or.inl rfl) (ap ud (fv 7) (dE rfl (cl := _) (x := "_law_told_here") (xs := ["_law_told_here"]) (fr := []) (ks := []) (by exact ⟨rfl, by decide +kernel, rfl, by decide +kernel, rfl, dA rfl, rfl, bb rfl, bb (k := fun y => List.lookup y _) rfl, dB rfl⟩) rfl (lG K (d6 (jL K) (fv 6) (dZ (aE (e7 K) rfl T.kb ig (FA.pa (aa (fv 7) ae)))) iV)) (fun _ _ _ _ _ => (aS (i := 0) (iA (l := ["_law_told_here"]) (by decide)) rfl (Or.inl rfl))) (fun _ _ _ _ _ => iX) (fun _ _ _ _ _ => (eY (yj K) rfl T.qP me (FA.pa (aa (fv 0) ae)))))))), fun D nl s0 t0 s t pn pc pr hd kp hs ks cts ck cn bas day G x8 x9 x10 x11 I ec lh k => ?_⟩
  walk_at "rd"
  refine AT ?_
  walk_at "rd"
  refine ⟨_, .inl (SqL.of I.kl), hd, hs, rfl, SqL.of I.hl, fun p1 f1 => ⟨p1, rfl, ⟨_, SqL.of ai⟩, ?_⟩⟩
  rw [wF]
  obtain ⟨G1, ee, m1, g1, N1⟩ := cU (o := HO.lst (hs.drop ks.length)) f1 I.ls.nT rfl
  rw [ee]
  have lk := uB I.kA
  have lhc := uB I.hA
  have ed : cts.drop ks.length = cn := by rw [ec, lk, List.drop_left]
  have hx := A2.dropN I.hA ks.length
  rw [ed] at hx
  refine EZ p1 _ cn N1 g1 (A2.imp' hx fun v ls h => ?_) (by rw [List.length_drop]; omega) (fun q ls G' R e lz r => ?_) (fun D' ys G2 fD m2 N2 gD cA => ?_)
  ·obtain ⟨q, e, e1, e2, _⟩ := h
   exact ⟨q, e, m1 _ _ e1, e2⟩
  ·walk_at "rd"
   exact ⟨_, .inl (SqL.of e), r⟩
  ·have ly := uB cA
   walk_at "rd"
   refine ⟨ks, ys, m2 _ _ (m1 _ _ I.kl), gD, ?_, fun kp' f' => ?_⟩
   ·have : cts.length = ck.length + cn.length := by rw [ec, List.length_append]
    omega
   ·obtain ⟨G3, ee, m3, g3, N3⟩ := cU (o := HO.lst (ks ++ ys)) f' N2 rfl
    rw [ee]
    have I1 := I.same m1 N1
    have nw : ∀ q, G1 q = none -> ¬ WW hd s t q := fun q e z => by
     rcases z with z | z
     ·rw [z, I1.hl] at e; cases e
     ·exact I1.ls.new e z
    have I3 := (I1.same m2 N2).same m3 N3
    refine k kp' _ G3 ⟨I3.es, I3.et, I3.ls, I3.hl, I3.hw, I3.fx, I3.hA, g3, nw _ (m2.free f'), ?_⟩
    rw [ec]
    refine A2.app I3.kA (A2.imp' cA fun v ls h => ?_)
    obtain ⟨q, e, f, e1, e2⟩ := h
    exact ⟨q, e, m3 _ _ e1, e2, nw q f⟩
 obtain ⟨u7, hu7, b7⟩ := b7
 have b6 : ∃ u, PSs (cS (XE P w) P w K mg base ["_law_script", "_law_names", "_law_base", "_law_both", "_law_orders", "_law_until", "_law_held", "_law_kept", "_law_k", "_law_side", "_law_name", "_law_which", "_law_put_here", "_law_place"] "law" (af dU) a.ka cdv A outer s H (gcE H E)) (List.drop 6 yS) u /\ ∀ (D : fk) (nl : List (List Nat)) (s0 t0 s t : Sde) (pn pc pr hd kp : Addr) (hs ks : List V) cts ck cn (bas day sd : Int) (l : List Nat) G x8 x11, (sd = 0 \/ sd = 1) -> H hd = none -> LI a.aq a.aj H G nl s0 t0 hd (fix pn pc pr nl s0 t0) hs cts kp ks ck s t -> cts = ck ++ cn -> hs.length <= 400 ->
  (∀ kp' hs' ks' cts' G', hs'.length <= hs.length + 3 -> LI a.aq a.aj H G' nl s0 t0 hd (fix pn pc pr nl s0 t0) hs' cts' kp' ks' cts' s t -> D.nx (sig pS pn bas pc pr day hd kp' x8 (some (.int sd)) (some (L2.T l)) x11 none none) G') ->
  u D (sig pS pn bas pc pr day hd kp x8 (some (.int sd)) (some (L2.T l)) x11 none none) G := by
  refine ⟨_, (ah (ba (bI (bA (ar G__law_met_good (hr.mono (by decide)) rfl T.i5 T.dI.kp b__law_met_good .nil aL (FA.pa (aa (aP (aw K) (fv 3) (fv 9) (fun _ _ => rfl)) (aa (aP (aw K) (fv 4) (fv 9) (fun _ _ => rfl)) (aa (fv 10) (aa (fv 5) (aa (fv 6) ae))))))))) (ao (aC cL)) aJ)
   hu7), fun D nl s0 t0 s t pn pc pr hd kp hs ks cts ck cn bas day sd l G x8 x11 hi h0 I ec lh k => ?_⟩
  obtain ⟨y, eP, eR, Y, off, yU, step⟩ := I.side hi
  have fc := (I.fx _ (.tail _ (.head _))).1
  have fr := (I.fx _ (.tail _ (.tail _ (.head _)))).1
  walk_at "rd"
  refine ⟨_, _, .inl (SqL.of fc), eP, _, _, .inl (SqL.of fr), eR, ?_⟩
  walk_at "rd"
  refine ⟨I.ls.nT, y.d, y.la, y.os, hs, Y.sd, I.hl, by omega, off, fun H' es n le => ?_⟩
  obtain ⟨cts', cn', ec', I'⟩ := I.held ec h0 n
  have lq : (hs ++ es).length <= hs.length + 3 := by rw [List.length_append]; omega
  exact b7 D nl s0 t0 s t pn pc pr hd kp (hs ++ es) ks cts' ck cn' bas day H' x8 _ _ x11 I' ec' (by omega) fun kp' ks' G' I'' => k kp' _ ks' _ G' lq I''
 obtain ⟨u6, hu6, b6⟩ := b6
 have b5 : ∃ u, PSs (cS (XE P w) P w K mg base ["_law_script", "_law_names", "_law_base", "_law_both", "_law_orders", "_law_until", "_law_held", "_law_kept", "_law_k", "_law_side", "_law_name", "_law_which", "_law_put_here", "_law_place"] "law" (af dU) a.ka cdv A outer s H (gcE H E)) (List.drop 5 yS) u /\ ∀ (D : fk) (nl : List (List Nat)) (s0 t0 s t : Sde) (pn pc pr hd kp : Addr) (hs ks : List V) cts ck cn (bas day kx sd : Int) (l : List Nat) G x11, (0 <= kx /\ kx + 3 < ns.length) -> (sd = 0 \/ sd = 1) -> H hd = none -> LI a.aq a.aj H G nl s0 t0 hd (fix pn pc pr nl s0 t0) hs cts kp ks ck s t -> cts = ck ++ cn -> hs.length <= 300 ->
  (∀ kp' hs' ks' cts' x11' G', hs'.length <= hs.length + 5 -> LI a.aq a.aj H G' nl s0 t0 hd (fix pn pc pr nl s0 t0) hs' cts' kp' ks' cts' s t -> D.nx (sig pS pn bas pc pr day hd kp' (some (.int kx)) (some (.int sd)) (some (L2.T l)) x11' none none) G') ->
  u D (sig pS pn bas pc pr day hd kp (some (.int kx)) (some (.int sd)) (some (L2.T l)) x11 none none) G := by
  refine ⟨_, (ah (gM (by passes_own) rfl (cw rfl T.cx (FA.pa (aa ac ae))) (aS (i := 11) ND rfl (Or.inl rfl)) (ao (ba (L2.PW.pt (rR (aU (bp K HU) (ap aW (aP (aw K) (fv 0) (ap aO (fv 8) ac) (fun _ _ => rfl)) ac) ac (aQ _)) (m_ (bI (bA (ar G__law_names_good (hr.mono (by decide)) rfl T.gT T.cB.kp b__law_names_good .nil aL (FA.pa (aa (aP (aw K) (fv 3) (fv 11) (fun _ _ => rfl)) (aa (aP (aw K) (fv 4) (fv 11) (fun _ _ => rfl)) (aa (fv 6) ae)))))))))) (ao (aC cL)) aJ)))
   hu6), fun D nl s0 t0 s t pn pc pr hd kp hs ks cts ck cn bas day kx sd l G x11 hk hi h0 I ec lh k => ?_⟩
  walk_at "rd"
  refine gf ?_
  walk_at "rd"
  refine dw (lo := 0) (n := 2) (fun i σ' G' => ∃ hs' cts' cn' x11', hs'.length <= hs.length + i /\ cts' = ck ++ cn' /\ LI a.aq a.aj H G' nl s0 t0 hd (fix pn pc pr nl s0 t0) hs' cts' kp ks ck s t /\ σ' = sig pS pn bas pc pr day hd kp (some (.int kx)) (some (.int sd)) (some (L2.T l)) x11' none none) ⟨hs, cts, cn, x11, Nat.le_refl _, ec, I, rfl⟩ ?_ ?_
  ·clear I ec
   rintro i σ' G' hi' ⟨hs', cts', cn', x11', lh', ec, I, rfl⟩
   obtain ⟨y, eP, eR, Y, off, yU, step⟩ := I.side (i := 0 + (i : Int)) (by omega)
   have fc := (I.fx _ (.tail _ (.head _))).1
   have fr := (I.fx _ (.tail _ (.tail _ (.head _)))).1
   walk_at "rd"
   refine ⟨_, _, .inl (hS.same I.ls.sm), kX (j := kx + 3) (by omega) (by omega), ?_⟩
   generalize ns.getD (kx + 3).toNat 0 = v3
   walk_at "rd"
   by_cases ht : v3 % 3 = 0
   ·refine itp ht ⟨_, _, .inl (SqL.of fc), eP, _, _, .inl (SqL.of fr), eR, ?_⟩
    walk_at "rd"
    refine ⟨I.ls.nT, y.d, y.la, y.os, hs', Y.sd, I.hl, by omega, fun H' es n le => ?_⟩
    obtain ⟨c2, cn2, ec2, I2⟩ := I.held ec h0 n
    exact ⟨hs' ++ es, c2, cn2, _, by rw [List.length_append]; omega, ec2, I2, rfl⟩
   ·exact itn ht ⟨hs', cts', cn', _, by omega, ec, I, rfl⟩
  ·rintro σ' G' ⟨hs', cts', cn', x11', lh', ec', I', rfl⟩
   exact b6 D nl s0 t0 s t pn pc pr hd kp hs' ks cts' ck cn' bas day sd l G' _ x11' hi h0 I' ec' (by omega) fun kp' hs2 ks' cts2 G2 l2 I2 => k kp' hs2 ks' cts2 x11' G2 (by omega) I2
 obtain ⟨u5, hu5, b5⟩ := b5
 have b0 : ∃ u, PSs (cS (XE P w) P w K mg base ["_law_script", "_law_names", "_law_base", "_law_both", "_law_orders", "_law_until", "_law_held", "_law_kept", "_law_k", "_law_side", "_law_name", "_law_which", "_law_put_here", "_law_place"] "law" (af dU) a.ka cdv A outer s H (gcE H E)) yS u /\ ∀ (D : fk) (nl : List (List Nat)) (s0 t0 s t : Sde) (pn pc pr hd kp : Addr) (hs ks : List V) cts (bas day kx : Int) G x9 x10 x11, nl.length = 4 -> (∀ n ∈ nl, nm n = true) -> (0 <= bas /\ bas <= 4799) -> (0 <= kx /\ kx + 3 < ns.length) -> H hd = none -> LI a.aq a.aj H G nl s0 t0 hd (fix pn pc pr nl s0 t0) hs cts kp ks cts s t -> hs.length <= 200 ->
  (∀ kp' hs' ks' cts' s' t' day' x9' x10' x11' G', hs'.length <= hs.length + 8 -> LI a.aq a.aj H G' nl s0 t0 hd (fix pn pc pr nl s0 t0) hs' cts' kp' ks' cts' s' t' -> D.nx (sig pS pn bas pc pr day' hd kp' (some (.int kx)) x9' x10' x11' none none) G') ->
  u D (sig pS pn bas pc pr day hd kp (some (.int kx)) x9 x10 x11 none none) G := by
  refine ⟨_, (ah (aD (i := 9) ND rfl (Or.inl rfl) (ap aW (aP (aw K) (fv 0) (fv 8) (fun _ _ => rfl)) ac))
   (ah (aD (i := 10) ND rfl (Or.inl rfl) (aP (aw K) (fv 1) (ap aW (ap aY (aP (aw K) (fv 0) (fv 8) (fun _ _ => rfl)) ac) ac) (fun _ _ => rfl)))
   (ah (aD (i := 5) ND rfl (Or.inl rfl) (ar G__law_day (hr.mono (by decide)) rfl T.iR T.c_.kp b__law_day .nil aL (FA.pa (aa (aE (nQ rfl) rfl T.qL kK (FA.pa (aa ac (aa (ap aO (fv 2) (ap aW (ap aY (aP (aw K) (fv 0) (ap aO (fv 8) ac) (fun _ _ => rfl)) ac) ac)) ae)))) (aa (ap aO ac (ap aW (aP (aw K) (fv 0) (ap aO (fv 8) ac) (fun _ _ => rfl)) ac)) ae)))))
   (ah (ba (bI (bA (ar G__law_deed_good (hr.mono (by decide)) rfl T.oJ T.eL.kp b__law_deed_good .nil aL (FA.pa (aa (aP (aw K) (fv 3) (fv 9) (fun _ _ => rfl)) (aa (aP (aw K) (fv 4) (fv 9) (fun _ _ => rfl)) (aa (fv 1) (aa (d6 (jL K) (fv 0) (dZ (fv 8)) (dZ (ap aO (fv 8) ac))) (aa (fv 2) ae))))))))) (ao (aC cL)) aJ)
   (ah (ba (bI (bA (ar G__law_met_good (hr.mono (by decide)) rfl T.i5 T.dI.kp b__law_met_good .nil aL (FA.pa (aa (aP (aw K) (fv 3) (fv 9) (fun _ _ => rfl)) (aa (aP (aw K) (fv 4) (fv 9) (fun _ _ => rfl)) (aa (fv 10) (aa (fv 5) (aa (fv 6) ae))))))))) (ao (aC cL)) aJ)
   hu5))))), fun D nl s0 t0 s t pn pc pr hd kp hs ks cts bas day kx G x9 x10 x11 ln nmn hb hk h0 I lh k => ?_⟩
  have hS1 := hS.same I.ls.sm
  have e0 := kX (ns := ns) hk.1 (by omega)
  have e1 := kX (ns := ns) (j := kx + 1) (by omega) (by omega)
  have e2 := kX (ns := ns) (j := kx + 2) (by omega) (by omega)
  have ct := GJ hk.1 hk.2
  generalize ns.getD kx.toNat 0 = v0 at e0 ct
  generalize ns.getD (kx + 1).toNat 0 = v1 at e1 ct
  generalize ns.getD (kx + 2).toNat 0 = v2 at e2 ct
  generalize ns.getD (kx + 3).toNat 0 = v3 at ct
  have fn_ := (I.fx _ (.head _)).1
  have hn : Nms G pn nl := ⟨fn_, ln, nmn⟩
  obtain ⟨l, ml, _, al⟩ := hn.at (i := v0 / 16 % 4) (by omega) (by omega)
  walk_at "rd"
  refine ⟨_, _, .inl hS1, e0, ?_⟩
  walk_at "rd"
  refine ⟨_, _, .inl hS1, e0, ?_⟩
  walk_at "rd"
  refine ⟨_, _, .inl (SqL.of fn_), al, _, _, .inl hS1, e1, ?_⟩
  walk_at "rd"
  obtain ⟨mo, em, hm⟩ : ∃ mo, (if bas + v1 / 30 % 60 < 4799 then bas + v1 / 30 % 60 else 4799) = mo /\ 0 <= mo /\ mo <= 4799 := ⟨_, rfl, by split <;> omega, by split <;> omega⟩
  rw [em]
  refine ⟨_, _, .inl hS1, e2, ?_⟩
  walk_at "rd"
  refine ⟨I.ls.nT, ⟨by omega, by omega⟩, ?_⟩
  generalize dy mo (1 + v2 % 31) = day'
  obtain ⟨y, eP, eR, Y, off, yU, step⟩ := I.side (i := v0 % 2) (by omega)
  have fc := (I.fx _ (.tail _ (.head _))).1
  have fr := (I.fx _ (.tail _ (.tail _ (.head _)))).1
  refine ⟨_, _, .inl (SqL.of fc), eP, _, _, .inl (SqL.of fr), eR, ?_⟩
  walk_at "rd"
  refine ⟨pS, _, rfl, hS1, fun cq fq => ?_⟩
  rw [ct]
  obtain ⟨Gq, ee, mq, gq, Nq⟩ := cU (o := HO.lst [V.int v0, V.int v1, V.int v2, V.int v3]) fq I.ls.nT rfl
  rw [ee]
  refine ⟨Nq, y.U, nl, y.d, y.la, y.os, v0, v1, v2, v3, Y.same mq, hn.same mq, gq, hb, fun H' U' la' os' g => ?_⟩
  obtain ⟨s', t', I', _⟩ := step H' U' la' os' ((Go.same Y mq Nq).trans g)
  obtain ⟨y', eP', eR', Y', off', _, _⟩ := I'.side (i := v0 % 2) (by omega)
  have fc' := (I'.fx _ (.tail _ (.head _))).1
  have fr' := (I'.fx _ (.tail _ (.tail _ (.head _)))).1
  refine ⟨_, _, .inl (SqL.of fc'), eP', _, _, .inl (SqL.of fr'), eR', ?_⟩
  walk_at "rd"
  refine ⟨I'.ls.nT, y'.d, y'.la, y'.os, hs, Y'.sd, I'.hl, by omega, off', fun H2 es n le => ?_⟩
  obtain ⟨c2, cn2, ec2, I2⟩ := I'.held (cn := []) (by rw [List.append_nil]) h0 n
  exact b5 D nl s0 t0 s' t' pn pc pr hd kp (hs ++ es) ks c2 cts cn2 bas day' kx (v0 % 2) l H2 _ hk (by omega) h0 I2 ec2 (by rw [List.length_append]; omega) fun kp' hs' ks' cts' x11' G' lh' I'' => k kp' hs' ks' cts' s' t' _ _ _ _ G' (by rw [List.length_append] at lh'; omega) I''
 obtain ⟨ub, hub, b0⟩ := b0
 have c7 : ∃ u, PSs (cS (XE P w) P w K mg base ["_law_script", "_law_names", "_law_base", "_law_both", "_law_orders", "_law_until", "_law_held", "_law_kept", "_law_k", "_law_side", "_law_name", "_law_which", "_law_put_here", "_law_place"] "law" (af dU) a.ka cdv A outer s H (gcE H E)) (List.drop 7 (av dU)) u /\ ∀ (nl : List (List Nat)) (s0 t0 s1 t1 : Sde) (pn pc pr hd kp : Addr) (bas day : Int) G, nl.length = 4 -> (∀ n ∈ nl, nm n = true) -> (0 <= bas /\ bas <= 4799) -> H hd = none -> LI a.aq a.aj H G nl s0 t0 hd (fix pn pc pr nl s0 t0) [] [] kp [] [] s1 t1 ->
  u { nx := fun _ H' => ∃ G, Gc H G H' /\ Q .non G, rt := fun v H' => ∃ G, Gc H G H' /\ Q v G } (sig pS pn bas pc pr day hd kp none none none none none none) G := by
  refine ⟨_, (ah (gM (by passes_own) rfl (xl rfl T.cx (FA.pa (aa ac (aa (ap gv (aE (e7 K) rfl T.kb ig (FA.pa (aa (fv 0) ae))) ac) (aa ac ae))))) (aS (i := 8) ND rfl (Or.inl rfl)) hub)
   hu8), fun nl s0 t0 s1 t1 pn pc pr hd kp bas day G ln nmn hb h0 I => ?_⟩
  walk_at "rd"
  refine zB ?_
  walk_at "rd"
  refine ⟨_, .inl (hS.same I.ls.sm), ?_⟩
  rw [List.length_map]
  generalize hj : (ns.length : Int) - 3 = j
  refine ⟨2, j, 4, ⟨rfl, rfl, rfl⟩, ⟨by decide, by decide, by omega, by omega, by decide, by decide⟩, ?_⟩
  have hr : rsz 2 j 4 <= 15 /\ ∀ i : Nat, i < rsz 2 j 4 -> 2 + (i : Int) * 4 + 3 < ns.length := by
   unfold rsz
   split
   ·refine ⟨by omega, fun i hi => by omega⟩
   ·exact ⟨by omega, fun i hi => by omega⟩
  generalize rsz 2 j 4 = n at hr ⊢
  refine xC (lo := 2) (c := 4) (n := n) (fun i σ' G' => ∃ s t hs ks cts kp day x8 x9 x10 x11, LI a.aq a.aj H G' nl s0 t0 hd (fix pn pc pr nl s0 t0) hs cts kp ks cts s t /\ hs.length <= 8 * i /\ σ' = sig pS pn bas pc pr day hd kp x8 x9 x10 x11 none none) ⟨s1, t1, [], [], [], kp, day, none, none, none, none, I, Nat.zero_le _, rfl⟩ ?_ ?_
  ·clear I
   rintro i σ' G' hi ⟨s, t, hs, ks, cts, kp, day, x8, x9, x10, x11, I, lh, rfl⟩
   have := hr.2 i hi
   exact b0 _ nl s0 t0 s t pn pc pr hd kp hs ks cts bas day (2 + (i : Int) * 4) G' x9 x10 x11 ln nmn hb ⟨by omega, by omega⟩ h0 I (by omega) fun kp' hs' ks' cts' s' t' day' x9' x10' x11' G' lh' I' => ⟨s', t', hs', ks', cts', kp', _, _, _, _, _, I', by omega, rfl⟩
  ·clear I
   rintro σ' G' ⟨s, t, hs, ks, cts, kp, day, x8, x9, x10, x11, I, lh, rfl⟩
   exact c8 nl s0 t0 s t pn pc pr hd kp hs ks cts bas day G' x8 x9 x10 x11 ln nmn hb I
 obtain ⟨u7', hu7', c7⟩ := c7
 refine ⟨hN, _, (ah (rT (i0 := 1) ND rfl (Or.inl rfl) rfl (cl := _) (x := "_law_k") (xs := ["_law_k"]) (fr := ["_law_script"]) (ks := [0]) (by exact ⟨rfl, by decide +kernel, rfl, by decide +kernel, rfl, dA rfl, rfl, bb rfl, bb (k := fun y => List.lookup y _) rfl, dB rfl⟩) rfl (cw rfl T.cx (FA.pa (aa ac ae))) (fun _ _ _ _ _ => (aS (i := 0) (iA (l := ["_law_k", "_law_script"]) (by decide)) rfl (Or.inl rfl))) (fun _ _ _ _ _ => iX) (fun _ _ _ _ _ => (ar G__law_name_by (hr.mono (by decide)) rfl T.qI T.gh.kp b__law_name_by .nil lK (FA.pa (aa (ar G__law_cell_at (hr.mono (by decide)) rfl T.ei T.cN.kp b__law_cell_at .nil lK (FA.pa (aa (fv 1) (aa ac ae)))) (aa (fv 0) ae))))))
  (ah (aD (i := 2) ND rfl (Or.inl rfl) (ap aW (ar G__law_cell_at (hr.mono (by decide)) rfl T.ei T.cN.kp b__law_cell_at .nil aL (FA.pa (aa (fv 0) (aa ac ae)))) ac))
  (ah (aD (i := 3) ND rfl (Or.inl rfl) (cj (FA.pa (aa (sT T.ph G_Standing___init__ (hr.mono (by decide)) rfl T.q_ b_Standing___init__ .nil aL) (aa (sT T.ph G_Standing___init__ (hr.mono (by decide)) rfl T.q_ b_Standing___init__ .nil aL) ae)))))
  (ah (aD (i := 4) ND rfl (Or.inl rfl) (cj (FA.pa (aa uD (aa uD ae)))))
  (ah (aD (i := 5) ND rfl (Or.inl rfl) (ar G__law_day (hr.mono (by decide)) rfl T.iR T.c_.kp b__law_day .nil aL (FA.pa (aa (fv 2) (aa ac ae)))))
  (ah (aD (i := 6) ND rfl (Or.inl rfl) (cj (FA.pa ae)))
  (ah (aD (i := 7) ND rfl (Or.inl rfl) (cj (FA.pa ae)))
  hu7'))))))), ?_⟩
 walk_at "rd"
 generalize hce : ns.getD (Int.toNat 0) 0 = ce
 refine cmR (fun H' => NoT H' /\ Same H H') (fun D ys hD => ⟨aA hN rfl, ak _ hD⟩) 4 (fun _ => true) (fun j : Nat => L2.T (NB ce j)) (fun R r => ?_) (by omega) (fun j hj H' R c r => r) (fun j hj _ H' R c r => ?_) (fun pn fpn => ?_)
 ·walk_at "rd"
  exact r
 ·walk_at "rd"
  exact ⟨ns, hS.same c.2, c.1, by omega, by rw [hce]; exact r⟩
 obtain ⟨H1, ee, m1, g1, N1⟩ := cU (o := HO.lst (List.map (fun j : Nat => L2.T (NB ce j)) (List.filter (fun _ => true) (List.range 4)))) fpn hN rfl
 rw [ee]
 refine ⟨ns, hS.same m1, ?_⟩
 intro p0 dx0 hp0 hdx0 ne0
 refine ⟨aA (aA N1 rfl) rfl, _, ai, fun d0 G0 hd0 J0 K0 M0 => ?_⟩
 intro p1 dx1 hp1 hdx1 ne1
 refine ⟨aA (aA M0 rfl) rfl, _, ai, fun d1 G1 hd1 J1 K1 M1 => ⟨by omega, fun pc fpc => ?_⟩⟩
 have q0 : Same H1 G0 := fun c z e => oS hp0 hdx0 K0 c z e List.not_mem_nil
 have q1 : Same G0 G1 := fun c z e => oS hp1 hdx1 K1 c z e List.not_mem_nil
 have fd0 := oC hd0
 have fd1 := oC hd1
 obtain ⟨A1, ee, b1, c1, NA1⟩ := cU (o := HO.lst [V.ref p0, V.ref p1]) fpc M1 rfl
 rw [ee]
 intro r0 fr0
 obtain ⟨A2, ee, b2, c2, NA2⟩ := cU (o := HO.dK []) fr0 NA1 rfl
 rw [ee]
 intro r1 fr1
 obtain ⟨A3, ee, b3, c3, NA3⟩ := cU (o := HO.dK []) fr1 NA2 rfl
 rw [ee]
 refine ⟨by omega, fun pr fpr => ?_⟩
 obtain ⟨A4, ee, b4, c4, NA4⟩ := cU (o := HO.lst [V.ref r0, V.ref r1]) fpr NA3 rfl
 rw [ee]
 generalize hbe : ns.getD (Int.toNat 1) 0 % 4800 = bas
 have hb : 0 <= bas /\ bas <= 4799 := by omega
 refine ⟨NA4, ⟨hb.1, by omega⟩, Nat.zero_le _, fun hd fhd => ?_⟩
 obtain ⟨A5, ee, b5', c5, NA5⟩ := cU (o := HO.lst []) fhd NA4 rfl
 rw [ee]
 refine ⟨Nat.zero_le _, fun kp fkp => ?_⟩
 obtain ⟨A6, ee, b6', c6, NA6⟩ := cU (o := HO.lst []) fkp NA5 rfl
 rw [ee]
 have t4 := (b1.trans b2).trans (b3.trans b4)
 have tG := (m1.trans q0).trans q1
 have JA := J0.same (q1.trans t4)
 have JB := J1.same t4
 obtain ⟨ex, zp0⟩ := JA.ob
 obtain ⟨ey, zp1⟩ := JB.ob
 have zr0 : A4 r0 = some (.dK []) := b4 _ _ (b3 _ _ c2)
 have zr1 : A4 r1 = some (.dK []) := b4 _ _ c3
 have mk : ∀ {p d r : Addr} {dx : Addr}, SAt a.aq a.aj A4 p d [] -> A4 p = some (.ins a.aq dx [("by_name", .ref d)]) -> A4 r = some (.dK []) -> d ≠ r -> St a.aq a.aj A4 (fun y => y = p \/ y = d \/ y = r) ((List.range 4).map fun j : Nat => NB ce j) p d r (fun _ => ⟨0, 0, 0, 0, 0⟩) [] := fun j e1 e2 dr => by
  refine ⟨⟨⟨j, .inl e2, fun _ m => (nomatch m), fun _ m => (nomatch m), by decide⟩, e2, fun _ m => nomatch m⟩, fun y h => ?_, fun y h => ?_, fun _ m => (nomatch m), by simp, dr, fun _ m => nomatch m⟩
  ·rcases h with h | h | h | ⟨_, m, _⟩
   ·exact .inl h
   ·exact .inr (.inl h)
   ·exact .inr (.inr h)
   ·cases m
  ·rcases h with rfl | rfl | rfl
   ·exact ⟨_, e1, fun _ z => nomatch z⟩
   ·exact ⟨_, j.dc, fun _ z => nomatch z⟩
   ·exact ⟨_, e2, fun _ z => nomatch z⟩
 have n_p0p1 : p0 ≠ p1 := by obtain ⟨_, e⟩ := J0.ob; exact au e hp1
 have n_d0d1 : d0 ≠ d1 := au J0.dc fd1
 have n_d0r0 : d0 ≠ r0 := au (b1 _ _ (q1 _ _ J0.dc)) fr0
 have n_d0r1 : d0 ≠ r1 := au (b2 _ _ (b1 _ _ (q1 _ _ J0.dc))) fr1
 have n_d1r0 : d1 ≠ r0 := au (b1 _ _ J1.dc) fr0
 have n_d1r1 : d1 ≠ r1 := au (b2 _ _ (b1 _ _ J1.dc)) fr1
 have n_r0r1 : r0 ≠ r1 := au c2 fr1
 have kd : ∀ {x y : Addr} {dx : Addr} {fs : List (Str × V)} {kv : List (Key × V)}, A4 x = some (.ins a.aq dx fs) -> A4 y = some (.dK kv) -> x ≠ y := fun e g => bN e g
 have L : LS a.aq a.aj H A4 ((List.range 4).map fun j : Nat => NB ce j) ⟨p0, d0, r0, fun y => y = p0 \/ y = d0 \/ y = r0, fun _ => ⟨0, 0, 0, 0, 0⟩, []⟩ ⟨p1, d1, r1, fun y => y = p1 \/ y = d1 \/ y = r1, fun _ => ⟨0, 0, 0, 0, 0⟩, []⟩ := by
  refine ⟨tG.trans t4, NA4, mk JA zp0 zr0 n_d0r0, mk JB zp1 zr1 n_d1r1, fun x hx hy => ?_, fun x hx => ?_⟩
  ·rcases hx with rfl | rfl | rfl
   ·rcases hy with z | z | z
    ·exact n_p0p1 z
    ·exact kd zp0 JB.dc z
    ·exact kd zp0 zr1 z
   ·rcases hy with z | z | z
    ·exact kd zp1 JA.dc z.symm
    ·exact n_d0d1 z
    ·exact n_d0r1 z
   ·rcases hy with z | z | z
    ·exact kd zp1 zr0 z.symm
    ·exact n_d1r0 z.symm
    ·exact n_r0r1 z
  ·rcases hx with (rfl | rfl | rfl) | (rfl | rfl | rfl)
   ·exact m1.free hp0
   ·exact m1.free fd0
   ·exact (tG.trans b1).free fr0
   ·exact (m1.trans q0).free hp1
   ·exact (m1.trans q0).free fd1
   ·exact ((tG.trans b1).trans b2).free fr1
 have wk : ∀ {q : Addr} {l : List V}, A4 q = some (.lst l) -> ¬ WO ⟨p0, d0, r0, fun y => y = p0 \/ y = d0 \/ y = r0, fun _ => ⟨0, 0, 0, 0, 0⟩, []⟩ ⟨p1, d1, r1, fun y => y = p1 \/ y = d1 \/ y = r1, fun _ => ⟨0, 0, 0, 0, 0⟩, []⟩ q := fun e z => by
  rcases z with (rfl | rfl | rfl) | (rfl | rfl | rfl)
  ·rw [zp0] at e; cases e
  ·rw [JA.dc] at e; cases e
  ·rw [zr0] at e; cases e
  ·rw [zp1] at e; cases e
  ·rw [JB.dc] at e; cases e
  ·rw [zr1] at e; cases e
 have t56 := b5'.trans b6'
 have fin : ∀ {q : Addr} {l : List V}, A4 q = some (.lst l) -> A6 q = some (.lst l) /\ ¬ WW hd ⟨p0, d0, r0, fun y => y = p0 \/ y = d0 \/ y = r0, fun _ => ⟨0, 0, 0, 0, 0⟩, []⟩ ⟨p1, d1, r1, fun y => y = p1 \/ y = d1 \/ y = r1, fun _ => ⟨0, 0, 0, 0, 0⟩, []⟩ q := fun e => ⟨t56 _ _ e, fun z => z.elim (fun z => au e fhd z) (wk e)⟩
 refine c7 ((List.range 4).map fun j : Nat => NB ce j) ⟨p0, d0, r0, fun y => y = p0 \/ y = d0 \/ y = r0, fun _ => ⟨0, 0, 0, 0, 0⟩, []⟩ ⟨p1, d1, r1, fun y => y = p1 \/ y = d1 \/ y = r1, fun _ => ⟨0, 0, 0, 0, 0⟩, []⟩ _ _ pn pc pr hd kp bas _ A6 (by simp) (fun n hn => ?_) hb ((tG.trans t4).free fhd) ⟨SameA.refl _, SameA.refl _, L.same t56 NA6, b6' _ _ c5, L.new fhd, fun e he => ?_, .nil, c6, fun z => ?_, .nil⟩
 ·obtain ⟨j, hj, rfl⟩ := List.mem_map.mp hn
  have := List.mem_range.mp hj
  exact Ge (by omega) (by omega)
 ·have f1 : List.filter (fun _ : Nat => true) (List.range 4) = List.range 4 := by decide
  simp only [List.mem_cons, List.not_mem_nil, or_false] at he
  rcases he with rfl | rfl | rfl
  ·refine fin (((q0.trans q1).trans t4) _ _ ?_)
   rw [g1, f1, List.map_map]; rfl
  ·exact fin ((b2.trans (b3.trans b4)) _ _ c1)
  ·exact fin c4
 ·rcases z with z | z
  ·exact au c5 fkp z.symm
  ·exact (L.same b5' NA5).new fkp z
theorem law_starts {H : Hp} {p : Addr} (hO : zM H) (hS : SqL K H p (ns.map V.int)) (hl : ns.length <= 63) : sp_law K [.ref p] H (fun v _ => v = .bl true) fun _ _ _ => False := ⟨AI hO, ns, hS, hl, rfl⟩
end
noncomputable abbrev fnQ (x q : String) (s : Stmt) (kV dc pm : Value) (an : Option Addr) (cd ct : Value) : FuncData := PySem.W.fnOf x q (aF s) (av s) (af s) .none kV dc pm an cd ct
noncomputable def NFn (K : W.Frag) (x : Str) (st : Stmt) (f : Addr) : Prop := PySem.W.nsIn K mainGlobals x = some (some (.ref f)) /\ ∃ d, Fun K x x st f d
noncomputable def MFn (K : W.Frag) (C : Addr) (m q : Str) (st : Stmt) (f : Addr) : Prop := (PySem.W.findIn K (.ref C) m = some (some (.ref f)) /\ PySem.W.isFn K (.ref f) = true) /\ ∃ d, Fun K m q st f d
noncomputable abbrev Fy (x q : Str) (s : Stmt) (kV dc pm : Value) (an : Option Addr) (cd ct : Value) : FuncData := PySem.W.fnOf x q (aF s) (av s) (af s) .none kV dc pm an cd ct
theorem nf_mk {K : W.Frag} {qual : Str} {st : Stmt} {f : Addr} {oc : Value} {od an : Option Addr} {osl : Array (Option Value)} {kV doc pm cdv ct : Value} (a : PySem.W.nsIn K mainGlobals qual = some (some (.ref f))) (l : K.lookup f = some ⟨oc, od, .func (Fy qual qual st kV doc pm an cdv ct), osl⟩) (c : PySem.W.codeIn K cdv qual = true) (k : PySem.W.keepIn K (.ref f) = true) : NFn K qual st f := ⟨a, _, xy l c k⟩
theorem mf_mk {K : W.Frag} {x qual : Str} {st : Stmt} {f C : Addr} {oc : Value} {od an : Option Addr} {osl : Array (Option Value)} {kV doc pm cdv ct : Value} (a : PySem.W.findIn K (.ref C) x = some (some (.ref f))) (i : PySem.W.isFn K (.ref f) = true) (l : K.lookup f = some ⟨oc, od, .func (Fy x qual st kV doc pm an cdv ct), osl⟩) (c : PySem.W.codeIn K cdv qual = true) (k : PySem.W.keepIn K (.ref f) = true) : MFn K C x qual st f := ⟨⟨a, i⟩, _, xy l c k⟩
open PySem.W in
theorem all_mk {l : OpenLaw} {w : World} {K : Frag} {h : Heap} {mg : Str -> Option Value} {fa : Addr} (X : K.In h) (G : h.Ns mainGlobals mg) (hfa : mg "law" = some (.ref fa))
 {C0 C1 C2 C3 C4 C5 C6 C7 C8 C9 : Addr}
 {f0 f1 f2 f3 f4 f5 f6 f7 f8 f9 f10 f11 f12 f13 f14 f15 f16 f17 f18 f19 f20 f21 f22 f23 f24 f25 f26 f27 f28 f29 f30 f31 f32 f33 f34 f35 f36 f37 f38 f39 f40 f41 f42 f43 f44 f45 f46 f47 f48 f49 : Addr} {od an : Option Addr} {sl : Array (Option Value)} {oc kV dc pm cd ct : Value}
 {cl0 : ClassData}
 {cl1 : ClassData}
 {cl2 : ClassData}
 {cl3 : ClassData}
 {cl4 : ClassData}
 {cl5 : ClassData}
 {cl6 : ClassData}
 {cl7 : ClassData}
 {D0 : Addr} {dd0 : Option Addr} {dsl0 : Array (Option Value)} {dn0 : Nat} {tk0 tk1 tk2 tk3 tk4 tk5 tk6 tk7 tk8 tk9 tk10 tk11 : Tok}
 (p0 : nsIn K mainGlobals "HouseError" = some (some (.ref C0)))
 (p1 : nsIn K mainGlobals "BadName" = some (some (.ref C1)))
 (p2 : nsIn K mainGlobals "BadNote" = some (some (.ref C2)))
 (p3 : nsIn K mainGlobals "BadDay" = some (some (.ref C3)))
 (p4 : nsIn K mainGlobals "BadCount" = some (some (.ref C4)))
 (p5 : nsIn K mainGlobals "Twice" = some (some (.ref C5)))
 (p6 : nsIn K mainGlobals "BadRow" = some (some (.ref C6)))
 (p7 : nsIn K mainGlobals "NoOrder" = some (some (.ref C7)))
 (p8 : nsIn K mainGlobals "StandingOrder" = some (some (.ref C8)))
 (p9 : nsIn K mainGlobals "Standing" = some (some (.ref C9)))
 (l0 : NFn K "is_whole" dN f0)
 (l1 : NFn K "is_among" dS f1)
 (l2 : NFn K "signs_lie" cY f2)
 (l3 : NFn K "is_name" eO f3)
 (l4 : NFn K "is_note" eB f4)
 (l5 : NFn K "is_amount" dq f5)
 (l6 : NFn K "is_currency" cJ f6)
 (l7 : NFn K "is_row" f_ f7)
 (l8 : NFn K "need_form" di f8)
 (l9 : NFn K "is_day" gF f9)
 (l10 : NFn K "is_month" dO f10)
 (l11 : NFn K "leap_days" dk f11)
 (l12 : NFn K "first_day" df f12)
 (l13 : NFn K "last_day" dP f13)
 (l14 : NFn K "month_of" dR f14)
 (l15 : NFn K "stepped" eu f15)
 (l16 : NFn K "days_from" de f16)
 (l17 : NFn K "_law_cell_at" cg f17)
 (l18 : NFn K "_law_name_by" cc f18)
 (l19 : NFn K "_law_long" cX f19)
 (l20 : NFn K "_law_day" dQ f20)
 (l21 : NFn K "_law_left" cz f21)
 (l22 : NFn K "_law_word" cP f22)
 (l23 : NFn K "_law_note" dg f23)
 (l24 : NFn K "_law_rows" da f24)
 (l25 : NFn K "_law_spoilt" aM f25)
 (l26 : NFn K "_law_told" db f26)
 (l27 : NFn K "_law_names_good" bG f27)
 (l28 : NFn K "_law_way_good" bX f28)
 (l29 : NFn K "_law_one_good" bW f29)
 (l30 : NFn K "_law_put" cf f30)
 (l31 : NFn K "_law_odd_good" bw f31)
 (l32 : NFn K "_law_other_good" aV f32)
 (l33 : NFn K "_law_made" cZ f33)
 (l34 : NFn K "_law_met_good" bT f34)
 (l35 : NFn K "_law_again_good" bE f35)
 (l36 : NFn K "_law_none_good" bj f36)
 (l37 : NFn K "_law_end_good" bu f37)
 (l38 : NFn K "_law_deed_good" bo f38)
 (a39 : nsIn K mainGlobals "law" = some (some (.ref f39))) (l39 : K.lookup f39 = some ⟨oc, od, .func (fnQ "law" "law" dU kV dc pm an cd ct), sl⟩) (c39 : codeIn K cd "law" = true) (k39 : keepIn K (.ref f39) = true)
 (l40 : MFn K C8 "__init__" "StandingOrder.__init__" aX f40)
 (l41 : MFn K C9 "__init__" "Standing.__init__" bq f41)
 (l42 : MFn K C9 "put" "Standing.put" cr f42)
 (l43 : MFn K C9 "order" "Standing.order" bL f43)
 (l44 : MFn K C9 "drop" "Standing.drop" bY f44)
 (l45 : MFn K C9 "names" "Standing.names" bM f45)
 (l46 : MFn K C9 "terms" "Standing.terms" bK f46)
 (l47 : MFn K C9 "done" "Standing.done" bV f47)
 (l48 : MFn K C9 "step" "Standing.step" bU f48)
 (l49 : MFn K C9 "days" "Standing.days" bZ f49)
 (pg8 : plainGet K C8 Str.empty = true) (hd8 : hasDictIn K C8 = true) (po8 : plainOver K C8 = true) (sa8 : findIn K (.ref C8) "__setattr__" = some (some (.builtin "object.__setattr__"))) (mk8 : makesIn K C8 = true) (kc8 : keepIn K (.ref C8) = true)
 (na8_0 : findIn K (.ref C8) "agreed" = some none)
 (na8_1 : findIn K (.ref C8) "all_days" = some none)
 (na8_2 : findIn K (.ref C8) "gone" = some none)
 (pg9 : plainGet K C9 Str.empty = true) (hd9 : hasDictIn K C9 = true) (po9 : plainOver K C9 = true) (sa9 : findIn K (.ref C9) "__setattr__" = some (some (.builtin "object.__setattr__"))) (mk9 : makesIn K C9 = true) (kc9 : keepIn K (.ref C9) = true)
 (na9_0 : findIn K (.ref C9) "by_name" = some none)
 (o0 : clsIn K C0 = some cl0) (r0 : typeIn K (.ref C0) = some (.type "type")) (b0 : mroIn K C0 (.type "BaseException") = some true)
 (o1 : clsIn K C1 = some cl1) (r1 : typeIn K (.ref C1) = some (.type "type")) (b1 : mroIn K C1 (.type "BaseException") = some true)
 (o2 : clsIn K C2 = some cl2) (r2 : typeIn K (.ref C2) = some (.type "type")) (b2 : mroIn K C2 (.type "BaseException") = some true)
 (o3 : clsIn K C3 = some cl3) (r3 : typeIn K (.ref C3) = some (.type "type")) (b3 : mroIn K C3 (.type "BaseException") = some true)
 (o4 : clsIn K C4 = some cl4) (r4 : typeIn K (.ref C4) = some (.type "type")) (b4 : mroIn K C4 (.type "BaseException") = some true)
 (o5 : clsIn K C5 = some cl5) (r5 : typeIn K (.ref C5) = some (.type "type")) (b5 : mroIn K C5 (.type "BaseException") = some true)
 (o6 : clsIn K C6 = some cl6) (r6 : typeIn K (.ref C6) = some (.type "type")) (b6 : mroIn K C6 (.type "BaseException") = some true)
 (o7 : clsIn K C7 = some cl7) (r7 : typeIn K (.ref C7) = some (.type "type")) (b7 : mroIn K C7 (.type "BaseException") = some true)
 (g4 : mroIn K C4 (.type "object") = some true) (v4 : mroIn K C4 (.type "ValueError") = some true) (u4 : findIn K (.ref C4) "__getattribute__" = some (some (.builtin "BaseException.__getattribute__"))) (w4 : findIn K (.ref C4) "__getattr__" = some none) (y4 : findIn K (.ref C4) "__class__" = some (some (.builtin "object.__class__")))
 (s4_0 : mroIn K C4 (.ref C0) = some true)
 (s4_1 : mroIn K C4 (.ref C1) = some false)
 (s4_2 : mroIn K C4 (.ref C2) = some false)
 (s4_3 : mroIn K C4 (.ref C3) = some false)
 (s4_4 : mroIn K C4 (.ref C4) = some true)
 (s4_5 : mroIn K C4 (.ref C5) = some false)
 (s4_6 : mroIn K C4 (.ref C6) = some false)
 (s4_7 : mroIn K C4 (.ref C7) = some false)
 (g3 : mroIn K C3 (.type "object") = some true) (v3 : mroIn K C3 (.type "ValueError") = some true) (u3 : findIn K (.ref C3) "__getattribute__" = some (some (.builtin "BaseException.__getattribute__"))) (w3 : findIn K (.ref C3) "__getattr__" = some none) (y3 : findIn K (.ref C3) "__class__" = some (some (.builtin "object.__class__")))
 (s3_0 : mroIn K C3 (.ref C0) = some true)
 (s3_1 : mroIn K C3 (.ref C1) = some false)
 (s3_2 : mroIn K C3 (.ref C2) = some false)
 (s3_3 : mroIn K C3 (.ref C3) = some true)
 (s3_4 : mroIn K C3 (.ref C4) = some false)
 (s3_5 : mroIn K C3 (.ref C5) = some false)
 (s3_6 : mroIn K C3 (.ref C6) = some false)
 (s3_7 : mroIn K C3 (.ref C7) = some false)
 (g1 : mroIn K C1 (.type "object") = some true) (v1 : mroIn K C1 (.type "ValueError") = some true) (u1 : findIn K (.ref C1) "__getattribute__" = some (some (.builtin "BaseException.__getattribute__"))) (w1 : findIn K (.ref C1) "__getattr__" = some none) (y1 : findIn K (.ref C1) "__class__" = some (some (.builtin "object.__class__")))
 (s1_0 : mroIn K C1 (.ref C0) = some true)
 (s1_1 : mroIn K C1 (.ref C1) = some true)
 (s1_2 : mroIn K C1 (.ref C2) = some false)
 (s1_3 : mroIn K C1 (.ref C3) = some false)
 (s1_4 : mroIn K C1 (.ref C4) = some false)
 (s1_5 : mroIn K C1 (.ref C5) = some false)
 (s1_6 : mroIn K C1 (.ref C6) = some false)
 (s1_7 : mroIn K C1 (.ref C7) = some false)
 (g2 : mroIn K C2 (.type "object") = some true) (v2 : mroIn K C2 (.type "ValueError") = some true) (u2 : findIn K (.ref C2) "__getattribute__" = some (some (.builtin "BaseException.__getattribute__"))) (w2 : findIn K (.ref C2) "__getattr__" = some none) (y2 : findIn K (.ref C2) "__class__" = some (some (.builtin "object.__class__")))
 (s2_0 : mroIn K C2 (.ref C0) = some true)
 (s2_1 : mroIn K C2 (.ref C1) = some false)
 (s2_2 : mroIn K C2 (.ref C2) = some true)
 (s2_3 : mroIn K C2 (.ref C3) = some false)
 (s2_4 : mroIn K C2 (.ref C4) = some false)
 (s2_5 : mroIn K C2 (.ref C5) = some false)
 (s2_6 : mroIn K C2 (.ref C6) = some false)
 (s2_7 : mroIn K C2 (.ref C7) = some false)
 (g6 : mroIn K C6 (.type "object") = some true) (v6 : mroIn K C6 (.type "ValueError") = some true) (u6 : findIn K (.ref C6) "__getattribute__" = some (some (.builtin "BaseException.__getattribute__"))) (w6 : findIn K (.ref C6) "__getattr__" = some none) (y6 : findIn K (.ref C6) "__class__" = some (some (.builtin "object.__class__")))
 (s6_0 : mroIn K C6 (.ref C0) = some true)
 (s6_1 : mroIn K C6 (.ref C1) = some false)
 (s6_2 : mroIn K C6 (.ref C2) = some false)
 (s6_3 : mroIn K C6 (.ref C3) = some false)
 (s6_4 : mroIn K C6 (.ref C4) = some false)
 (s6_5 : mroIn K C6 (.ref C5) = some false)
 (s6_6 : mroIn K C6 (.ref C6) = some true)
 (s6_7 : mroIn K C6 (.ref C7) = some false)
 (g7 : mroIn K C7 (.type "object") = some true) (v7 : mroIn K C7 (.type "ValueError") = some true) (u7 : findIn K (.ref C7) "__getattribute__" = some (some (.builtin "BaseException.__getattribute__"))) (w7 : findIn K (.ref C7) "__getattr__" = some none) (y7 : findIn K (.ref C7) "__class__" = some (some (.builtin "object.__class__")))
 (s7_0 : mroIn K C7 (.ref C0) = some true)
 (s7_1 : mroIn K C7 (.ref C1) = some false)
 (s7_2 : mroIn K C7 (.ref C2) = some false)
 (s7_3 : mroIn K C7 (.ref C3) = some false)
 (s7_4 : mroIn K C7 (.ref C4) = some false)
 (s7_5 : mroIn K C7 (.ref C5) = some false)
 (s7_6 : mroIn K C7 (.ref C6) = some false)
 (s7_7 : mroIn K C7 (.ref C7) = some true)
 (g5 : mroIn K C5 (.type "object") = some true) (v5 : mroIn K C5 (.type "ValueError") = some true) (u5 : findIn K (.ref C5) "__getattribute__" = some (some (.builtin "BaseException.__getattribute__"))) (w5 : findIn K (.ref C5) "__getattr__" = some none) (y5 : findIn K (.ref C5) "__class__" = some (some (.builtin "object.__class__")))
 (s5_0 : mroIn K C5 (.ref C0) = some true)
 (s5_1 : mroIn K C5 (.ref C1) = some false)
 (s5_2 : mroIn K C5 (.ref C2) = some false)
 (s5_3 : mroIn K C5 (.ref C3) = some false)
 (s5_4 : mroIn K C5 (.ref C4) = some false)
 (s5_5 : mroIn K C5 (.ref C5) = some true)
 (s5_6 : mroIn K C5 (.ref C6) = some false)
 (s5_7 : mroIn K C5 (.ref C7) = some false)
 (d0 : nsIn K mainGlobals "LENGTHS" = some (some (.ref D0))) (e0 : K.lookup D0 = some ⟨.type "tuple", dd0, .seq #[.int 31 tk0, .int 28 tk1, .int 31 tk2, .int 30 tk3, .int 31 tk4, .int 30 tk5, .int 31 tk6, .int 31 tk7, .int 30 tk8, .int 31 tk9, .int 30 tk10, .int 31 tk11] dn0, dsl0⟩)
 (z0 : nsIn K mainGlobals "ValueError" = some none)
 (z1 : nsIn K mainGlobals "abs" = some none)
 (z2 : nsIn K mainGlobals "all" = some none)
 (z3 : nsIn K mainGlobals "bool" = some none)
 (z4 : nsIn K mainGlobals "int" = some none)
 (z5 : nsIn K mainGlobals "isinstance" = some none)
 (z6 : nsIn K mainGlobals "len" = some none)
 (z7 : nsIn K mainGlobals "list" = some none)
 (z8 : nsIn K mainGlobals "min" = some none)
 (z9 : nsIn K mainGlobals "range" = some none)
 (z10 : nsIn K mainGlobals "sorted" = some none)
 (z11 : nsIn K mainGlobals "str" = some none)
 (z12 : nsIn K mainGlobals "sum" = some none)
 (z13 : nsIn K mainGlobals "tuple" = some none)
 (q4 : excIn K C4 [.type "ValueError", .type "Exception", .type "BaseException", .type "object"] "ValueError.__new__" = true)
 (q3 : excIn K C3 [.type "ValueError", .type "Exception", .type "BaseException", .type "object"] "ValueError.__new__" = true)
 (q1 : excIn K C1 [.type "ValueError", .type "Exception", .type "BaseException", .type "object"] "ValueError.__new__" = true)
 (q2 : excIn K C2 [.type "ValueError", .type "Exception", .type "BaseException", .type "object"] "ValueError.__new__" = true)
 (q6 : excIn K C6 [.type "ValueError", .type "Exception", .type "BaseException", .type "object"] "ValueError.__new__" = true)
 (q7 : excIn K C7 [.type "ValueError", .type "Exception", .type "BaseException", .type "object"] "ValueError.__new__" = true)
 (q5 : excIn K C5 [.type "ValueError", .type "Exception", .type "BaseException", .type "object"] "ValueError.__new__" = true)
 : ∃ fd : FuncData, (∀ (s : Shared) (v : Value), BindsTo s fd ⟨[v], []⟩ [("_law_script", v)]) /\ ∀ base : Heap, K.In base -> base.Ns mainGlobals mg -> bv l.prog w K mg base (XE l.prog w) 13 fa fd ["_law_script"] (sp_law K) := by
  have e := hfa.symm.trans (mg_of X G a39)
  cases e
  have T : Txt K mg ⟨f0, l0.2.choose, f1, l1.2.choose, f2, l2.2.choose, f3, l3.2.choose, f4, l4.2.choose, f5, l5.2.choose, f6, l6.2.choose, f7, l7.2.choose, f8, l8.2.choose, f9, l9.2.choose, f10, l10.2.choose, f11, l11.2.choose, f12, l12.2.choose, f13, l13.2.choose, f14, l14.2.choose, f15, l15.2.choose, f16, l16.2.choose, f17, l17.2.choose, f18, l18.2.choose, f19, l19.2.choose, f20, l20.2.choose, f21, l21.2.choose, f22, l22.2.choose, f23, l23.2.choose, f24, l24.2.choose, f25, l25.2.choose, f26, l26.2.choose, f27, l27.2.choose, f28, l28.2.choose, f29, l29.2.choose, f30, l30.2.choose, f31, l31.2.choose, f32, l32.2.choose, f33, l33.2.choose, f34, l34.2.choose, f35, l35.2.choose, f36, l36.2.choose, f37, l37.2.choose, f38, l38.2.choose, fa, fnQ "law" "law" dU kV dc pm an cd ct, f40, l40.2.choose, f41, l41.2.choose, f42, l42.2.choose, f43, l43.2.choose, f44, l44.2.choose, f45, l45.2.choose, f46, l46.2.choose, f47, l47.2.choose, f48, l48.2.choose, f49, l49.2.choose, C0, C1, C2, C3, C4, C5, C6, C7, C8, C9, D0⟩ := ⟨l0.2.choose_spec, mg_of X G l0.1, l1.2.choose_spec, mg_of X G l1.1, l2.2.choose_spec, mg_of X G l2.1, l3.2.choose_spec, mg_of X G l3.1, l4.2.choose_spec, mg_of X G l4.1, l5.2.choose_spec, mg_of X G l5.1, l6.2.choose_spec, mg_of X G l6.1, l7.2.choose_spec, mg_of X G l7.1, l8.2.choose_spec, mg_of X G l8.1, l9.2.choose_spec, mg_of X G l9.1, l10.2.choose_spec, mg_of X G l10.1, l11.2.choose_spec, mg_of X G l11.1, l12.2.choose_spec, mg_of X G l12.1, l13.2.choose_spec, mg_of X G l13.1, l14.2.choose_spec, mg_of X G l14.1, l15.2.choose_spec, mg_of X G l15.1, l16.2.choose_spec, mg_of X G l16.1, l17.2.choose_spec, mg_of X G l17.1, l18.2.choose_spec, mg_of X G l18.1, l19.2.choose_spec, mg_of X G l19.1, l20.2.choose_spec, mg_of X G l20.1, l21.2.choose_spec, mg_of X G l21.1, l22.2.choose_spec, mg_of X G l22.1, l23.2.choose_spec, mg_of X G l23.1, l24.2.choose_spec, mg_of X G l24.1, l25.2.choose_spec, mg_of X G l25.1, l26.2.choose_spec, mg_of X G l26.1, l27.2.choose_spec, mg_of X G l27.1, l28.2.choose_spec, mg_of X G l28.1, l29.2.choose_spec, mg_of X G l29.1, l30.2.choose_spec, mg_of X G l30.1, l31.2.choose_spec, mg_of X G l31.1, l32.2.choose_spec, mg_of X G l32.1, l33.2.choose_spec, mg_of X G l33.1, l34.2.choose_spec, mg_of X G l34.1, l35.2.choose_spec, mg_of X G l35.1, l36.2.choose_spec, mg_of X G l36.1, l37.2.choose_spec, mg_of X G l37.1, l38.2.choose_spec, mg_of X G l38.1, xy (st := dU) l39 c39 k39, mg_of X G a39, l40.2.choose_spec, ⟨l40.1.1, l40.1.2, l40.2.choose_spec.kp⟩, l41.2.choose_spec, ⟨l41.1.1, l41.1.2, l41.2.choose_spec.kp⟩, l42.2.choose_spec, ⟨l42.1.1, l42.1.2, l42.2.choose_spec.kp⟩, l43.2.choose_spec, ⟨l43.1.1, l43.1.2, l43.2.choose_spec.kp⟩, l44.2.choose_spec, ⟨l44.1.1, l44.1.2, l44.2.choose_spec.kp⟩, l45.2.choose_spec, ⟨l45.1.1, l45.1.2, l45.2.choose_spec.kp⟩, l46.2.choose_spec, ⟨l46.1.1, l46.1.2, l46.2.choose_spec.kp⟩, l47.2.choose_spec, ⟨l47.1.1, l47.1.2, l47.2.choose_spec.kp⟩, l48.2.choose_spec, ⟨l48.1.1, l48.1.2, l48.2.choose_spec.kp⟩, l49.2.choose_spec, ⟨l49.1.1, l49.1.2, l49.2.choose_spec.kp⟩, mg_of X G p0, mg_of X G p1, mg_of X G p2, mg_of X G p3, mg_of X G p4, mg_of X G p5, mg_of X G p6, mg_of X G p7, mg_of X G p8, mg_of X G p9, ⟨pg8, hd8, po8, sa8⟩, na8_0, na8_1, na8_2, ⟨mk8, l40.1.1, l40.1.2, kc8⟩, ⟨pg9, hd9, po9, sa9⟩, na9_0, ⟨mk9, l41.1.1, l41.1.2, kc9⟩, q4, ⟨u4, w4, y4, (by rw [o4]; rfl), g4, b4⟩, eK o0 r0 b0 s4_0, az o4 r4 s4_4 s4_4, az o3 r3 s4_4 s4_3, az o1 r1 s4_4 s4_1, az o2 r2 s4_4 s4_2, az o6 r6 s4_4 s4_6, az o7 r7 s4_4 s4_7, az o5 r5 s4_4 s4_5, eX v4, q3, ⟨u3, w3, y3, (by rw [o3]; rfl), g3, b3⟩, eK o0 r0 b0 s3_0, az o4 r4 s3_3 s3_4, az o3 r3 s3_3 s3_3, az o1 r1 s3_3 s3_1, az o2 r2 s3_3 s3_2, az o6 r6 s3_3 s3_6, az o7 r7 s3_3 s3_7, az o5 r5 s3_3 s3_5, eX v3, q1, ⟨u1, w1, y1, (by rw [o1]; rfl), g1, b1⟩, eK o0 r0 b0 s1_0, az o4 r4 s1_1 s1_4, az o3 r3 s1_1 s1_3, az o1 r1 s1_1 s1_1, az o2 r2 s1_1 s1_2, az o6 r6 s1_1 s1_6, az o7 r7 s1_1 s1_7, az o5 r5 s1_1 s1_5, eX v1, q2, ⟨u2, w2, y2, (by rw [o2]; rfl), g2, b2⟩, eK o0 r0 b0 s2_0, az o4 r4 s2_2 s2_4, az o3 r3 s2_2 s2_3, az o1 r1 s2_2 s2_1, az o2 r2 s2_2 s2_2, az o6 r6 s2_2 s2_6, az o7 r7 s2_2 s2_7, az o5 r5 s2_2 s2_5, eX v2, q6, ⟨u6, w6, y6, (by rw [o6]; rfl), g6, b6⟩, eK o0 r0 b0 s6_0, az o4 r4 s6_6 s6_4, az o3 r3 s6_6 s6_3, az o1 r1 s6_6 s6_1, az o2 r2 s6_6 s6_2, az o6 r6 s6_6 s6_6, az o7 r7 s6_6 s6_7, az o5 r5 s6_6 s6_5, eX v6, q7, ⟨u7, w7, y7, (by rw [o7]; rfl), g7, b7⟩, eK o0 r0 b0 s7_0, az o4 r4 s7_7 s7_4, az o3 r3 s7_7 s7_3, az o1 r1 s7_7 s7_1, az o2 r2 s7_7 s7_2, az o6 r6 s7_7 s7_6, az o7 r7 s7_7 s7_7, az o5 r5 s7_7 s7_5, eX v7, q5, ⟨u5, w5, y5, (by rw [o5]; rfl), g5, b5⟩, eK o0 r0 b0 s5_0, az o4 r4 s5_5 s5_4, az o3 r3 s5_5 s5_3, az o1 r1 s5_5 s5_1, az o2 r2 s5_5 s5_2, az o6 r6 s5_5 s5_6, az o7 r7 s5_5 s5_7, az o5 r5 s5_5 s5_5, eX v5, mg_of X G d0, ⟨_, _, _, e0, rfl, rfl, (by show 12 <= sizeLine; decide), (.cons ⟨_, rfl⟩ (.cons ⟨_, rfl⟩ (.cons ⟨_, rfl⟩ (.cons ⟨_, rfl⟩ (.cons ⟨_, rfl⟩ (.cons ⟨_, rfl⟩ (.cons ⟨_, rfl⟩ (.cons ⟨_, rfl⟩ (.cons ⟨_, rfl⟩ (.cons ⟨_, rfl⟩ (.cons ⟨_, rfl⟩ (.cons ⟨_, rfl⟩ .nil))))))))))))⟩, mg_none_of X G z0, mg_none_of X G z1, mg_none_of X G z2, mg_none_of X G z3, mg_none_of X G z4, mg_none_of X G z5, mg_none_of X G z6, mg_none_of X G z7, mg_none_of X G z8, mg_none_of X G z9, mg_none_of X G z10, mg_none_of X G z11, mg_none_of X G z12, mg_none_of X G z13⟩
  exact ⟨fnQ "law" "law" dU kV dc pm an cd ct, fun s v => .of_eq rfl, fun base _ _ => EX T⟩
end K27
open PySem PySem.W PyProof.Rows
set_option maxRecDepth 100000 in
set_option maxHeartbeats 0 in
theorem PySem.Challenge.cw_evenhall_k27_days_of_standing_orders_holds : PySem.Challenge.rw_evenhall_k27_days_of_standing_orders.Holds := by
 w_on
 refine PySem.W.holds_law K27.ws fun said => ?_
 refine PySem.W.holds_open (q := K27.vw) (loose := []) (Xt := fun s => PySem.W.xlAt K27.vw [] s && PySem.W.recOk (PySem.W.RowW.records (PySem.W.OpenRow.toRowW (PySem.W.OpenLaw.row PySem.Challenge.rw_evenhall_k27_days_of_standing_orders))) s) (XP := PySem.W.XL K27.vw []) (Yf := PySem.W.Hook.obs (PySem.W.kHook K27.frag K27.adrs K27.adrs_eq)) (Ya := PySem.W.Hook.val (PySem.W.kHook K27.frag K27.adrs K27.adrs_eq)) (YP := PySem.W.Hook.says (PySem.W.kHook K27.frag K27.adrs K27.adrs_eq)) (N := 7992) K27.left (PySem.W.Hook.of (PySem.W.kHook K27.frag K27.adrs K27.adrs_eq)) (PySem.W.Hook.keeps (PySem.W.kHook K27.frag K27.adrs K27.adrs_eq))
  (fun s e => PySem.W.xl_of s (Bool.and_eq_true_iff.mp e).1) PySem.W.XL.keeps (by rfl) (by rfl) (by rfl) (fun s e => PySem.W.recFacts_of (Bool.and_eq_true_iff.mp e).2) (by rfl) (by assumption) (by decide +kernel) ⟨rfl, rfl, rfl, rfl, rfl, by decide +kernel⟩ ?hw ?hc
 (case hw => w_witness2)
 k_fill
 refine L2.AD (l := PySem.Challenge.rw_evenhall_k27_days_of_standing_orders) (n := 63) (k := 13) (x := "_law_script") (sp := K27.sp_law) rfl (by decide) rfl ⟨rfl, by decide, by decide⟩ (fun w h Y => PySem.W.kIn_of Y) ?F ?S
 case F =>
  intro w mg fa h KX G hmg
  refine' K27.all_mk KX G hmg ?_ ?_ ?_ ?_ ?_ ?_ ?_ ?_ ?_ ?_ ?_ ?_ ?_ ?_ ?_ ?_ ?_ ?_ ?_ ?_ ?_ ?_ ?_ ?_ ?_ ?_ ?_ ?_ ?_ ?_ ?_ ?_ ?_ ?_ ?_ ?_ ?_ ?_ ?_ ?_ ?_ ?_ ?_ ?_ ?_ ?_ ?_ ?_ ?_ ?_ ?_ ?_ ?_ ?_ ?_ ?_ ?_ ?_ ?_ ?_ ?_ ?_ ?_ ?_ ?_ ?_ ?_ ?_ ?_ ?_ ?_ ?_ ?_ ?_ ?_ ?_ ?_ ?_ ?_ ?_ ?_ ?_ ?_ ?_ ?_ ?_ ?_ ?_ ?_ ?_ ?_ ?_ ?_ ?_ ?_ ?_ ?_ ?_ ?_ ?_ ?_ ?_ ?_ ?_ ?_ ?_ ?_ ?_ ?_ ?_ ?_ ?_ ?_ ?_ ?_ ?_ ?_ ?_ ?_ ?_ ?_ ?_ ?_ ?_ ?_ ?_ ?_ ?_ ?_ ?_ ?_ ?_ ?_ ?_ ?_ ?_ ?_ ?_ ?_ ?_ ?_ ?_ ?_ ?_ ?_ ?_ ?_ ?_ ?_ ?_ ?_ ?_ ?_ ?_ ?_ ?_ ?_ ?_ ?_ ?_ ?_ ?_ ?_ ?_ ?_ ?_ ?_ ?_ ?_ ?_ ?_ ?_ ?_ ?_ ?_ ?_ ?_ ?_ ?_ ?_ ?_ ?_ ?_ ?_ ?_ ?_ ?_ ?_ ?_ ?_ ?_ ?_ ?_ ?_ ?_ ?_ ?_ ?_ ?_ ?_ ?_ ?_ ?_ ?_ ?_ ?_ ?_ ?_ ?_ ?_ ?_ ?_ ?_ ?_ ?_ ?_ ?_
  all_goals try first | k_is | k_exc | refine' K27.nf_mk ?_ ?_ ?_ ?_ | refine' K27.mf_mk ?_ ?_ ?_ ?_ ?_
  all_goals try first | k_is | k_exc
  all_goals try first | k_is | k_exc
 case S => exact fun K H a ns hl hO hS => K27.law_starts hO hS hl
