import PyProof.Rows.All
import KE.KUnpack
import PyProof.DictTruth
import PyProof.DictWalks
import PyProof.Rows.SortKeyStr
import KE.KItem
import KE.KTupSum
import KE.KEqDict
import KE.KFromBytes
import KE.KIntText
import KE.KRevIter
import KE.KDictOf
import KE.LcSums
import KE.KDictSum
import KE.KTryMore
import OpenK.KLine
import OpenK.KOwn
import Wide.Line
import Wide.FinOn
import Lean
import PySem.Challenge.RW_evenhall_k21_seals
set_option Elab.async false
set_option linter.all false
set_option maxRecDepth 100000
namespace L2
open PySem
noncomputable def bT (s : Stmt) (j : Nat) : Stmt := match s with
 | .ClassDef _ _ _ body _ _ _ _ _ _ _ => body.getD j (.Pass ⟨0, 0, 0, 0⟩)
 | _ => .Pass ⟨0, 0, 0, 0⟩
noncomputable def aC (s : Stmt) : Arguments := match s with
 | .FunctionDef _ a _ _ _ _ _ _ _ _ => a
 | _ => { posonlyargs := [], args := [], vararg := none, kwonlyargs := [], kw_defaults := [], kwarg := none, defaults := [] }
noncomputable def av (s : Stmt) : List Stmt := match s with
 | .FunctionDef _ _ b _ _ _ _ _ _ _ => b
 | _ => []
noncomputable def ad (s : Stmt) : Scope := match s with
 | .FunctionDef _ _ _ _ _ _ sc _ _ _ => sc
 | _ => { kind := .function, names := [], isGenerator := false, isCoroutine := false }
end L2
namespace K21
open PySem L2
noncomputable def top (i : Nat) : Stmt := PySem.Challenge.pw_evenhall_k21_seals.main.body.getD i (.Pass ⟨0, 0, 0, 0⟩)
noncomputable abbrev dO : Stmt := top 16
noncomputable abbrev dU : Stmt := top 17
noncomputable abbrev cS : Stmt := top 18
noncomputable abbrev eE : Stmt := top 19
noncomputable abbrev gf : Stmt := top 22
noncomputable abbrev dQ : Stmt := top 23
noncomputable abbrev cP : Stmt := top 24
noncomputable abbrev cZ : Stmt := top 25
noncomputable abbrev dJ : Stmt := top 26
noncomputable abbrev b7 : Stmt := top 28
noncomputable abbrev eL : Stmt := top 30
noncomputable abbrev cR : Stmt := top 32
noncomputable abbrev eM : Stmt := top 33
noncomputable abbrev dS : Stmt := top 34
noncomputable abbrev iD : Stmt := top 35
noncomputable abbrev eO : Stmt := top 37
noncomputable abbrev bC : Stmt := top 38
noncomputable abbrev dH : Stmt := top 39
noncomputable abbrev kX : Stmt := top 41
noncomputable abbrev iB : Stmt := top 42
noncomputable abbrev bS : Stmt := top 51
noncomputable abbrev cH : Stmt := top 52
noncomputable abbrev cC : Stmt := top 53
noncomputable abbrev bw : Stmt := top 54
noncomputable abbrev cB : Stmt := top 55
noncomputable abbrev bQ : Stmt := top 56
noncomputable abbrev br : Stmt := top 57
noncomputable abbrev cE : Stmt := top 58
noncomputable abbrev c5 : Stmt := top 59
noncomputable abbrev dN : Stmt := top 60
noncomputable abbrev aP : Stmt := top 61
noncomputable abbrev bM : Stmt := top 62
noncomputable abbrev bN : Stmt := top 63
noncomputable abbrev bR : Stmt := top 64
noncomputable abbrev bJ : Stmt := top 65
noncomputable abbrev bP : Stmt := top 66
noncomputable abbrev dF : Stmt := top 67
noncomputable abbrev aN : Stmt := top 68
noncomputable abbrev a6 : Stmt := top 69
noncomputable abbrev bE : Stmt := top 70
noncomputable abbrev bD : Stmt := bT (top 43) 0
noncomputable abbrev c8 : Stmt := bT (top 43) 1
noncomputable abbrev ce : Stmt := bT (top 43) 2
noncomputable abbrev bq : Stmt := bT (top 46) 0
noncomputable abbrev bg : Stmt := bT (top 46) 1
noncomputable abbrev aX : Stmt := bT (top 46) 2
noncomputable abbrev bB : Stmt := bT (top 47) 0
noncomputable abbrev bK : Stmt := bT (top 47) 1
noncomputable abbrev bW : Stmt := bT (top 47) 2
noncomputable abbrev cw : Stmt := bT (top 47) 3
noncomputable abbrev cU : Stmt := bT (top 47) 4
noncomputable abbrev bL : Stmt := bT (top 47) 5
noncomputable abbrev cL : Stmt := bT (top 47) 10
noncomputable abbrev bp : Stmt := bT (top 49) 0
noncomputable abbrev b_ : Stmt := bT (top 49) 1
noncomputable abbrev cY : Stmt := bT (top 49) 2
noncomputable abbrev b6 : Stmt := bT (top 49) 3
noncomputable abbrev bI : Stmt := bT (top 49) 4
end K21
namespace TR
open PySem PySem.W
def go (p : Program) (w : World) (lo : Nat) (an : Option Value) : Nat -> SharedT -> Thread -> Option SharedT
 | 0, _, _ => none
 | k + 1, x, th => match through th with
  | true => some x
  | false => match stepOk lo an th with
   | false => none
   | true => match stepT (denote treeTable) p w x th with
    | none => none
    | some y => go p w lo an k y.1 y.2
theorem qq {p : Program} {w : World} {lo : Nat} {an : Option Value} (k : Nat) : ∀ {x y : SharedT} {th : Thread}, go p w lo an k x th = some y -> topRun treeTable p w lo an k x.abs th = some y.abs := by
 induction k with
 | zero => intro x y th e; cases e
 | succ k ih =>
  intro x y th e
  unfold go at e
  unfold topRun
  revert e
  cases through th with
  | true => intro e; cases e; rfl
  | false =>
   cases stepOk lo an th with
   | false => intro e; cases e
   | true =>
    dsimp only
    cases z : stepT (denote treeTable) p w x th with
    | none => intro e; cases e
    | some v =>
     intro e
     obtain ⟨v1, v2⟩ := v
     rw [stepT_spec z]
     exact ih e
noncomputable def lookB (p : Program) (b : Heap) (s : Shared) : Bool := staticsOk (importedModules p.main.body) b s.heap && namesBound p s.heap && gensDone s && laidKept b s.heap
noncomputable def look (p : Program) (P : Params) (s : Shared) : Bool := lookB p (boot_heap P) s
theorem left {p q : Program} {ls : List Str} {Xt : Shared -> Bool} {β : Type} {Yf : Shared -> β} {Ya : World -> β} {N lo : Nat} {an : Option Value} {tr : Params -> BT}
 (ho : ∀ w : World, (fencedOpening treeTable p w N).map (fun s => (s.heap, s.gens, s.drawn, s.toks)) = some (boot_heap w.params, Array.mk [], boot_drawn, boot_toks))
 (hz : ∀ P : Params, ((boot_heap P).isNs mainGlobals, (boot_heap P).objs.size, (boot_heap P).nsMap mainGlobals "__annotations__") = (true, lo, an))
 (ht : ∀ P : Params, absHeap (tr P) lo (boot_heap P).life = boot_heap P)
 (hr : ∀ w : World, (fun os => (go p w lo an N ⟨tr w.params, lo, (boot_heap w.params).life, Array.mk [], boot_drawn, boot_toks, os⟩ (topStub p)).map fun x => (look p w.params x.abs, openSeen q ls (importedModules p.main.body) Xt true x.abs, Yf x.abs)) = fun _ => some (true, openGood q ls, Ya w)) :
 LeftO p q ls Xt Yf Ya N := by
 intro w
 obtain ⟨⟨h, g, d, k, os⟩, e1, e2⟩ := Option.map_eq_some_iff.mp (ho w)
 simp only [Prod.mk.injEq] at e2
 obtain ⟨rfl, rfl, rfl, rfl⟩ := e2
 have z := hz w.params
 simp only [Prod.mk.injEq] at z
 obtain ⟨z1, z2, z3⟩ := z
 obtain ⟨x, r1, r2⟩ := Option.map_eq_some_iff.mp (congrFun (hr w) os)
 simp only [Prod.mk.injEq] at r2
 obtain ⟨l1, l2, l3⟩ := r2
 have t := qq _ r1
 have ab : SharedT.abs ⟨tr w.params, lo, (boot_heap w.params).life, Array.mk [], boot_drawn, boot_toks, os⟩ = ⟨boot_heap w.params, Array.mk [], boot_drawn, boot_toks, os⟩ := by
  show Shared.mk (absHeap (tr w.params) lo (boot_heap w.params).life) _ _ _ _ = _
  rw [ht]
 rw [ab] at t
 have f : topFrom treeTable p w N ⟨boot_heap w.params, Array.mk [], boot_drawn, boot_toks, os⟩ = some x.abs := by
  unfold topFrom
  dsimp only
  rw [z1, z2, z3, t]
  show (match look p w.params x.abs with | true => some x.abs | false => none) = _
  rw [l1]
 unfold openEnds
 rw [e1]
 show (topFrom treeTable p w N _).map _ = _
 rw [f]
 show some (_, _) = _
 rw [l2, l3]
theorem three {α β γ δ : Type} {o : Option α} {f : α -> β} {g : α -> γ} {h : α -> δ} {a : β} {b : γ} {c : δ} (e1 : o.map f = some a) (e2 : o.map g = some b) (e3 : o.map h = some c) : o.map (fun x => (f x, g x, h x)) = some (a, b, c) := by
 cases o with
 | none => cases e1
 | some x => cases e1; cases e2; cases e3; rfl
end TR
namespace K21
open PySem L2
abbrev kS (s : String) : Str := Str.ofString s
abbrev kR (a : Addr) : Value := .ref a
abbrev kY (s : String) : Value := .type s
abbrev kB (s : String) : Value := .builtin s
abbrev kZ (s : Str) (t : Tok) : Value := .str s t
abbrev kN : Value := .none
abbrev kD (h : Int) (k v : Value) : DictEntry := ⟨h, k, v⟩
abbrev kO (c : Value) (d : Option Addr) (t : Data) (s : Array (Option Value)) : Obj := ⟨c, d, t, s⟩
abbrev keyHash := PyData.keyHash
abbrev kE (P : Params) (s : String) (t : Tok) (v : Value) : DictEntry := ⟨keyHash P (kS s), kZ (kS s) t, v⟩
abbrev kI (i : Int) (t : Tok) : Value := .int i t
abbrev kz (s : String) (t : Tok) : Value := kZ (kS s) t
abbrev kC (t : Tok) : Value := kz "/claim/cut.py" t
abbrev kT (x : Array Value) : Obj := kO (kY "tuple") none (.seq x 0) #[]
abbrev kU : Value := .bool true
noncomputable abbrev q0 (a : String) (b : Nat) (c : String) (d : Nat) (e : Nat) (f : Int) (g : Int) (h : Nat) (i : Nat) (j : Nat) (k : Nat) (l : Nat) (m : Int) (n : Nat) : Obj := (kO (kY "code") none (Data.fields #[(kz a b), (kz c d), (kC e), (kI f 0), (kI g 0), (kI 0 0), (kI 0 0), (kI 3 0), (kR h), kU, (kI 181 0), (kR i), kN, (kR j), (kR k), (kR l), (kI m 0), (kI f 0), (kC n)]) #[])
noncomputable abbrev q1 (a : String) (b : String) (c : Nat) (d : Nat) (e : Nat) (f : Nat) (g : Int) (h : Nat) (i : Nat) (j : String) (k : Nat) (l : Nat) : Obj := (kO (kY "function") none (Data.func (FuncData.mk (kS a) (kS b) (Arguments.mk [] [(Arg.mk (kS "self") none (Pos.mk c d c e))] none [] [] none []) (FuncBody.stmts [(Stmt.Expr (Expr.Call (Expr.Name (kS "_wall") (Pos.mk f 8 f 13)) [(Expr.Constant (Const.int g) 0 (Pos.mk f 14 f h))] [] (Pos.mk f 8 f i)) (Pos.mk f 8 f i))]) (Scope.mk ScopeKind.function [((kS "self"), NameKind.local), ((kS "_wall"), NameKind.globalImplicit)] false false []) 3 [] kN kN kN (kz j k) none (kR l) kN 0)) #[])
noncomputable abbrev q2 (a : String) (b : Nat) (c : Nat) (d : Nat) (e : Nat) (f : Nat) : Obj := (kO (kY "type") none (Data.cls (ClassData.mk (kS a) [(kR 31)] [(kR b), (kR 31), (kY "ValueError"), (kY "Exception"), (kY "BaseException"), (kY "object")] c (kS a) true [] [] false none false)) #[(some (kR d)), none, (some (kz a e)), (some (kz a f)), (some (kB "ValueError.__new__")), (some kU)])
noncomputable abbrev q3 (a : String) (b : Nat) (c : String) (d : Nat) (e : Nat) (f : Int) (g : Int) (h : Nat) (i : Nat) (j : Nat) (k : Int) (l : Nat) : Obj := (kO (kY "code") none (Data.fields #[(kz a b), (kz c d), (kC e), (kI f 0), (kI g 0), (kI 0 0), (kI 0 0), (kI 3 0), (kR h), kU, (kI 181 0), (kR i), kN, kN, kN, (kR j), (kI k 0), (kI f 0), (kC l)]) #[])
noncomputable abbrev q4 (a : String) (b : String) (c : Nat) (d : Nat) (e : Nat) (f : String) (g : Nat) (h : Nat) (i : Nat) (j : Int) (k : String) (l : Nat) (m : Nat) : Obj := (kO (kY "function") none (Data.func (FuncData.mk (kS a) (kS b) (Arguments.mk [] [(Arg.mk (kS "self") none (Pos.mk c d c e)), (Arg.mk (kS f) none (Pos.mk c g c h))] none [] [] none []) (FuncBody.stmts [(Stmt.Expr (Expr.Call (Expr.Name (kS "_wall") (Pos.mk i 8 i 13)) [(Expr.Constant (Const.int j) 0 (Pos.mk i 14 i 16))] [] (Pos.mk i 8 i 17)) (Pos.mk i 8 i 17))]) (Scope.mk ScopeKind.function [((kS "self"), NameKind.local), ((kS f), NameKind.local), ((kS "_wall"), NameKind.globalImplicit)] false false []) 3 [] kN kN kN (kz k l) none (kR m) kN 0)) #[])
noncomputable abbrev q5 (P : Params) (a : Nat) (b : Nat) (c : Int) (d : Nat) (e : String) (f : Nat) (g : Nat) (h : String) (i : Nat) (j : Nat) (k : Nat) (l : Nat) : Obj := (kO (kY "dict") none (Data.dict #[(kE P "__module__" a (kz "evenhall.errors" 194)), (kE P "__firstlineno__" b (kI c d)), (kE P e f (kR g)), (kE P h i (kR j)), (kE P "__doc__" k kN)] l) #[])
noncomputable abbrev q6 (a : String) (b : Nat) (c : Nat) (d : Nat) (e : Nat) : Obj := (kO (kY "type") none (Data.cls (ClassData.mk (kS a) [(kY "object")] [(kR b), (kY "object")] c (kS a) true [] [] false none false)) #[none, none, (some (kz a d)), (some (kz a e)), (some (kB "object.__new__")), (some kU)])
noncomputable abbrev q7 (a : Nat) (b : Nat) : Obj := (kO (kY "getset_descriptor") none (Data.fields #[(kz "__weakref__" a), (kR b), (kB "ExceptionGroup.__weakref__"), kN]) #[])
noncomputable abbrev q8 (a : Nat) (b : Nat) : Obj := (kO (kY "getset_descriptor") none (Data.fields #[(kz "__dict__" a), (kR b), (kB "function.__dict__"), (kB "function.__dict__#set")]) #[])
set_option maxRecDepth 100000 in
noncomputable def frag (P : Params) : PySem.W.Frag :=
(nat_lit 2, (kO kN none (Data.dict #[] 0) #[]))::
(nat_lit 3, (kO (kY "dict") none (Data.dict #[(kE P "__name__" 165 (kz "law_evenhall_k21_seals" 959)), (kE P "__doc__" 166 kN), (kE P "__package__" 167 kN), (kE P "__loader__" 168 (kB "__main__.__loader__#opaque")), (kE P "__spec__" 169 kN), (kE P "__annotations__" 170 (kR 6)), (kE P "__builtins__" 171 (kR 4)), (kE P "__file__" 173 (kC 172)), (kE P "__cached__" 174 kN), (kE P "_wall" 193 (kR 21)), (kE P "HouseError" 213 (kR 31)), (kE P "BadName" 236 (kR 51)), (kE P "BadDay" 259 (kR 70)), (kE P "BadMonth" 282 (kR 89)), (kE P "BadCurrency" 305 (kR 108)), (kE P "BadPath" 328 (kR 127)), (kE P "BadKind" 351 (kR 146)), (kE P "NoAccount" 374 (kR 165)), (kE P "Twice" 397 (kR 184)), (kE P "NotOpen" 420 (kR 203)), (kE P "HasBelow" 443 (kR 222)), (kE P "NoBooking" 466 (kR 241)), (kE P "NotNext" 489 (kR 260)), (kE P "is_whole" 498 (kR 269)), (kE P "is_among" 507 (kR 276)), (kE P "signs_lie" 513 (kR 281)), (kE P "is_name" 520 (kR 288)), (kE P "LENGTHS" 535 (kR 289)), (kE P "is_day" 542 (kR 296)), (kE P "is_month" 549 (kR 303)), (kE P "leap_days" 556 (kR 310)), (kE P "first_day" 566 (kR 317)), (kE P "last_day" 573 (kR 324)), (kE P "is_currency" 582 (kR 331)), (kE P "sums_of" 590 (kR 336)), (kE P "are_names" 598 (kR 341)), (kE P "is_path" 605 (kR 348)), (kE P "names_of" 612 (kR 355)), (kE P "above" 618 (kR 360)), (kE P "rows_of" 629 (kR 367)), (kE P "bookings_up_to" 635 (kR 372)), (kE P "balances" 644 (kR 379)), (kE P "seal" 656 (kR 386)), (kE P "holds" 665 (kR 393)), (kE P "Seals" 708 (kR 424)), (kE P "KINDS" 716 (kR 429)), (kE P "Account" 767 (kR 460)), (kE P "Chart" 885 (kR 556)), (kE P "Journal" 958 (kR 612)), (kE P "_law_cell_at" 968 (kR 623)), (kE P "_law_whole" 975 (kR 630)), (kE P "_law_names" 981 (kR 635)), (kE P "_law_currencies" 987 (kR 640)), (kE P "_law_start" 994 (kR 647)), (kE P "_law_lengths" 1002 (kR 654)), (kE P "_law_month_ends" 1011 (kR 661)), (kE P "_law_month" 1020 (kR 668)), (kE P "_law_base" 1028 (kR 675)), (kE P "_law_day" 1036 (kR 682)), (kE P "_law_accounts" 1055 (kR 689)), (kE P "_law_chart" 1068 (kR 696)), (kE P "_law_is_open" 1079 (kR 703)), (kE P "_law_rows_by" 1085 (kR 708)), (kE P "_law_balances" 1091 (kR 713)), (kE P "_law_refused" 1102 (kR 720)), (kE P "_law_due" 1108 (kR 725)), (kE P "_law_spoilt" 1127 (kR 732)), (kE P "_law_kept" 1140 (kR 739)), (kE P "law" 1146 (kR 744))] 69) #[]))::
(nat_lit 15, (kT #[]))::
(nat_lit 17, (kT #[(kz "k" 190)]))::
(nat_lit 18, (kT #[]))::
(nat_lit 20, (q0 "_wall" 187 "_wall" 188 189 1 1 15 16 17 18 19 191 192))::
(nat_lit 21, (kO (kY "function") none (Data.func (FuncData.mk (kS "_wall") (kS "_wall") (Arguments.mk [] [(Arg.mk (kS "k") none (Pos.mk 1 10 1 11))] none [] [] none []) (FuncBody.stmts [(Stmt.While (Expr.Constant (Const.bool true) 0 (Pos.mk 2 10 2 14)) [(Stmt.Pass (Pos.mk 3 8 3 12))] [] (Pos.mk 2 4 3 12))]) (Scope.mk ScopeKind.function [((kS "k"), NameKind.local)] false false []) 3 [] kN kN kN (kz "__main__" 164) none (kR 20) kN 0)) #[]))::
(nat_lit 22, (kT #[(kY "ValueError")]))::
(nat_lit 29, (kT #[]))::
(nat_lit 30, (q5 P 203 207 5 206 "__static_attributes__" 208 29 "__weakref__" 210 32 211 3))::
(nat_lit 31, (kO (kY "type") none (Data.cls (ClassData.mk (kS "HouseError") [(kY "ValueError")] [(kR 31), (kY "ValueError"), (kY "Exception"), (kY "BaseException"), (kY "object")] 30 (kS "HouseError") true [] [(kR 51), (kR 70), (kR 89), (kR 108), (kR 127), (kR 146), (kR 165), (kR 184), (kR 203), (kR 222), (kR 241), (kR 260)] false none false)) #[(some (kR 22)), none, (some (kz "HouseError" 196)), (some (kz "HouseError" 204)), (some (kB "ValueError.__new__")), (some kU)]))::
(nat_lit 32, (q7 209 31))::
(nat_lit 35, (kT #[(kR 31)]))::
(nat_lit 42, (kT #[]))::
(nat_lit 44, (kT #[(kz "self" 229)]))::
(nat_lit 45, (kT #[]))::
(nat_lit 47, (q0 "small_words" 226 "BadName.small_words" 227 228 9 1 42 43 44 45 46 230 231))::
(nat_lit 48, (q1 "small_words" "BadName.small_words" 9 20 24 10 0 15 16 "evenhall.errors" 194 47))::
(nat_lit 49, (kT #[]))::
(nat_lit 50, (q5 P 221 225 7 224 "small_words" 232 48 "__static_attributes__" 233 49 234 2))::
(nat_lit 51, (q2 "BadName" 51 50 35 214 222))::
(nat_lit 54, (kT #[(kR 31)]))::
(nat_lit 61, (kT #[]))::
(nat_lit 63, (kT #[(kz "self" 252)]))::
(nat_lit 64, (kT #[]))::
(nat_lit 66, (q0 "small_words" 249 "BadDay.small_words" 250 251 13 1 61 62 63 64 65 253 254))::
(nat_lit 67, (q1 "small_words" "BadDay.small_words" 13 20 24 14 1 15 16 "evenhall.errors" 194 66))::
(nat_lit 68, (kT #[]))::
(nat_lit 69, (q5 P 244 248 11 247 "small_words" 255 67 "__static_attributes__" 256 68 257 2))::
(nat_lit 70, (q2 "BadDay" 70 69 54 237 245))::
(nat_lit 73, (kT #[(kR 31)]))::
(nat_lit 80, (kT #[]))::
(nat_lit 82, (kT #[(kz "self" 275)]))::
(nat_lit 83, (kT #[]))::
(nat_lit 85, (q0 "small_words" 272 "BadMonth.small_words" 273 274 17 1 80 81 82 83 84 276 277))::
(nat_lit 86, (q1 "small_words" "BadMonth.small_words" 17 20 24 18 2 15 16 "evenhall.errors" 194 85))::
(nat_lit 87, (kT #[]))::
(nat_lit 88, (q5 P 267 271 15 270 "small_words" 278 86 "__static_attributes__" 279 87 280 2))::
(nat_lit 89, (q2 "BadMonth" 89 88 73 260 268))::
(nat_lit 92, (kT #[(kR 31)]))::
(nat_lit 99, (kT #[]))::
(nat_lit 101, (kT #[(kz "self" 298)]))::
(nat_lit 102, (kT #[]))::
(nat_lit 104, (q0 "small_words" 295 "BadCurrency.small_words" 296 297 21 1 99 100 101 102 103 299 300))::
(nat_lit 105, (q1 "small_words" "BadCurrency.small_words" 21 20 24 22 3 15 16 "evenhall.errors" 194 104))::
(nat_lit 106, (kT #[]))::
(nat_lit 107, (q5 P 290 294 19 293 "small_words" 301 105 "__static_attributes__" 302 106 303 2))::
(nat_lit 108, (q2 "BadCurrency" 108 107 92 283 291))::
(nat_lit 111, (kT #[(kR 31)]))::
(nat_lit 118, (kT #[]))::
(nat_lit 120, (kT #[(kz "self" 321)]))::
(nat_lit 121, (kT #[]))::
(nat_lit 123, (q0 "small_words" 318 "BadPath.small_words" 319 320 25 1 118 119 120 121 122 322 323))::
(nat_lit 124, (q1 "small_words" "BadPath.small_words" 25 20 24 26 4 15 16 "evenhall.errors" 194 123))::
(nat_lit 125, (kT #[]))::
(nat_lit 126, (q5 P 313 317 23 316 "small_words" 324 124 "__static_attributes__" 325 125 326 2))::
(nat_lit 127, (q2 "BadPath" 127 126 111 306 314))::
(nat_lit 130, (kT #[(kR 31)]))::
(nat_lit 137, (kT #[]))::
(nat_lit 139, (kT #[(kz "self" 344)]))::
(nat_lit 140, (kT #[]))::
(nat_lit 142, (q0 "small_words" 341 "BadKind.small_words" 342 343 29 1 137 138 139 140 141 345 346))::
(nat_lit 143, (q1 "small_words" "BadKind.small_words" 29 20 24 30 5 15 16 "evenhall.errors" 194 142))::
(nat_lit 144, (kT #[]))::
(nat_lit 145, (q5 P 336 340 27 339 "small_words" 347 143 "__static_attributes__" 348 144 349 2))::
(nat_lit 146, (q2 "BadKind" 146 145 130 329 337))::
(nat_lit 149, (kT #[(kR 31)]))::
(nat_lit 156, (kT #[]))::
(nat_lit 158, (kT #[(kz "self" 367)]))::
(nat_lit 159, (kT #[]))::
(nat_lit 161, (q0 "small_words" 364 "NoAccount.small_words" 365 366 33 1 156 157 158 159 160 368 369))::
(nat_lit 162, (q1 "small_words" "NoAccount.small_words" 33 20 24 34 6 15 16 "evenhall.errors" 194 161))::
(nat_lit 163, (kT #[]))::
(nat_lit 164, (q5 P 359 363 31 362 "small_words" 370 162 "__static_attributes__" 371 163 372 2))::
(nat_lit 165, (q2 "NoAccount" 165 164 149 352 360))::
(nat_lit 168, (kT #[(kR 31)]))::
(nat_lit 175, (kT #[]))::
(nat_lit 177, (kT #[(kz "self" 390)]))::
(nat_lit 178, (kT #[]))::
(nat_lit 180, (q0 "small_words" 387 "Twice.small_words" 388 389 37 1 175 176 177 178 179 391 392))::
(nat_lit 181, (q1 "small_words" "Twice.small_words" 37 20 24 38 7 15 16 "evenhall.errors" 194 180))::
(nat_lit 182, (kT #[]))::
(nat_lit 183, (q5 P 382 386 35 385 "small_words" 393 181 "__static_attributes__" 394 182 395 2))::
(nat_lit 184, (q2 "Twice" 184 183 168 375 383))::
(nat_lit 187, (kT #[(kR 31)]))::
(nat_lit 194, (kT #[]))::
(nat_lit 196, (kT #[(kz "self" 413)]))::
(nat_lit 197, (kT #[]))::
(nat_lit 199, (q0 "small_words" 410 "NotOpen.small_words" 411 412 41 1 194 195 196 197 198 414 415))::
(nat_lit 200, (q1 "small_words" "NotOpen.small_words" 41 20 24 42 8 15 16 "evenhall.errors" 194 199))::
(nat_lit 201, (kT #[]))::
(nat_lit 202, (q5 P 405 409 39 408 "small_words" 416 200 "__static_attributes__" 417 201 418 2))::
(nat_lit 203, (q2 "NotOpen" 203 202 187 398 406))::
(nat_lit 206, (kT #[(kR 31)]))::
(nat_lit 213, (kT #[]))::
(nat_lit 215, (kT #[(kz "self" 436)]))::
(nat_lit 216, (kT #[]))::
(nat_lit 218, (q0 "small_words" 433 "HasBelow.small_words" 434 435 45 1 213 214 215 216 217 437 438))::
(nat_lit 219, (q1 "small_words" "HasBelow.small_words" 45 20 24 46 9 15 16 "evenhall.errors" 194 218))::
(nat_lit 220, (kT #[]))::
(nat_lit 221, (q5 P 428 432 43 431 "small_words" 439 219 "__static_attributes__" 440 220 441 2))::
(nat_lit 222, (q2 "HasBelow" 222 221 206 421 429))::
(nat_lit 225, (kT #[(kR 31)]))::
(nat_lit 232, (kT #[]))::
(nat_lit 234, (kT #[(kz "self" 459)]))::
(nat_lit 235, (kT #[]))::
(nat_lit 237, (q0 "small_words" 456 "NoBooking.small_words" 457 458 49 1 232 233 234 235 236 460 461))::
(nat_lit 238, (q1 "small_words" "NoBooking.small_words" 49 20 24 50 10 16 17 "evenhall.errors" 194 237))::
(nat_lit 239, (kT #[]))::
(nat_lit 240, (q5 P 451 455 47 454 "small_words" 462 238 "__static_attributes__" 463 239 464 2))::
(nat_lit 241, (q2 "NoBooking" 241 240 225 444 452))::
(nat_lit 244, (kT #[(kR 31)]))::
(nat_lit 251, (kT #[]))::
(nat_lit 253, (kT #[(kz "self" 482)]))::
(nat_lit 254, (kT #[]))::
(nat_lit 256, (q0 "small_words" 479 "NotNext.small_words" 480 481 53 1 251 252 253 254 255 483 484))::
(nat_lit 257, (q1 "small_words" "NotNext.small_words" 53 20 24 54 11 16 17 "evenhall.errors" 194 256))::
(nat_lit 258, (kT #[]))::
(nat_lit 259, (q5 P 474 478 51 477 "small_words" 485 257 "__static_attributes__" 486 258 487 2))::
(nat_lit 260, (q2 "NotNext" 260 259 244 467 475))::
(nat_lit 263, (kT #[]))::
(nat_lit 265, (kT #[(kz "thing" 495)]))::
(nat_lit 266, (kT #[]))::
(nat_lit 268, (q0 "is_whole" 492 "is_whole" 493 494 56 1 263 264 265 266 267 496 497))::
(nat_lit 269, (kO (kY "function") none (Data.func (PySem.W.fnOf (kS "is_whole") (kS "is_whole") (aC dO) (av dO) (ad dO) kN kN kN (kz "evenhall.words" 490) none (kR 268) kN)) #[]))::
(nat_lit 270, (kT #[]))::
(nat_lit 272, (kT #[(kz "thing" 502), (kz "least" 503), (kz "most" 504)]))::
(nat_lit 273, (kT #[]))::
(nat_lit 275, (q0 "is_among" 499 "is_among" 500 501 58 3 270 271 272 273 274 505 506))::
(nat_lit 276, (kO (kY "function") none (Data.func (PySem.W.fnOf (kS "is_among") (kS "is_among") (aC dU) (av dU) (ad dU) kN kN kN (kz "evenhall.words" 490) none (kR 275) kN)) #[]))::
(nat_lit 277, (kT #[]))::
(nat_lit 280, (q3 "signs_lie" 508 "signs_lie" 509 510 60 3 277 278 279 511 512))::
(nat_lit 281, (kO (kY "function") none (Data.func (PySem.W.fnOf (kS "signs_lie") (kS "signs_lie") (aC cS) (av cS) (ad cS) kN kN kN (kz "evenhall.words" 490) none (kR 280) kN)) #[]))::
(nat_lit 282, (kT #[]))::
(nat_lit 284, (kT #[(kz "thing" 517)]))::
(nat_lit 285, (kT #[]))::
(nat_lit 287, (q0 "is_name" 514 "is_name" 515 516 62 1 282 283 284 285 286 518 519))::
(nat_lit 288, (kO (kY "function") none (Data.func (PySem.W.fnOf (kS "is_name") (kS "is_name") (aC eE) (av eE) (ad eE) kN kN kN (kz "evenhall.words" 490) none (kR 287) kN)) #[]))::
(nat_lit 289, (kT #[(kI 31 523), (kI 28 524), (kI 31 525), (kI 30 526), (kI 31 527), (kI 30 528), (kI 31 529), (kI 31 530), (kI 30 531), (kI 31 532), (kI 30 533), (kI 31 534)]))::
(nat_lit 290, (kT #[]))::
(nat_lit 292, (kT #[(kz "thing" 539)]))::
(nat_lit 293, (kT #[]))::
(nat_lit 295, (q0 "is_day" 536 "is_day" 537 538 66 1 290 291 292 293 294 540 541))::
(nat_lit 296, (kO (kY "function") none (Data.func (PySem.W.fnOf (kS "is_day") (kS "is_day") (aC gf) (av gf) (ad gf) kN kN kN (kz "evenhall.days" 521) none (kR 295) kN)) #[]))::
(nat_lit 297, (kT #[]))::
(nat_lit 299, (kT #[(kz "thing" 546)]))::
(nat_lit 300, (kT #[]))::
(nat_lit 302, (q0 "is_month" 543 "is_month" 544 545 68 1 297 298 299 300 301 547 548))::
(nat_lit 303, (kO (kY "function") none (Data.func (PySem.W.fnOf (kS "is_month") (kS "is_month") (aC dQ) (av dQ) (ad dQ) kN kN kN (kz "evenhall.days" 521) none (kR 302) kN)) #[]))::
(nat_lit 304, (kT #[]))::
(nat_lit 306, (kT #[(kz "years" 553)]))::
(nat_lit 307, (kT #[]))::
(nat_lit 309, (q0 "leap_days" 550 "leap_days" 551 552 70 1 304 305 306 307 308 554 555))::
(nat_lit 310, (kO (kY "function") none (Data.func (PySem.W.fnOf (kS "leap_days") (kS "leap_days") (aC cP) (av cP) (ad cP) kN kN kN (kz "evenhall.days" 521) none (kR 309) kN)) #[]))::
(nat_lit 311, (kT #[]))::
(nat_lit 313, (kT #[(kz "month" 560), (kz "years" 561), (kz "ahead" 562), (kz "leaps" 563)]))::
(nat_lit 314, (kT #[]))::
(nat_lit 316, (q0 "first_day" 557 "first_day" 558 559 72 1 311 312 313 314 315 564 565))::
(nat_lit 317, (kO (kY "function") none (Data.func (PySem.W.fnOf (kS "first_day") (kS "first_day") (aC cZ) (av cZ) (ad cZ) kN kN kN (kz "evenhall.days" 521) none (kR 316) kN)) #[]))::
(nat_lit 318, (kT #[]))::
(nat_lit 320, (kT #[(kz "month" 570)]))::
(nat_lit 321, (kT #[]))::
(nat_lit 323, (q0 "last_day" 567 "last_day" 568 569 77 1 318 319 320 321 322 571 572))::
(nat_lit 324, (kO (kY "function") none (Data.func (PySem.W.fnOf (kS "last_day") (kS "last_day") (aC dJ) (av dJ) (ad dJ) kN kN kN (kz "evenhall.days" 521) none (kR 323) kN)) #[]))::
(nat_lit 325, (kT #[]))::
(nat_lit 327, (kT #[(kz "thing" 579)]))::
(nat_lit 328, (kT #[]))::
(nat_lit 330, (q0 "is_currency" 576 "is_currency" 577 578 80 1 325 326 327 328 329 580 581))::
(nat_lit 331, (kO (kY "function") none (Data.func (PySem.W.fnOf (kS "is_currency") (kS "is_currency") (aC b7) (av b7) (ad b7) kN kN kN (kz "evenhall.money" 574) none (kR 330) kN)) #[]))::
(nat_lit 332, (kT #[]))::
(nat_lit 335, (q3 "sums_of" 585 "sums_of" 586 587 83 1 332 333 334 588 589))::
(nat_lit 336, (kO (kY "function") none (Data.func (PySem.W.fnOf (kS "sums_of") (kS "sums_of") (aC eL) (av eL) (ad eL) kN kN kN (kz "evenhall.bookings" 583) none (kR 335) kN)) #[]))::
(nat_lit 337, (kT #[]))::
(nat_lit 340, (q3 "are_names" 593 "are_names" 594 595 89 1 337 338 339 596 597))::
(nat_lit 341, (kO (kY "function") none (Data.func (PySem.W.fnOf (kS "are_names") (kS "are_names") (aC cR) (av cR) (ad cR) kN kN kN (kz "evenhall.paths" 591) none (kR 340) kN)) #[]))::
(nat_lit 342, (kT #[]))::
(nat_lit 344, (kT #[(kz "thing" 602)]))::
(nat_lit 345, (kT #[]))::
(nat_lit 347, (q0 "is_path" 599 "is_path" 600 601 91 1 342 343 344 345 346 603 604))::
(nat_lit 348, (kO (kY "function") none (Data.func (PySem.W.fnOf (kS "is_path") (kS "is_path") (aC eM) (av eM) (ad eM) kN kN kN (kz "evenhall.paths" 591) none (kR 347) kN)) #[]))::
(nat_lit 349, (kT #[]))::
(nat_lit 351, (kT #[(kz "path" 609)]))::
(nat_lit 352, (kT #[]))::
(nat_lit 354, (q0 "names_of" 606 "names_of" 607 608 93 1 349 350 351 352 353 610 611))::
(nat_lit 355, (kO (kY "function") none (Data.func (PySem.W.fnOf (kS "names_of") (kS "names_of") (aC dS) (av dS) (ad dS) kN kN kN (kz "evenhall.paths" 591) none (kR 354) kN)) #[]))::
(nat_lit 356, (kT #[]))::
(nat_lit 359, (q3 "above" 613 "above" 614 615 97 1 356 357 358 616 617))::
(nat_lit 360, (kO (kY "function") none (Data.func (PySem.W.fnOf (kS "above") (kS "above") (aC iD) (av iD) (ad iD) kN kN kN (kz "evenhall.paths" 591) none (kR 359) kN)) #[]))::
(nat_lit 361, (kT #[]))::
(nat_lit 363, (kT #[(kz "bookings" 624), (kz "rows" 625), (kz "booking" 626)]))::
(nat_lit 364, (kT #[]))::
(nat_lit 366, (q0 "rows_of" 621 "rows_of" 622 623 101 1 361 362 363 364 365 627 628))::
(nat_lit 367, (kO (kY "function") none (Data.func (PySem.W.fnOf (kS "rows_of") (kS "rows_of") (aC eO) (av eO) (ad eO) kN kN kN (kz "evenhall.reports" 619) none (kR 366) kN)) #[]))::
(nat_lit 368, (kT #[]))::
(nat_lit 371, (q3 "bookings_up_to" 630 "bookings_up_to" 631 632 106 2 368 369 370 633 634))::
(nat_lit 372, (kO (kY "function") none (Data.func (PySem.W.fnOf (kS "bookings_up_to") (kS "bookings_up_to") (aC bC) (av bC) (ad bC) kN kN kN (kz "evenhall.reports" 619) none (kR 371) kN)) #[]))::
(nat_lit 373, (kT #[]))::
(nat_lit 375, (kT #[(kz "chart" 639), (kz "journal" 640), (kz "day" 641)]))::
(nat_lit 376, (kT #[]))::
(nat_lit 378, (q0 "balances" 636 "balances" 637 638 108 3 373 374 375 376 377 642 643))::
(nat_lit 379, (kO (kY "function") none (Data.func (PySem.W.fnOf (kS "balances") (kS "balances") (aC dH) (av dH) (ad dH) kN kN kN (kz "evenhall.reports" 619) none (kR 378) kN)) #[]))::
(nat_lit 380, (kT #[]))::
(nat_lit 382, (kT #[(kz "chart" 650), (kz "journal" 651), (kz "month" 652), (kz "day" 653)]))::
(nat_lit 383, (kT #[]))::
(nat_lit 385, (q0 "seal" 647 "seal" 648 649 111 3 380 381 382 383 384 654 655))::
(nat_lit 386, (kO (kY "function") none (Data.func (PySem.W.fnOf (kS "seal") (kS "seal") (aC kX) (av kX) (ad kX) kN kN kN (kz "evenhall.seals" 645) none (kR 385) kN)) #[]))::
(nat_lit 387, (kT #[]))::
(nat_lit 389, (kT #[(kz "chart" 660), (kz "journal" 661), (kz "told" 662)]))::
(nat_lit 390, (kT #[]))::
(nat_lit 392, (q0 "holds" 657 "holds" 658 659 116 3 387 388 389 390 391 663 664))::
(nat_lit 393, (kO (kY "function") none (Data.func (PySem.W.fnOf (kS "holds") (kS "holds") (aC iB) (av iB) (ad iB) kN kN kN (kz "evenhall.seals" 645) none (kR 392) kN)) #[]))::
(nat_lit 401, (kT #[]))::
(nat_lit 403, (kT #[(kz "self" 681)]))::
(nat_lit 404, (kT #[]))::
(nat_lit 406, (q0 "__init__" 678 "Seals.__init__" 679 680 120 1 401 402 403 404 405 682 683))::
(nat_lit 407, (kO (kY "function") none (Data.func (PySem.W.fnOf (kS "__init__") (kS "Seals.__init__") (aC bD) (av bD) (ad bD) kN kN kN (kz "evenhall.seals" 645) none (kR 406) kN)) #[]))::
(nat_lit 408, (kT #[]))::
(nat_lit 410, (kT #[(kz "self" 688), (kz "told" 689)]))::
(nat_lit 411, (kT #[]))::
(nat_lit 413, (q0 "put" 685 "Seals.put" 686 687 123 2 408 409 410 411 412 690 691))::
(nat_lit 414, (kO (kY "function") none (Data.func (PySem.W.fnOf (kS "put") (kS "Seals.put") (aC c8) (av c8) (ad c8) kN kN kN (kz "evenhall.seals" 645) none (kR 413) kN)) #[]))::
(nat_lit 415, (kT #[]))::
(nat_lit 417, (kT #[(kz "self" 696)]))::
(nat_lit 418, (kT #[]))::
(nat_lit 420, (q0 "every" 693 "Seals.every" 694 695 126 1 415 416 417 418 419 697 698))::
(nat_lit 421, (kO (kY "function") none (Data.func (PySem.W.fnOf (kS "every") (kS "Seals.every") (aC ce) (av ce) (ad ce) kN kN kN (kz "evenhall.seals" 645) none (kR 420) kN)) #[]))::
(nat_lit 422, (kT #[(kz "told_seals" 700)]))::
(nat_lit 423, (kO (kY "dict") none (Data.dict #[(kE P "__module__" 673 (kz "evenhall.seals" 645)), (kE P "__firstlineno__" 677 (kI 118 676)), (kE P "__init__" 684 (kR 407)), (kE P "put" 692 (kR 414)), (kE P "every" 699 (kR 421)), (kE P "__static_attributes__" 701 (kR 422)), (kE P "__dict__" 703 (kR 425)), (kE P "__weakref__" 705 (kR 426)), (kE P "__doc__" 706 kN)] 4) #[]))::
(nat_lit 424, (q6 "Seals" 424 423 666 674))::
(nat_lit 425, (q8 702 424))::
(nat_lit 426, (q7 704 424))::
(nat_lit 429, (kT #[(kz "have" 711), (kz "owe" 712), (kz "own" 713), (kz "gain" 714), (kz "cost" 715)]))::
(nat_lit 437, (kT #[]))::
(nat_lit 439, (kT #[(kz "self" 732), (kz "kind" 733), (kz "currency" 734), (kz "first" 735)]))::
(nat_lit 440, (kT #[]))::
(nat_lit 442, (q0 "__init__" 729 "Account.__init__" 730 731 132 4 437 438 439 440 441 736 737))::
(nat_lit 443, (kO (kY "function") none (Data.func (PySem.W.fnOf (kS "__init__") (kS "Account.__init__") (aC bq) (av bq) (ad bq) kN kN kN (kz "evenhall.chart" 709) none (kR 442) kN)) #[]))::
(nat_lit 444, (kT #[]))::
(nat_lit 446, (kT #[(kz "self" 742), (kz "day" 743)]))::
(nat_lit 447, (kT #[]))::
(nat_lit 449, (q0 "stands_on" 739 "Account.stands_on" 740 741 139 2 444 445 446 447 448 744 745))::
(nat_lit 450, (kO (kY "function") none (Data.func (PySem.W.fnOf (kS "stands_on") (kS "Account.stands_on") (aC bg) (av bg) (ad bg) kN kN kN (kz "evenhall.chart" 709) none (kR 449) kN)) #[]))::
(nat_lit 451, (kT #[]))::
(nat_lit 453, (kT #[(kz "self" 750), (kz "day" 751)]))::
(nat_lit 454, (kT #[]))::
(nat_lit 456, (q0 "stands_later" 747 "Account.stands_later" 748 749 142 2 451 452 453 454 455 752 753))::
(nat_lit 457, (kO (kY "function") none (Data.func (PySem.W.fnOf (kS "stands_later") (kS "Account.stands_later") (aC aX) (av aX) (ad aX) kN kN kN (kz "evenhall.chart" 709) none (kR 456) kN)) #[]))::
(nat_lit 458, (kT #[(kz "below" 755), (kz "currency" 756), (kz "first" 757), (kz "kind" 758), (kz "until" 759)]))::
(nat_lit 459, (kO (kY "dict") none (Data.dict #[(kE P "__module__" 724 (kz "evenhall.chart" 709)), (kE P "__firstlineno__" 728 (kI 130 727)), (kE P "__init__" 738 (kR 443)), (kE P "stands_on" 746 (kR 450)), (kE P "stands_later" 754 (kR 457)), (kE P "__static_attributes__" 760 (kR 458)), (kE P "__dict__" 762 (kR 461)), (kE P "__weakref__" 764 (kR 462)), (kE P "__doc__" 765 kN)] 4) #[]))::
(nat_lit 460, (q6 "Account" 460 459 717 725))::
(nat_lit 461, (q8 761 460))::
(nat_lit 462, (q7 763 460))::
(nat_lit 472, (kT #[]))::
(nat_lit 474, (kT #[(kz "self" 783)]))::
(nat_lit 475, (kT #[]))::
(nat_lit 477, (q0 "__init__" 780 "Chart.__init__" 781 782 146 1 472 473 474 475 476 784 785))::
(nat_lit 478, (kO (kY "function") none (Data.func (PySem.W.fnOf (kS "__init__") (kS "Chart.__init__") (aC bB) (av bB) (ad bB) kN kN kN (kz "evenhall.chart" 709) none (kR 477) kN)) #[]))::
(nat_lit 479, (kT #[]))::
(nat_lit 481, (kT #[(kz "self" 790), (kz "name" 791), (kz "kind" 792)]))::
(nat_lit 482, (kT #[]))::
(nat_lit 484, (q0 "add_top" 787 "Chart.add_top" 788 789 149 3 479 480 481 482 483 793 794))::
(nat_lit 485, (kO (kY "function") none (Data.func (PySem.W.fnOf (kS "add_top") (kS "Chart.add_top") (aC bK) (av bK) (ad bK) kN kN kN (kz "evenhall.chart" 709) none (kR 484) kN)) #[]))::
(nat_lit 486, (kT #[]))::
(nat_lit 488, (kT #[(kz "self" 799), (kz "path" 800), (kz "currency" 801), (kz "day" 802), (kz "upper" 803)]))::
(nat_lit 489, (kT #[]))::
(nat_lit 491, (q0 "add" 796 "Chart.add" 797 798 158 4 486 487 488 489 490 804 805))::
(nat_lit 492, (kO (kY "function") none (Data.func (PySem.W.fnOf (kS "add") (kS "Chart.add") (aC bW) (av bW) (ad bW) kN kN kN (kz "evenhall.chart" 709) none (kR 491) kN)) #[]))::
(nat_lit 493, (kT #[]))::
(nat_lit 496, (q3 "shut" 807 "Chart.shut" 808 809 173 3 493 494 495 810 811))::
(nat_lit 497, (kO (kY "function") none (Data.func (PySem.W.fnOf (kS "shut") (kS "Chart.shut") (aC cw) (av cw) (ad cw) kN kN kN (kz "evenhall.chart" 709) none (kR 496) kN)) #[]))::
(nat_lit 498, (kT #[]))::
(nat_lit 500, (kT #[(kz "self" 816), (kz "path" 817)]))::
(nat_lit 501, (kT #[]))::
(nat_lit 503, (q0 "has" 813 "Chart.has" 814 815 185 2 498 499 500 501 502 818 819))::
(nat_lit 504, (kO (kY "function") none (Data.func (PySem.W.fnOf (kS "has") (kS "Chart.has") (aC cU) (av cU) (ad cU) kN kN kN (kz "evenhall.chart" 709) none (kR 503) kN)) #[]))::
(nat_lit 505, (kT #[]))::
(nat_lit 507, (kT #[(kz "self" 824), (kz "path" 825)]))::
(nat_lit 508, (kT #[]))::
(nat_lit 510, (q0 "account" 821 "Chart.account" 822 823 188 2 505 506 507 508 509 826 827))::
(nat_lit 511, (kO (kY "function") none (Data.func (PySem.W.fnOf (kS "account") (kS "Chart.account") (aC bL) (av bL) (ad bL) kN kN kN (kz "evenhall.chart" 709) none (kR 510) kN)) #[]))::
(nat_lit 512, (kT #[]))::
(nat_lit 514, (kT #[(kz "self" 832), (kz "path" 833)]))::
(nat_lit 515, (kT #[]))::
(nat_lit 517, (q0 "kind_of" 829 "Chart.kind_of" 830 831 193 2 512 513 514 515 516 834 835))::
(nat_lit 518, (q4 "kind_of" "Chart.kind_of" 193 16 20 "path" 22 26 194 12 "evenhall.chart" 709 517))::
(nat_lit 519, (kT #[]))::
(nat_lit 521, (kT #[(kz "self" 840), (kz "path" 841)]))::
(nat_lit 522, (kT #[]))::
(nat_lit 524, (q0 "currency_of" 837 "Chart.currency_of" 838 839 196 2 519 520 521 522 523 842 843))::
(nat_lit 525, (q4 "currency_of" "Chart.currency_of" 196 20 24 "path" 26 30 197 13 "evenhall.chart" 709 524))::
(nat_lit 526, (kT #[]))::
(nat_lit 528, (kT #[(kz "self" 848), (kz "path" 849)]))::
(nat_lit 529, (kT #[]))::
(nat_lit 531, (q0 "span_of" 845 "Chart.span_of" 846 847 199 2 526 527 528 529 530 850 851))::
(nat_lit 532, (q4 "span_of" "Chart.span_of" 199 16 20 "path" 22 26 200 14 "evenhall.chart" 709 531))::
(nat_lit 533, (kT #[]))::
(nat_lit 535, (kT #[(kz "self" 856), (kz "path" 857), (kz "day" 858)]))::
(nat_lit 536, (kT #[]))::
(nat_lit 538, (q0 "is_open" 853 "Chart.is_open" 854 855 202 3 533 534 535 536 537 859 860))::
(nat_lit 539, (kO (kY "function") none (Data.func (FuncData.mk (kS "is_open") (kS "Chart.is_open") (Arguments.mk [] [(Arg.mk (kS "self") none (Pos.mk 202 16 202 20)), (Arg.mk (kS "path") none (Pos.mk 202 22 202 26)), (Arg.mk (kS "day") none (Pos.mk 202 28 202 31))] none [] [] none []) (FuncBody.stmts [(Stmt.Expr (Expr.Call (Expr.Name (kS "_wall") (Pos.mk 203 8 203 13)) [(Expr.Constant (Const.int 15) 0 (Pos.mk 203 14 203 16))] [] (Pos.mk 203 8 203 17)) (Pos.mk 203 8 203 17))]) (Scope.mk ScopeKind.function [((kS "self"), NameKind.local), ((kS "path"), NameKind.local), ((kS "day"), NameKind.local), ((kS "_wall"), NameKind.globalImplicit)] false false []) 3 [] kN kN kN (kz "evenhall.chart" 709) none (kR 538) kN 0)) #[]))::
(nat_lit 540, (kT #[]))::
(nat_lit 542, (kT #[(kz "self" 865), (kz "path" 866)]))::
(nat_lit 543, (kT #[]))::
(nat_lit 545, (q0 "beneath" 862 "Chart.beneath" 863 864 205 2 540 541 542 543 544 867 868))::
(nat_lit 546, (kO (kY "function") none (Data.func (PySem.W.fnOf (kS "beneath") (kS "Chart.beneath") (aC cL) (av cL) (ad cL) kN kN kN (kz "evenhall.chart" 709) none (kR 545) kN)) #[]))::
(nat_lit 547, (kT #[]))::
(nat_lit 549, (kT #[(kz "self" 873)]))::
(nat_lit 550, (kT #[]))::
(nat_lit 552, (q0 "accounts" 870 "Chart.accounts" 871 872 208 1 547 548 549 550 551 874 875))::
(nat_lit 553, (q1 "accounts" "Chart.accounts" 208 17 21 209 16 16 17 "evenhall.chart" 709 552))::
(nat_lit 554, (kT #[(kz "by_path" 877)]))::
(nat_lit 555, (kO (kY "dict") none (Data.dict #[(kE P "__module__" 775 (kz "evenhall.chart" 709)), (kE P "__firstlineno__" 779 (kI 144 778)), (kE P "__init__" 786 (kR 478)), (kE P "add_top" 795 (kR 485)), (kE P "add" 806 (kR 492)), (kE P "shut" 812 (kR 497)), (kE P "has" 820 (kR 504)), (kE P "account" 828 (kR 511)), (kE P "kind_of" 836 (kR 518)), (kE P "currency_of" 844 (kR 525)), (kE P "span_of" 852 (kR 532)), (kE P "is_open" 861 (kR 539)), (kE P "beneath" 869 (kR 546)), (kE P "accounts" 876 (kR 553)), (kE P "__static_attributes__" 878 (kR 554)), (kE P "__dict__" 880 (kR 557)), (kE P "__weakref__" 882 (kR 558)), (kE P "__doc__" 883 kN)] 4) #[]))::
(nat_lit 556, (q6 "Chart" 556 555 768 776))::
(nat_lit 557, (q8 879 556))::
(nat_lit 558, (q7 881 556))::
(nat_lit 568, (kT #[]))::
(nat_lit 570, (kT #[(kz "self" 903)]))::
(nat_lit 571, (kT #[]))::
(nat_lit 573, (q0 "__init__" 900 "Journal.__init__" 901 902 213 1 568 569 570 571 572 904 905))::
(nat_lit 574, (kO (kY "function") none (Data.func (PySem.W.fnOf (kS "__init__") (kS "Journal.__init__") (aC bp) (av bp) (ad bp) kN kN kN (kz "evenhall.journal" 886) none (kR 573) kN)) #[]))::
(nat_lit 575, (kT #[]))::
(nat_lit 577, (kT #[(kz "self" 910), (kz "day" 911), (kz "note" 912), (kz "rows" 913), (kz "undoes" 914), (kz "number" 915)]))::
(nat_lit 578, (kT #[]))::
(nat_lit 580, (q0 "put" 907 "Journal.put" 908 909 217 5 575 576 577 578 579 916 917))::
(nat_lit 581, (kO (kY "function") none (Data.func (PySem.W.fnOf (kS "put") (kS "Journal.put") (aC b_) (av b_) (ad b_) kN kN kN (kz "evenhall.journal" 886) none (kR 580) kN)) #[]))::
(nat_lit 582, (kT #[]))::
(nat_lit 584, (kT #[(kz "self" 922)]))::
(nat_lit 585, (kT #[]))::
(nat_lit 587, (q0 "many" 919 "Journal.many" 920 921 224 1 582 583 584 585 586 923 924))::
(nat_lit 588, (kO (kY "function") none (Data.func (PySem.W.fnOf (kS "many") (kS "Journal.many") (aC cY) (av cY) (ad cY) kN kN kN (kz "evenhall.journal" 886) none (kR 587) kN)) #[]))::
(nat_lit 589, (kT #[]))::
(nat_lit 591, (kT #[(kz "self" 929), (kz "number" 930)]))::
(nat_lit 592, (kT #[]))::
(nat_lit 594, (q0 "booking" 926 "Journal.booking" 927 928 227 2 589 590 591 592 593 931 932))::
(nat_lit 595, (kO (kY "function") none (Data.func (PySem.W.fnOf (kS "booking") (kS "Journal.booking") (aC b6) (av b6) (ad b6) kN kN kN (kz "evenhall.journal" 886) none (kR 594) kN)) #[]))::
(nat_lit 596, (kT #[]))::
(nat_lit 598, (kT #[(kz "self" 937)]))::
(nat_lit 599, (kT #[]))::
(nat_lit 601, (q0 "every" 934 "Journal.every" 935 936 232 1 596 597 598 599 600 938 939))::
(nat_lit 602, (kO (kY "function") none (Data.func (PySem.W.fnOf (kS "every") (kS "Journal.every") (aC bI) (av bI) (ad bI) kN kN kN (kz "evenhall.journal" 886) none (kR 601) kN)) #[]))::
(nat_lit 603, (kT #[]))::
(nat_lit 605, (kT #[(kz "self" 944), (kz "number" 945)]))::
(nat_lit 606, (kT #[]))::
(nat_lit 608, (q0 "undone_by" 941 "Journal.undone_by" 942 943 235 2 603 604 605 606 607 946 947))::
(nat_lit 609, (q4 "undone_by" "Journal.undone_by" 235 18 22 "number" 24 30 236 17 "evenhall.journal" 886 608))::
(nat_lit 610, (kT #[(kz "bookings" 949), (kz "undoings" 950)]))::
(nat_lit 611, (kO (kY "dict") none (Data.dict #[(kE P "__module__" 895 (kz "evenhall.journal" 886)), (kE P "__firstlineno__" 899 (kI 211 898)), (kE P "__init__" 906 (kR 574)), (kE P "put" 918 (kR 581)), (kE P "many" 925 (kR 588)), (kE P "booking" 933 (kR 595)), (kE P "every" 940 (kR 602)), (kE P "undone_by" 948 (kR 609)), (kE P "__static_attributes__" 951 (kR 610)), (kE P "__dict__" 953 (kR 613)), (kE P "__weakref__" 955 (kR 614)), (kE P "__doc__" 956 kN)] 4) #[]))::
(nat_lit 612, (q6 "Journal" 612 611 888 896))::
(nat_lit 613, (q8 952 612))::
(nat_lit 614, (q7 954 612))::
(nat_lit 617, (kT #[]))::
(nat_lit 619, (kT #[(kz "_law_script" 964), (kz "_law_k" 965)]))::
(nat_lit 620, (kT #[]))::
(nat_lit 622, (q0 "_law_cell_at" 961 "_law_cell_at" 962 963 238 2 617 618 619 620 621 966 967))::
(nat_lit 623, (kO (kY "function") none (Data.func (PySem.W.fnOf (kS "_law_cell_at") (kS "_law_cell_at") (aC bS) (av bS) (ad bS) kN kN kN (kz "law_evenhall_k21_seals" 959) none (kR 622) kN)) #[]))::
(nat_lit 624, (kT #[]))::
(nat_lit 626, (kT #[(kz "_law_found" 972)]))::
(nat_lit 627, (kT #[]))::
(nat_lit 629, (q0 "_law_whole" 969 "_law_whole" 970 971 242 1 624 625 626 627 628 973 974))::
(nat_lit 630, (kO (kY "function") none (Data.func (PySem.W.fnOf (kS "_law_whole") (kS "_law_whole") (aC cH) (av cH) (ad cH) kN kN kN (kz "law_evenhall_k21_seals" 959) none (kR 629) kN)) #[]))::
(nat_lit 631, (kT #[]))::
(nat_lit 634, (q3 "_law_names" 976 "_law_names" 977 978 244 1 631 632 633 979 980))::
(nat_lit 635, (kO (kY "function") none (Data.func (PySem.W.fnOf (kS "_law_names") (kS "_law_names") (aC cC) (av cC) (ad cC) kN kN kN (kz "law_evenhall_k21_seals" 959) none (kR 634) kN)) #[]))::
(nat_lit 636, (kT #[]))::
(nat_lit 639, (q3 "_law_currencies" 982 "_law_currencies" 983 984 252 1 636 637 638 985 986))::
(nat_lit 640, (kO (kY "function") none (Data.func (PySem.W.fnOf (kS "_law_currencies") (kS "_law_currencies") (aC bw) (av bw) (ad bw) kN kN kN (kz "law_evenhall_k21_seals" 959) none (kR 639) kN)) #[]))::
(nat_lit 641, (kT #[]))::
(nat_lit 643, (kT #[(kz "_law_year" 991)]))::
(nat_lit 644, (kT #[]))::
(nat_lit 646, (q0 "_law_start" 988 "_law_start" 989 990 255 1 641 642 643 644 645 992 993))::
(nat_lit 647, (kO (kY "function") none (Data.func (PySem.W.fnOf (kS "_law_start") (kS "_law_start") (aC cB) (av cB) (ad cB) kN kN kN (kz "law_evenhall_k21_seals" 959) none (kR 646) kN)) #[]))::
(nat_lit 648, (kT #[]))::
(nat_lit 650, (kT #[(kz "_law_year" 998), (kz "_law_second" 999)]))::
(nat_lit 651, (kT #[]))::
(nat_lit 653, (q0 "_law_lengths" 995 "_law_lengths" 996 997 257 1 648 649 650 651 652 1000 1001))::
(nat_lit 654, (kO (kY "function") none (Data.func (PySem.W.fnOf (kS "_law_lengths") (kS "_law_lengths") (aC bQ) (av bQ) (ad bQ) kN kN kN (kz "law_evenhall_k21_seals" 959) none (kR 653) kN)) #[]))::
(nat_lit 655, (kT #[]))::
(nat_lit 657, (kT #[(kz "_law_month_here" 1006), (kz "_law_lengths_here" 1007), (kz "_law_first" 1008)]))::
(nat_lit 658, (kT #[]))::
(nat_lit 660, (q0 "_law_month_ends" 1003 "_law_month_ends" 1004 1005 260 1 655 656 657 658 659 1009 1010))::
(nat_lit 661, (kO (kY "function") none (Data.func (PySem.W.fnOf (kS "_law_month_ends") (kS "_law_month_ends") (aC br) (av br) (ad br) kN kN kN (kz "law_evenhall_k21_seals" 959) none (kR 660) kN)) #[]))::
(nat_lit 662, (kT #[]))::
(nat_lit 664, (kT #[(kz "_law_day_here" 1015), (kz "_law_year" 1016), (kz "_law_month_here" 1017)]))::
(nat_lit 665, (kT #[]))::
(nat_lit 667, (q0 "_law_month" 1012 "_law_month" 1013 1014 264 1 662 663 664 665 666 1018 1019))::
(nat_lit 668, (kO (kY "function") none (Data.func (PySem.W.fnOf (kS "_law_month") (kS "_law_month") (aC cE) (av cE) (ad cE) kN kN kN (kz "law_evenhall_k21_seals" 959) none (kR 667) kN)) #[]))::
(nat_lit 669, (kT #[]))::
(nat_lit 671, (kT #[(kz "_law_script" 1024), (kz "_law_cell" 1025)]))::
(nat_lit 672, (kT #[]))::
(nat_lit 674, (q0 "_law_base" 1021 "_law_base" 1022 1023 274 1 669 670 671 672 673 1026 1027))::
(nat_lit 675, (kO (kY "function") none (Data.func (PySem.W.fnOf (kS "_law_base") (kS "_law_base") (aC c5) (av c5) (ad c5) kN kN kN (kz "law_evenhall_k21_seals" 959) none (kR 674) kN)) #[]))::
(nat_lit 676, (kT #[]))::
(nat_lit 678, (kT #[(kz "_law_script" 1032), (kz "_law_k" 1033)]))::
(nat_lit 679, (kT #[]))::
(nat_lit 681, (q0 "_law_day" 1029 "_law_day" 1030 1031 277 2 676 677 678 679 680 1034 1035))::
(nat_lit 682, (kO (kY "function") none (Data.func (PySem.W.fnOf (kS "_law_day") (kS "_law_day") (aC dN) (av dN) (ad dN) kN kN kN (kz "law_evenhall_k21_seals" 959) none (kR 681) kN)) #[]))::
(nat_lit 683, (kT #[]))::
(nat_lit 685, (kT #[(kz "_law_script" 1040), (kz "_law_names_here" 1041), (kz "_law_currencies_here" 1042), (kz "_law_cell" 1043), (kz "_law_kinds" 1044), (kz "_law_tops" 1045), (kz "_law_accounts_here" 1046), (kz "_law_k" 1047), (kz "_law_some" 1048), (kz "_law_more" 1049), (kz "_law_upper" 1050), (kz "_law_until" 1051), (kz "_law_currency" 1052)]))::
(nat_lit 686, (kT #[]))::
(nat_lit 688, (q0 "_law_accounts" 1037 "_law_accounts" 1038 1039 279 1 683 684 685 686 687 1053 1054))::
(nat_lit 689, (kO (kY "function") none (Data.func (PySem.W.fnOf (kS "_law_accounts") (kS "_law_accounts") (aC aP) (av aP) (ad aP) kN kN kN (kz "law_evenhall_k21_seals" 959) none (kR 688) kN)) #[]))::
(nat_lit 690, (kT #[]))::
(nat_lit 692, (kT #[(kz "_law_accounts_here" 1059), (kz "_law_chart_here" 1060), (kz "_law_path" 1061), (kz "_law_currency" 1062), (kz "_law_first" 1063), (kz "_law_until" 1064), (kz "_law_kind" 1065)]))::
(nat_lit 693, (kT #[]))::
(nat_lit 695, (q0 "_law_chart" 1056 "_law_chart" 1057 1058 298 1 690 691 692 693 694 1066 1067))::
(nat_lit 696, (kO (kY "function") none (Data.func (PySem.W.fnOf (kS "_law_chart") (kS "_law_chart") (aC bM) (av bM) (ad bM) kN kN kN (kz "law_evenhall_k21_seals" 959) none (kR 695) kN)) #[]))::
(nat_lit 697, (kT #[]))::
(nat_lit 699, (kT #[(kz "_law_accounts_here" 1072), (kz "_law_path" 1073), (kz "_law_day_here" 1074), (kz "_law_first" 1075), (kz "_law_until" 1076)]))::
(nat_lit 700, (kT #[]))::
(nat_lit 702, (q0 "_law_is_open" 1069 "_law_is_open" 1070 1071 310 3 697 698 699 700 701 1077 1078))::
(nat_lit 703, (kO (kY "function") none (Data.func (PySem.W.fnOf (kS "_law_is_open") (kS "_law_is_open") (aC bN) (av bN) (ad bN) kN kN kN (kz "law_evenhall_k21_seals" 959) none (kR 702) kN)) #[]))::
(nat_lit 704, (kT #[]))::
(nat_lit 707, (q3 "_law_rows_by" 1080 "_law_rows_by" 1081 1082 313 4 704 705 706 1083 1084))::
(nat_lit 708, (kO (kY "function") none (Data.func (PySem.W.fnOf (kS "_law_rows_by") (kS "_law_rows_by") (aC bR) (av bR) (ad bR) kN kN kN (kz "law_evenhall_k21_seals" 959) none (kR 707) kN)) #[]))::
(nat_lit 709, (kT #[]))::
(nat_lit 712, (q3 "_law_balances" 1086 "_law_balances" 1087 1088 324 2 709 710 711 1089 1090))::
(nat_lit 713, (kO (kY "function") none (Data.func (PySem.W.fnOf (kS "_law_balances") (kS "_law_balances") (aC bJ) (av bJ) (ad bJ) kN kN kN (kz "law_evenhall_k21_seals" 959) none (kR 712) kN)) #[]))::
(nat_lit 714, (kT #[]))::
(nat_lit 716, (kT #[(kz "_law_chart_here" 1095), (kz "_law_journal" 1096), (kz "_law_cell" 1097), (kz "_law_bad" 1098), (kz "e" 1099)]))::
(nat_lit 717, (kT #[]))::
(nat_lit 719, (q0 "_law_refused" 1092 "_law_refused" 1093 1094 331 3 714 715 716 717 718 1100 1101))::
(nat_lit 720, (kO (kY "function") none (Data.func (PySem.W.fnOf (kS "_law_refused") (kS "_law_refused") (aC bP) (av bP) (ad bP) kN kN kN (kz "law_evenhall_k21_seals" 959) none (kR 719) kN)) #[]))::
(nat_lit 721, (kT #[]))::
(nat_lit 724, (q3 "_law_due" 1103 "_law_due" 1104 1105 338 2 721 722 723 1106 1107))::
(nat_lit 725, (kO (kY "function") none (Data.func (PySem.W.fnOf (kS "_law_due") (kS "_law_due") (aC dF) (av dF) (ad dF) kN kN kN (kz "law_evenhall_k21_seals" 959) none (kR 724) kN)) #[]))::
(nat_lit 726, (kT #[]))::
(nat_lit 728, (kT #[(kz "_law_told" 1112), (kz "_law_cell" 1113), (kz "_law_month_here" 1114), (kz "_law_many" 1115), (kz "_law_rows" 1116), (kz "_law_more" 1117), (kz "_law_at" 1118), (kz "_law_path" 1119), (kz "_law_currency" 1120), (kz "_law_amount" 1121), (kz "_law_one" 1122), (kz "_law_other" 1123), (kz "_law_place" 1124)]))::
(nat_lit 729, (kT #[]))::
(nat_lit 731, (q0 "_law_spoilt" 1109 "_law_spoilt" 1110 1111 342 2 726 727 728 729 730 1125 1126))::
(nat_lit 732, (kO (kY "function") none (Data.func (PySem.W.fnOf (kS "_law_spoilt") (kS "_law_spoilt") (aC aN) (av aN) (ad aN) kN kN kN (kz "law_evenhall_k21_seals" 959) none (kR 731) kN)) #[]))::
(nat_lit 733, (kT #[]))::
(nat_lit 735, (kT #[(kz "_law_told" 1131), (kz "_law_other" 1132), (kz "_law_two" 1133), (kz "_law_k" 1134), (kz "_law_one" 1135), (kz "_law_found" 1136), (kz "_law_early" 1137)]))::
(nat_lit 736, (kT #[]))::
(nat_lit 738, (q0 "_law_kept" 1128 "_law_kept" 1129 1130 365 2 733 734 735 736 737 1138 1139))::
(nat_lit 739, (kO (kY "function") none (Data.func (PySem.W.fnOf (kS "_law_kept") (kS "_law_kept") (aC a6) (av a6) (ad a6) kN kN kN (kz "law_evenhall_k21_seals" 959) none (kR 738) kN)) #[]))::
(nat_lit 740, (kT #[]))::
(nat_lit 743, (q3 "law" 1141 "law" 1142 1143 378 1 740 741 742 1144 1145))::
(nat_lit 744, (kO (kY "function") none (Data.func (PySem.W.fnOf (kS "law") (kS "law") (aC bE) (av bE) (ad bE) kN kN kN (kz "law_evenhall_k21_seals" 959) none (kR 743) kN)) #[]))
 :: []
noncomputable def adrs : List Addr := [nat_lit 2, nat_lit 3, nat_lit 15, nat_lit 17, nat_lit 18, nat_lit 20, nat_lit 21, nat_lit 22, nat_lit 29, nat_lit 30, nat_lit 31, nat_lit 32, nat_lit 35, nat_lit 42, nat_lit 44, nat_lit 45, nat_lit 47, nat_lit 48, nat_lit 49, nat_lit 50, nat_lit 51, nat_lit 54, nat_lit 61, nat_lit 63, nat_lit 64, nat_lit 66, nat_lit 67, nat_lit 68, nat_lit 69, nat_lit 70, nat_lit 73, nat_lit 80, nat_lit 82, nat_lit 83, nat_lit 85, nat_lit 86, nat_lit 87, nat_lit 88, nat_lit 89, nat_lit 92, nat_lit 99, nat_lit 101, nat_lit 102, nat_lit 104, nat_lit 105, nat_lit 106, nat_lit 107, nat_lit 108, nat_lit 111, nat_lit 118, nat_lit 120, nat_lit 121, nat_lit 123, nat_lit 124, nat_lit 125, nat_lit 126, nat_lit 127, nat_lit 130, nat_lit 137, nat_lit 139, nat_lit 140, nat_lit 142, nat_lit 143, nat_lit 144, nat_lit 145, nat_lit 146, nat_lit 149, nat_lit 156, nat_lit 158, nat_lit 159, nat_lit 161, nat_lit 162, nat_lit 163, nat_lit 164, nat_lit 165, nat_lit 168, nat_lit 175, nat_lit 177, nat_lit 178, nat_lit 180, nat_lit 181, nat_lit 182, nat_lit 183, nat_lit 184, nat_lit 187, nat_lit 194, nat_lit 196, nat_lit 197, nat_lit 199, nat_lit 200, nat_lit 201, nat_lit 202, nat_lit 203, nat_lit 206, nat_lit 213, nat_lit 215, nat_lit 216, nat_lit 218, nat_lit 219, nat_lit 220, nat_lit 221, nat_lit 222, nat_lit 225, nat_lit 232, nat_lit 234, nat_lit 235, nat_lit 237, nat_lit 238, nat_lit 239, nat_lit 240, nat_lit 241, nat_lit 244, nat_lit 251, nat_lit 253, nat_lit 254, nat_lit 256, nat_lit 257, nat_lit 258, nat_lit 259, nat_lit 260, nat_lit 263, nat_lit 265, nat_lit 266, nat_lit 268, nat_lit 269, nat_lit 270, nat_lit 272, nat_lit 273, nat_lit 275, nat_lit 276, nat_lit 277, nat_lit 280, nat_lit 281, nat_lit 282, nat_lit 284, nat_lit 285, nat_lit 287, nat_lit 288, nat_lit 289, nat_lit 290, nat_lit 292, nat_lit 293, nat_lit 295, nat_lit 296, nat_lit 297, nat_lit 299, nat_lit 300, nat_lit 302, nat_lit 303, nat_lit 304, nat_lit 306, nat_lit 307, nat_lit 309, nat_lit 310, nat_lit 311, nat_lit 313, nat_lit 314, nat_lit 316, nat_lit 317, nat_lit 318, nat_lit 320, nat_lit 321, nat_lit 323, nat_lit 324, nat_lit 325, nat_lit 327, nat_lit 328, nat_lit 330, nat_lit 331, nat_lit 332, nat_lit 335, nat_lit 336, nat_lit 337, nat_lit 340, nat_lit 341, nat_lit 342, nat_lit 344, nat_lit 345, nat_lit 347, nat_lit 348, nat_lit 349, nat_lit 351, nat_lit 352, nat_lit 354, nat_lit 355, nat_lit 356, nat_lit 359, nat_lit 360, nat_lit 361, nat_lit 363, nat_lit 364, nat_lit 366, nat_lit 367, nat_lit 368, nat_lit 371, nat_lit 372, nat_lit 373, nat_lit 375, nat_lit 376, nat_lit 378, nat_lit 379, nat_lit 380, nat_lit 382, nat_lit 383, nat_lit 385, nat_lit 386, nat_lit 387, nat_lit 389, nat_lit 390, nat_lit 392, nat_lit 393, nat_lit 401, nat_lit 403, nat_lit 404, nat_lit 406, nat_lit 407, nat_lit 408, nat_lit 410, nat_lit 411, nat_lit 413, nat_lit 414, nat_lit 415, nat_lit 417, nat_lit 418, nat_lit 420, nat_lit 421, nat_lit 422, nat_lit 423, nat_lit 424, nat_lit 425, nat_lit 426, nat_lit 429, nat_lit 437, nat_lit 439, nat_lit 440, nat_lit 442, nat_lit 443, nat_lit 444, nat_lit 446, nat_lit 447, nat_lit 449, nat_lit 450, nat_lit 451, nat_lit 453, nat_lit 454, nat_lit 456, nat_lit 457, nat_lit 458, nat_lit 459, nat_lit 460, nat_lit 461, nat_lit 462, nat_lit 472, nat_lit 474, nat_lit 475, nat_lit 477, nat_lit 478, nat_lit 479, nat_lit 481, nat_lit 482, nat_lit 484, nat_lit 485, nat_lit 486, nat_lit 488, nat_lit 489, nat_lit 491, nat_lit 492, nat_lit 493, nat_lit 496, nat_lit 497, nat_lit 498, nat_lit 500, nat_lit 501, nat_lit 503, nat_lit 504, nat_lit 505, nat_lit 507, nat_lit 508, nat_lit 510, nat_lit 511, nat_lit 512, nat_lit 514, nat_lit 515, nat_lit 517, nat_lit 518, nat_lit 519, nat_lit 521, nat_lit 522, nat_lit 524, nat_lit 525, nat_lit 526, nat_lit 528, nat_lit 529, nat_lit 531, nat_lit 532, nat_lit 533, nat_lit 535, nat_lit 536, nat_lit 538, nat_lit 539, nat_lit 540, nat_lit 542, nat_lit 543, nat_lit 545, nat_lit 546, nat_lit 547, nat_lit 549, nat_lit 550, nat_lit 552, nat_lit 553, nat_lit 554, nat_lit 555, nat_lit 556, nat_lit 557, nat_lit 558, nat_lit 568, nat_lit 570, nat_lit 571, nat_lit 573, nat_lit 574, nat_lit 575, nat_lit 577, nat_lit 578, nat_lit 580, nat_lit 581, nat_lit 582, nat_lit 584, nat_lit 585, nat_lit 587, nat_lit 588, nat_lit 589, nat_lit 591, nat_lit 592, nat_lit 594, nat_lit 595, nat_lit 596, nat_lit 598, nat_lit 599, nat_lit 601, nat_lit 602, nat_lit 603, nat_lit 605, nat_lit 606, nat_lit 608, nat_lit 609, nat_lit 610, nat_lit 611, nat_lit 612, nat_lit 613, nat_lit 614, nat_lit 617, nat_lit 619, nat_lit 620, nat_lit 622, nat_lit 623, nat_lit 624, nat_lit 626, nat_lit 627, nat_lit 629, nat_lit 630, nat_lit 631, nat_lit 634, nat_lit 635, nat_lit 636, nat_lit 639, nat_lit 640, nat_lit 641, nat_lit 643, nat_lit 644, nat_lit 646, nat_lit 647, nat_lit 648, nat_lit 650, nat_lit 651, nat_lit 653, nat_lit 654, nat_lit 655, nat_lit 657, nat_lit 658, nat_lit 660, nat_lit 661, nat_lit 662, nat_lit 664, nat_lit 665, nat_lit 667, nat_lit 668, nat_lit 669, nat_lit 671, nat_lit 672, nat_lit 674, nat_lit 675, nat_lit 676, nat_lit 678, nat_lit 679, nat_lit 681, nat_lit 682, nat_lit 683, nat_lit 685, nat_lit 686, nat_lit 688, nat_lit 689, nat_lit 690, nat_lit 692, nat_lit 693, nat_lit 695, nat_lit 696, nat_lit 697, nat_lit 699, nat_lit 700, nat_lit 702, nat_lit 703, nat_lit 704, nat_lit 707, nat_lit 708, nat_lit 709, nat_lit 712, nat_lit 713, nat_lit 714, nat_lit 716, nat_lit 717, nat_lit 719, nat_lit 720, nat_lit 721, nat_lit 724, nat_lit 725, nat_lit 726, nat_lit 728, nat_lit 729, nat_lit 731, nat_lit 732, nat_lit 733, nat_lit 735, nat_lit 736, nat_lit 738, nat_lit 739, nat_lit 740, nat_lit 743, nat_lit 744]
theorem adrs_eq (P : Params) : adrs = (frag P).map (·.1) := by kernel_rfl
noncomputable def vw : Program := PySem.W.view PySem.Challenge.pw_evenhall_k21_seals [0, 2, 3, 4, 5, 6, 7, 8, 9, 10, 11, 12, 13, 14, 16, 17, 18, 19, 21, 22, 23, 24, 25, 26, 28, 30, 32, 33, 34, 35, 37, 38, 39, 41, 42, 43, 45, 46, 47, 49, 51, 52, 53, 54, 55, 56, 57, 58, 59, 60, 61, 62, 63, 64, 65, 66, 67, 68, 69, 70]
open PySem.W in
noncomputable def tree0 (P : Params) : BT := (.node (boot_o_0 P) (.node (boot_o_1 P) (.node (boot_o_3 P) (.node (boot_o_7 P) .nil .nil) .nil) (.node (boot_o_5 P) (.node (boot_o_9 P) .nil .nil) .nil)) (.node (boot_o_2 P) (.node (boot_o_4 P) (.node (boot_o_8 P) .nil .nil) .nil) (.node (boot_o_6 P) (.node (boot_o_10 P) .nil .nil) .nil)))
open PySem.W PyProof.Rows in
noncomputable def ran (p : Program) (t : BT) (b : Heap) (w : World) (os : OsState) : Option SharedT := TR.go p w 11 (some (.ref 6)) 12112 ⟨t, 11, b.life, Array.mk [], boot_drawn, boot_toks, os⟩ (topStub p)
noncomputable def runA (p : Program) (t : PySem.W.BT) (b : Heap) (w : World) (os : OsState) := (ran p t b w os).map fun x => TR.lookB p b x.abs
noncomputable def runB (p v : Program) (c : PySem.W.WRecords) (t : PySem.W.BT) (b : Heap) (w : World) (os : OsState) := (ran p t b w os).map fun x => PySem.W.openSeen v [] (importedModules p.main.body) (fun s => PySem.W.xlAt v [] s && PySem.W.recOk c s) true x.abs
noncomputable def runC (p : Program) (t : PySem.W.BT) (b : Heap) (w : World) (os : OsState) := (ran p t b w os).map fun x => adrs.map x.abs.heap.get?
noncomputable def good (v : Program) (_ : OsState) := some (PySem.W.openGood v [])
set_option maxRecDepth 100000 in
set_option maxHeartbeats 0 in
lay_quick K21.runA
set_option maxRecDepth 100000 in
set_option maxHeartbeats 0 in
lay_quick K21.runB
set_option maxRecDepth 100000 in
set_option maxHeartbeats 0 in
lay_quick K21.runC
set_option maxRecDepth 100000 in
set_option maxHeartbeats 0 in
lay_quick K21.good
set_option maxRecDepth 100000 in
set_option maxHeartbeats 0 in
theorem gA (w : World) : PySem.W.Fast.tw9848287433653946910 PySem.Challenge.pw_evenhall_k21_seals (tree0 w.params) (PySem.W.boot_heap w.params) w = fun _ => some true := by kernel_rfl
set_option maxRecDepth 100000 in
set_option maxHeartbeats 0 in
theorem gB (w : World) : PySem.W.Fast.tw2052356328380310669 PySem.Challenge.pw_evenhall_k21_seals vw (PySem.W.RowW.records (PySem.W.OpenRow.toRowW (PySem.W.OpenLaw.row PySem.Challenge.rw_evenhall_k21_seals))) (tree0 w.params) (PySem.W.boot_heap w.params) w = PySem.W.Fast.tw3417183405420359090 vw := by kernel_rfl
set_option maxRecDepth 100000 in
set_option maxHeartbeats 0 in
theorem gC (w : World) : PySem.W.Fast.tw18211952929396148644 PySem.Challenge.pw_evenhall_k21_seals (tree0 w.params) (PySem.W.boot_heap w.params) w = fun _ => some ((frag w.params).map fun p => some p.2) := by kernel_rfl
set_option maxRecDepth 100000 in
set_option maxHeartbeats 0 in
theorem left : PySem.W.LeftO PySem.Challenge.pw_evenhall_k21_seals vw [] (fun s => PySem.W.xlAt vw [] s && PySem.W.recOk (PySem.W.RowW.records (PySem.W.OpenRow.toRowW (PySem.W.OpenLaw.row PySem.Challenge.rw_evenhall_k21_seals))) s) (PySem.W.kHook frag adrs adrs_eq).obs (PySem.W.kHook frag adrs adrs_eq).val 12112 :=
 TR.left (lo := 11) (an := some (.ref 6)) (tr := tree0) (PySem.W.boot_open (by kernel_rfl) (by decide) (fun s => by kernel_rfl)) (fun P => by kernel_rfl) (fun P => by kernel_rfl) fun w => funext fun os =>
  TR.three (congrFun ((congrFun (congrFun (congrFun (congrFun PySem.W.Fast.te9848287433653946910 _) _) _) w).trans (gA w)) os) (congrFun ((congrFun (congrFun (congrFun (congrFun (congrFun (congrFun PySem.W.Fast.te2052356328380310669 _) _) _) _) _) w).trans ((gB w).trans (congrFun PySem.W.Fast.te3417183405420359090 _).symm)) os) (congrFun ((congrFun (congrFun (congrFun (congrFun PySem.W.Fast.te18211952929396148644 _) _) _) w).trans (gC w)) os)
noncomputable def wsaid (l : PySem.W.OpenLaw) : Bool := PySem.W.OpenLaw.wellSaid l
set_option maxRecDepth 100000 in
set_option maxHeartbeats 0 in
lay_quick K21.wsaid
set_option maxRecDepth 100000 in
set_option maxHeartbeats 0 in
theorem ws : wsaid PySem.Challenge.rw_evenhall_k21_seals = true := (congrFun PySem.W.Fast.te2677818711121480836 _).trans (by kernel_rfl)
end K21
namespace L2
open PySem PySem.Spec PyProof.Rows
abbrev Key := Sum Int Str
def sI : Key -> Value -> Bool
 | .inl k, v => Value.isInt k v
 | .inr x, v => Value.isStrOf x v
def Gz (w : World) : Key -> Int
 | .inl k => hashInt k
 | .inr x => hashStr w x
theorem bZ : ∀ {k : Key} {v : Value}, sI k v = true -> (∃ i t, k = Sum.inl i /\ v = Value.int i t) \/ (∃ x t, k = Sum.inr x /\ v = Value.str x t)
 | .inl i, v, h => by
  obtain ⟨t, e⟩ := Value.isInt_shape (k := i) (v := v) h
  exact .inl ⟨i, t, rfl, e⟩
 | .inr x, v, h => by
  obtain ⟨t, e⟩ := Value.isStrOf_shape (x := x) (v := v) h
  exact .inr ⟨x, t, rfl, e⟩
theorem zf (i : Int) (t : Tok) : sI (.inl i) (.int i t) = true := by simp [sI, Value.isInt]
theorem zb (x : Str) (t : Tok) : sI (.inr x) (.str x t) = true := by simp [sI, Value.isStrOf]
theorem EY (a b : Int) : decide ((Sum.inl a : Key) = Sum.inl b) = (a == b) := by
 by_cases e : a = b
 ·subst e; simp
 ·have h : ¬ (Sum.inl a : Key) = Sum.inl b := fun q => e (Sum.inl.inj q)
  rw [decide_eq_false h]
  exact (beq_eq_false_iff_ne.mpr e).symm
theorem EC (a b : Str) : decide ((Sum.inr a : Key) = Sum.inr b) = decide (a = b) := by
 by_cases e : a = b
 ·subst e; simp
 ·have h : ¬ (Sum.inr a : Key) = Sum.inr b := fun q => e (Sum.inr.inj q)
  rw [decide_eq_false h, decide_eq_false e]
theorem E8 (a : Int) (b : Str) : decide ((Sum.inl a : Key) = Sum.inr b) = false := decide_eq_false (fun q => nomatch q)
theorem Fc (a : Str) (b : Int) : decide ((Sum.inr a : Key) = Sum.inl b) = false := decide_eq_false (fun q => nomatch q)
def bV (prog : Program) (w : World) : PySem.KeyKind prog w Key where
 is := sI
 hash := Gz w
 inj := fun v a b ha hb => by
  rcases bZ ha with ⟨i, t, rfl, rfl⟩ | ⟨x, t, rfl, rfl⟩
  ·rcases bZ hb with ⟨j, u, rfl, e⟩ | ⟨y, u, rfl, e⟩
   ·injection e with e1 _; rw [e1]
   ·exact nomatch e
  ·rcases bZ hb with ⟨j, u, rfl, e⟩ | ⟨y, u, rfl, e⟩
   ·exact nomatch e
   ·injection e with e1 _; rw [e1]
 byValue := fun k v h => by
  rcases bZ h with ⟨i, t, rfl, rfl⟩ | ⟨x, t, rfl, rfl⟩ <;> rfl
 pyHash := fun hv h => by
  rcases bZ hv with ⟨i, t, rfl, rfl⟩ | ⟨x, t, rfl, rfl⟩
  ·exact wpAny_pyHash_int h
  ·exact wpAny_pyHash_str h
 eqBool := fun hu hv h => by
  rcases bZ hu with ⟨i, t, rfl, rfl⟩ | ⟨x, t, rfl, rfl⟩
  ·rcases bZ hv with ⟨j, u, rfl, rfl⟩ | ⟨y, u, rfl, rfl⟩
   ·rw [EY] at h; exact wpAny_eqBool_int h
   ·rw [E8] at h; exact SeqAt.EqAt.int_str i t y u _ _ _ _ h
  ·rcases bZ hv with ⟨j, u, rfl, rfl⟩ | ⟨y, u, rfl, rfl⟩
   ·rw [Fc] at h; exact SeqAt.EqAt.str_int x t j u _ _ _ _ h
   ·rw [EC] at h; exact wpAny_eqBool_str h
 «strs» := fun k x t v h => by
  rcases bZ h with ⟨i, u, rfl, e⟩ | ⟨y, u, rfl, e⟩
  ·exact nomatch e
  ·injection e with e1 _
   subst e1
   cases v <;> rfl
theorem u0 (prog : Program) (w : World) (i : Int) (t : Tok) : (bV prog w).is (.inl i) (.int i t) = true := zf i t
theorem wc (prog : Program) (w : World) (x : Str) (t : Tok) : (bV prog w).is (.inr x) (.str x t) = true := zb x t
end L2
namespace L2
open PySem PySem.Spec PyProof.Rows
inductive V where
 | non | bl (b : Bool) | int (i : Int) | str (x : Str) | byt (b : Array UInt8) | flt (b : UInt64) | ref (a : Addr) | ty (n : String)
 deriving DecidableEq
def RelV : V -> Value -> Prop
 | .non, u => u = Value.none
 | .bl b, u => u = Value.bool b
 | .int i, u => ∃ t, u = Value.int i t
 | .str x, u => ∃ t, u = Value.str x t
 | .byt b, u => ∃ t, u = Value.bytes b t
 | .flt b, u => ∃ t, u = Value.float b t
 | .ref a, u => u = Value.ref a
 | .ty n, u => u = Value.type n
abbrev Vals : List V -> List Value -> Prop := Paired RelV
theorem Vals.length {xs : List V} {us : List Value} (r : Vals xs us) : xs.length = us.length := Paired.length r
theorem Vals.get : ∀ {xs : List V} {us : List Value} {i : Nat} {x : V}, Vals xs us -> xs[i]? = some x -> ∃ u, us[i]? = some u /\ RelV x u
 | _, _, _, _, .nil, e => by simp at e
 | _, _, 0, _, .cons r _, e => by simp at e; subst e; exact ⟨_, rfl, r⟩
 | _, _, i + 1, x, .cons _ t, e => by
  obtain ⟨u, h1, h2⟩ := Vals.get (i := i) (x := x) t (by simpa using e)
  exact ⟨u, by simpa using h1, h2⟩
theorem Vals.append : ∀ {xs ys : List V} {us ws : List Value}, Vals xs us -> Vals ys ws -> Vals (xs ++ ys) (us ++ ws)
 | _, _, _, _, .nil, s => s
 | _, _, _, _, .cons r t, s => .cons r (Vals.append t s)
theorem Vals.take : ∀ {xs : List V} {us : List Value} (n : Nat), Vals xs us -> Vals (xs.take n) (us.take n)
 | _, _, 0, _ => .nil
 | _, _, _ + 1, .nil => .nil
 | _, _, n + 1, .cons r t => .cons r (Vals.take n t)
theorem Vals.drop : ∀ {xs : List V} {us : List Value} (n : Nat), Vals xs us -> Vals (xs.drop n) (us.drop n)
 | _, _, 0, r => r
 | _, _, _ + 1, .nil => .nil
 | _, _, n + 1, .cons _ t => Vals.drop n t
def RelO : Option V -> Option Value -> Prop
 | some v, some u => RelV v u
 | none, none => True
 | _, _ => False
def KV {κ : Type} : List (κ × V) -> List (κ × Value) -> Prop := Paired fun (p : κ × V) (q : κ × Value) => p.1 = q.1 /\ RelV p.2 q.2
def kV : Key -> V
 | .inl i => .int i
 | .inr x => .str x
inductive HO where
 | lst (xs : List V)
 | tup (xs : List V)
 | dK (kvs : List (Key × V)) | dT (kvs : List (List Key × V))
 | set (S : Int -> Bool) (n : Nat)
 | ins (C dx : Addr) (fs : List (Str × V))
 | own (x : Addr)
 | xd (fs : List (Str × V))
 | met (f x : Addr)
 | rng (lo hi : Int)
 | frz (o : Obj) (u : HO)
 | tbl (ps : Array Value)
 | ext (φ : Heap -> Prop)
abbrev Hp := Addr -> Option HO
def upd (H : Hp) (a : Addr) (o : HO) : Hp := fun b => if b = a then some o else H b
theorem ag {H : Hp} {a : Addr} {o : HO} : upd H a o a = some o := by unfold upd; rw [if_pos rfl]
theorem aj {H : Hp} {a b : Addr} {o : HO} (h : b ≠ a) : upd H a o b = H b := by unfold upd; rw [if_neg h]
theorem oS {H : Hp} {a : Addr} {o u : HO} : upd (upd H a o) a u = upd H a u := by
 funext b; unfold upd; split <;> rfl
theorem F4 {H : Hp} {a b : Addr} {o u : HO} (h : H a = some o) (h' : H b = some u) (d : o ≠ u) : a ≠ b := by
 intro e; subst e; rw [h] at h'; exact d (Option.some.inj h')
theorem au {H : Hp} {a b : Addr} {o : HO} (h : H a = some o) (h' : H b = none) : a ≠ b := by
 intro e; subst e; rw [h] at h'; cases h'
section
variable (P : Program) (w : World)
def ObjOk (H : Hp) (h : Heap) (a : Addr) : HO -> Prop
 | .lst xs => xs.length <= sizeLine /\ ∃ (its : List Value) (n : Nat), Vals xs its /\ h.get? a = some { cls := .type "list", data := .seq its.toArray n }
 | .tup xs => xs.length <= sizeLine /\ ∃ its : List Value, Vals xs its /\ IsTup h a its.toArray
 | .dK kvs => kvs.length <= sizeLine /\ (a == sysModules) = false /\ ∃ vs, KV kvs vs /\ h.DictOf (bV P w) a vs
 | .dT kvs => kvs.length <= sizeLine /\ (a == sysModules) = false /\ ∃ xs : List (List Key × Addr × Value),
  Paired (fun (p : List Key × V) (q : List Key × Addr × Value) => p.1 = q.1 /\ H q.2.1 = some (.tup (p.1.map kV)) /\ RelV p.2 q.2.2) kvs xs /\
  ∃ o es ep, h.get? a = some o /\ o.ExactDict /\ o.data = .dict es ep /\ es.toList = xs.map (entryOfKey (tupleKind (bV P w))) /\ (xs.map (·.1)).Nodup
 | .set S n => h.SetOf (intKind P w) a S n
 | .ins C dx fs => H dx = some (.own a) /\ fs.length <= 1000 /\ dx ≠ a /\ h.get? a = some (PySem.W.instObj C dx) /\
  ∃ mA, h.Ns1 dx mA /\ (∀ f, RelO (fs.lookup f) (mA f)) /\ PySem.Within mA (fs.map (·.1))
 | .own _ => ∃ o, h.get? a = some o
 | .xd fs => ∃ mA, h.Ns1 a mA /\ ∀ f, RelO (fs.lookup f) (mA f)
 | .rng lo hi => ∃ t u v, h.get? a = some { cls := .type "range", data := .fields #[.int lo t, .int hi u, .int 1 v] }
 | .frz o u => h.get? a = some o /\ ObjOk H h a u
 | .tbl ps => h.get? a = some { cls := .none, data := .fields ps }
 | .met f x => h.get? a = some (PySem.W.methodObj (.ref f) (.ref x))
 | .ext φ => φ h /\ (∃ o, h.get? a = some o) /\ ∀ h1 h2 : Heap, φ h1 -> (∀ o, h1.get? a = some o -> h2.get? a = some o) -> φ h2
def HOk (H : Hp) (h : Heap) : Prop := ∀ a o, H a = some o -> ObjOk P w H h a o
end
section
variable {P : Program} {w : World} {H H' : Hp} {h h' : Heap} {a : Addr} {o : HO}
theorem ObjOk.lt (x : ObjOk P w H h a o) : a < h.objs.size := by
 cases o with
 | lst xs => obtain ⟨_, _, _, _, e⟩ := x; exact Heap.lt_size e
 | tup xs => obtain ⟨_, _, _, p⟩ := x; exact p.lt
 | dK kvs => obtain ⟨_, _, _, _, o, _, _, e, _⟩ := x; exact Heap.lt_size e
 | dT kvs => obtain ⟨_, _, _, _, o, _, _, e, _⟩ := x; exact Heap.lt_size e
 | set S n => obtain ⟨o, _, _, _, e, _⟩ := x; exact Heap.lt_size e
 | ins C dx fs => obtain ⟨_, _, _, e, _⟩ := x; exact Heap.lt_size e
 | own y => obtain ⟨_, e⟩ := x; exact Heap.lt_size e
 | xd fs => obtain ⟨_, ⟨_, _, _, e, _⟩, _⟩ := x; exact Heap.lt_size e
 | rng lo hi => obtain ⟨_, _, _, e⟩ := x; exact Heap.lt_size e
 | frz ob u => obtain ⟨e, _⟩ := x; exact Heap.lt_size e
 | tbl ps => exact Heap.lt_size (show h.get? a = some _ from x)
 | met f y => exact Heap.lt_size (show h.get? a = some _ from x)
 | ext φ => obtain ⟨_, ⟨_, e⟩, _⟩ := x; exact Heap.lt_size e
theorem Paired.mapP {α β : Type} {F G : α -> β -> Prop} : ∀ {l₁ : List α} {l₂ : List β}, Paired F l₁ l₂ -> (∀ a b, F a b -> G a b) -> Paired G l₁ l₂
 | _, _, .nil, _ => .nil
 | _, _, .cons r t, f => .cons (f _ _ r) (Paired.mapP t f)
theorem ObjOk.stay (x : ObjOk P w H h a o) (k : ∀ b u, (b = a \/ H b = some (.own a)) -> h.get? b = some u -> h'.get? b = some u)
 (ho : ∀ b, H b = some (.own a) -> H' b = some (.own a)) (ht : ∀ b xs, H b = some (.tup xs) -> H' b = some (.tup xs)) : ObjOk P w H' h' a o := by
 induction o with
 | lst xs => obtain ⟨z, its, n, r, e⟩ := x; exact ⟨z, its, n, r, k _ _ (.inl rfl) e⟩
 | tup xs => obtain ⟨z, its, r, ob, e, c⟩ := x; exact ⟨z, its, r, ob, k _ _ (.inl rfl) e, c⟩
 | dK kvs => obtain ⟨z, y, vs, r, ob, es, ep, e, c⟩ := x; exact ⟨z, y, vs, r, ob, es, ep, k _ _ (.inl rfl) e, c⟩
 | dT kvs =>
  obtain ⟨z, y, xs, r, ob, es, ep, e, c⟩ := x
  exact ⟨z, y, xs, Paired.mapP r fun p q z => ⟨z.1, ht _ _ z.2.1, z.2.2⟩, ob, es, ep, k _ _ (.inl rfl) e, c⟩
 | set S n => obtain ⟨ob, es, ep, t, e, c⟩ := x; exact ⟨ob, es, ep, t, k _ _ (.inl rfl) e, c⟩
 | ins C dx fs =>
  obtain ⟨d, z, ne, e, mA, ⟨od, es, ep, e2, c⟩, r⟩ := x
  exact ⟨ho _ d, z, ne, k _ _ (.inl rfl) e, mA, ⟨od, es, ep, k _ _ (.inr d) e2, c⟩, r⟩
 | own y => obtain ⟨ob, e⟩ := x; exact ⟨ob, k _ _ (.inl rfl) e⟩
 | xd fs => obtain ⟨mA, ⟨od, es, ep, e, c⟩, r⟩ := x; exact ⟨mA, ⟨od, es, ep, k _ _ (.inl rfl) e, c⟩, r⟩
 | rng lo hi => obtain ⟨t, u, v, e⟩ := x; exact ⟨t, u, v, k _ _ (.inl rfl) e⟩
 | frz ob u ih => obtain ⟨e, q⟩ := x; exact ⟨k _ _ (.inl rfl) e, ih q⟩
 | tbl ps =>
  have e : h.get? a = some { cls := .none, data := .fields ps } := x
  show h'.get? a = some { cls := .none, data := .fields ps }
  exact k a _ (.inl rfl) e
 | met f y =>
  have e : h.get? a = some (PySem.W.methodObj (.ref f) (.ref y)) := x
  show h'.get? a = some (PySem.W.methodObj (.ref f) (.ref y))
  exact k a _ (.inl rfl) e
 | ext φ => obtain ⟨p, ⟨o, e⟩, st⟩ := x; exact ⟨st _ _ p fun o q => k _ _ (.inl rfl) q, ⟨o, k _ _ (.inl rfl) e⟩, st⟩
theorem HOk.lt (x : HOk P w H h) (e : H a = some o) : a < h.objs.size := (x a o e).lt
theorem HOk.fresh (x : HOk P w H h) (e : h.objs.size <= a) : H a = none := by
 cases q : H a with
 | none => rfl
 | some u => exact absurd (Nat.lt_of_lt_of_le (x.lt q) e) (Nat.lt_irrefl _)
theorem HOk.kept (x : HOk P w H h) (k : ∀ b u, h.get? b = some u -> h'.get? b = some u) : HOk P w H h' := fun a o e =>
 (x a o e).stay (fun b u _ q => k b u q) (fun _ q => q) fun _ _ q => q
theorem HOk.laid (x : HOk P w H h) (k : ∀ b u, h.get? b = some u -> h'.get? b = some u) (hp : h.objs.size <= a) (new : ObjOk P w (upd H a o) h' a o) : HOk P w (upd H a o) h' := fun b u e => by
 have hn := x.fresh hp
 by_cases hb : b = a
 ·subst hb; rw [ag] at e; cases e; exact new
 ·rw [aj hb] at e
  exact (x b u e).stay (fun c v _ q => k c v q) (fun c q => by rw [aj (au q hn)]; exact q) fun c xs q => by rw [aj (au q hn)]; exact q
end
def Rd (H : Hp) (a : Addr) (u : HO) : Prop := H a = some u \/ ∃ o, H a = some (.frz o u)
theorem Rd.ok {P : Program} {w : World} {H : Hp} {h : Heap} {a : Addr} {u : HO} (r : Rd H a u) (x : HOk P w H h) : ObjOk P w H h a u := by
 rcases r with r | ⟨o, r⟩
 ·exact x a u r
 ·obtain ⟨_, q⟩ := x a _ r
  exact q
def Mut : Option HO -> Prop
 | some (.lst _) => True
 | some (.dK _) => True
 | some (.dT _) => True
 | some (.set _ _) => True
 | some (.ins _ _ _) => True
 | some (.ext _) => True
 | _ => False
section
variable {P : Program} {w : World} {H : Hp} {h h' : Heap} {x e : Addr} {o' : HO}
theorem HOk.write (ok : HOk P w H h) (mu : Mut (H x)) (he : e = x \/ H e = some (.own x)) (k : ∀ b u, b ≠ e -> h.get? b = some u -> h'.get? b = some u) (heo : ∃ u, h'.get? e = some u)
 (new : ObjOk P w (upd H x o') h' x o') : HOk P w (upd H x o') h' := fun b u q => by
 have nown : ∀ c y, H c = some (.own y) -> c ≠ x := fun c y r z => by subst z; rw [r] at mu; exact mu
 have ntup : ∀ c xs, H c = some (.tup xs) -> c ≠ x := fun c xs r z => by subst z; rw [r] at mu; exact mu
 by_cases hb : b = x
 ·subst hb; rw [ag] at q; cases q; exact new
 ·rw [aj hb] at q
  by_cases hbe : b = e
  ·have q' : H b = some (.own x) := by
    rcases he with z | z
    ·exact absurd (hbe.trans z) hb
    ·rw [hbe]; exact z
   rw [q] at q'; cases q'
   obtain ⟨v, hv⟩ := heo
   exact ⟨v, by rw [hbe]; exact hv⟩
  ·refine (ok b u q).stay (fun c v hc r => k c v ?_ r) (fun c r => by rw [aj (nown c b r)]; exact r) fun c xs r => by rw [aj (ntup c xs r)]; exact r
   rcases hc with rfl | hc
   ·exact hbe
   ·rintro rfl
    rcases he with z | z
    ·exact nown c b hc z
    ·rw [hc] at z; cases z; exact hb rfl
end
structure Un (fs ex : List Addr) (H H' : Hp) (h h' : Heap) : Prop where
 keep : ∀ b o, h.get? b = some o -> H b = none -> b ∉ fs -> b ∉ ex -> h'.get? b = some o
 slot : ∀ b o, h.get? b = some o -> H b = none -> b ∈ fs -> b ∉ ex -> ∃ sl, h'.get? b = some { o with slots := sl }
 free : ∀ b o, h.get? b = some o -> H b = none -> b ∉ ex -> H' b = none
 there : ∀ b o, h.get? b = some o -> b ∉ ex -> ∃ o', h'.get? b = some o'
 tups : ∀ b xs, H b = some (.tup xs) -> H' b = some (.tup xs)
 frzs : ∀ b o u, H b = some (.frz o u) -> H' b = some (.frz o u)
 tbls : ∀ b ps, H b = some (.tbl ps) -> ∃ more, H' b = some (.tbl (ps ++ more))
section
variable {fs fs' ex ex' : List Addr} {H H1 H2 : Hp} {h h1 h2 h' : Heap} {a x e : Addr} {o : HO}
theorem Un.any (u : Un fs ex H H1 h h1) {b : Addr} {ob : Obj} (q : h.get? b = some ob) (n : H b = none) (hx : b ∉ ex) : ∃ sl, h1.get? b = some { ob with slots := sl } := by
 by_cases hb : b ∈ fs
 ·exact u.slot b ob q n hb hx
 ·exact ⟨ob.slots, u.keep b ob q n hb hx⟩
theorem Un.kept (k : ∀ b u, h.get? b = some u -> h'.get? b = some u) : Un fs ex H H h h' :=
 ⟨fun b ob q _ _ _ => k b ob q, fun b ob q _ _ _ => ⟨ob.slots, k b ob q⟩, fun _ _ _ n _ => n, fun b ob q _ => ⟨ob, k b ob q⟩, fun _ _ q => q, fun _ _ _ q => q, fun _ ps q => ⟨#[], by rw [q]; simp⟩⟩
theorem Un.refl : Un fs ex H H h h := Un.kept fun _ _ q => q
theorem Un.laid (k : ∀ b u, h.get? b = some u -> h'.get? b = some u) (hp : h.objs.size <= a) (hn : H a = none) : Un fs ex H (upd H a o) h h' where
 keep := fun b u q _ _ _ => k b u q
 slot := fun b u q _ _ _ => ⟨u.slots, k b u q⟩
 free := fun b u q n _ => by rw [aj (Nat.ne_of_lt (Nat.lt_of_lt_of_le (Heap.lt_size q) hp))]; exact n
 there := fun b u q _ => ⟨u, k b u q⟩
 tups := fun b xs q => by rw [aj (au q hn)]; exact q
 frzs := fun b u xs q => by rw [aj (au q hn)]; exact q
 tbls := fun b ps q => ⟨#[], by rw [aj (au q hn), q]; simp⟩
theorem Un.write (mu : Mut (H x)) (he : e = x \/ H e = some (.own x)) (k : ∀ b u, b ≠ e -> h.get? b = some u -> h'.get? b = some u) (heo : ∃ u, h'.get? e = some u) : Un fs ex H (upd H x o) h h' := by
 have hx : ∀ b, H b = none -> b ≠ x := fun b n z => by subst z; rw [n] at mu; exact mu
 have hb : ∀ b, H b = none -> b ≠ e := fun b n z => by
  subst z
  rcases he with r | r
  ·exact hx b n r
  ·rw [n] at r; cases r
 have hm : ∀ b u, H b = some u -> ¬ Mut (some u) -> b ≠ x := fun b u q nm z => by subst z; rw [q] at mu; exact nm mu
 refine ⟨fun b u q n _ _ => k b u (hb b n) q, fun b u q n _ _ => ⟨u.slots, k b u (hb b n) q⟩, fun b u q n _ => by rw [aj (hx b n)]; exact n, fun b u q _ => ?_,
  fun b xs q => by rw [aj (hm b _ q fun z => z)]; exact q, fun b u xs q => by rw [aj (hm b _ q fun z => z)]; exact q, fun b ps q => ⟨#[], by rw [aj (hm b _ q fun z => z), q]; simp⟩⟩
 by_cases hbe : b = e
 ·subst hbe; exact heo
 ·exact ⟨u, k b u hbe q⟩
end
def trk (h : Heap) (H : Hp) : List Addr := (List.range h.objs.size).filter fun a => (H a).isSome
def sW (h : Heap) (H : Hp) : Heap := PySem.W.hideAll h (trk h H)
theorem zI (h : Heap) (H : Hp) : (sW h H).objs.size = h.objs.size := PySem.W.hideAll_size _ _
theorem An {h : Heap} {H : Hp} {b : Addr} {o : Obj} (e : h.get? b = some o) (n : H b = none) : (sW h H).get? b = some o :=
 PySem.W.hideAll_get _ e fun hm => by
  have q : (H b).isSome = true := (List.mem_filter.mp hm).2
  rw [n] at q; simp at q
theorem B6 {h : Heap} {H : Hp} {b : Addr} {o : Obj} (e : (sW h H).get? b = some o) : h.get? b = some o /\ H b = none := by
 have e' : h.get? b = some o := PySem.W.of_hideAll (trk h H) e
 refine ⟨e', ?_⟩
 cases q : H b with
 | none => rfl
 | some x =>
  have hm : b ∈ trk h H := List.mem_filter.mpr ⟨List.mem_range.mpr (Heap.lt_size e'), by simp [q]⟩
  have z : (sW h H).get? b = none := PySem.W.hideAll_none (trk h H) hm
  rw [z] at e; cases e
def CD (g h : Heap) (L : Addr) : List (Addr × Obj) := (List.range h.objs.size).filterMap fun a => if a = L \/ (g.get? a).isSome = true then none else (h.get? a).map fun o => (a, o)
def rest (g h : Heap) (L d : Addr) : List (Addr × Obj) := (CD g h L).filter fun p => decide (p.1 ≠ d)
end L2
namespace L2
open PySem PySem.Spec PyProof.Rows
structure Mod (K : PySem.W.Frag) (mg : Str -> Option Value) (base : Heap) : Prop where
 kin : K.In base
 glob : base.Ns mainGlobals mg
 blt : ∃ mb, base.Ns builtinsNs mb /\ ∀ x : Str, x ≠ "__name__" -> mb x = bootBuiltins x
 nolimit : base.NoLimit
structure Cx where
 prog : Program
 w : World
 K : PySem.W.Frag
 mg : Str -> Option Value
 base : Heap
 A : Around
 N : List Str
 s₀ : Shared
 H₀ : Hp
 env : Env
 outer : List Env
 stack : List Env
 ex : List Addr
 fn : Str -> Bool
 calm : Bool
 pn : List (Addr × Obj)
 xe : Value -> Shared -> Prop
def frs (l : List Env) : List Addr := l.filterMap (·.frame)
abbrev Cx.fs (X : Cx) : List Addr := frs X.outer
def Vis (sc : Scope) (x : Str) : Prop := sc.names.lookup x = some .local \/ sc.names.lookup x = some .cell \/ sc.names.lookup x = some .free
def Loc (sc : Scope) (x : Str) : Prop := sc.names.lookup x = some .local \/ sc.names.lookup x = some .cell
def Gn (env : Env) (h : Heap) (m : Str -> Option Value) (x : Str) (u : Value) : Prop :=
 (env.kindOf x = some .local /\ m x = some u) \/ ((env.kindOf x = some .cell \/ env.kindOf x = some .free) /\ ∃ c, env.cells.lookup x = some c /\ h.IsCell c (some u))
structure Cx.Ok (X : Cx) : Prop where
 mod : Mod X.K X.mg X.base
 kind : X.env.scope.kind = .function
 glob : X.env.globals = mainGlobals
 blt : X.env.builtins = builtinsNs
 above : X.s₀.heap.objs.size <= X.env.locals
 inj : ∀ x y c, X.env.cells.lookup x = some c -> X.env.cells.lookup y = some c -> x = y
 has : ∀ x, (X.env.kindOf x = some .cell \/ X.env.kindOf x = some .free) -> ∃ c, X.env.cells.lookup x = some c
 cab : ∀ x c, X.fn x = true -> X.env.cells.lookup x = some c -> X.s₀.heap.objs.size <= c
 hd : X.calm = true -> X.A.handled = none
 frames : X.A.frames = some X.stack
 stk : X.stack = X.outer \/ (X.stack = X.env :: X.outer /\ X.env.frame = some X.env.locals)
 exf : ∀ b ∈ X.ex, b ≠ X.env.locals /\ ∀ x c, X.env.cells.lookup x = some c -> c ≠ b
 bs : ∀ b o, X.base.get? b = some o -> X.s₀.heap.get? b = some o /\ X.H₀ b = none
 bsz : X.base.objs.size <= X.s₀.heap.objs.size
 noex : ∀ b o, X.base.get? b = some o -> b ∉ X.ex
 exfs : ∀ b ∈ X.ex, b ∉ X.fs
 funs : X.s₀.heap.FunFrames X.base X.outer
 frf : ∀ b ∈ X.fs, X.H₀ b = none
structure Inv (X : Cx) (pins : List (Addr × Obj)) (σ : List (Option V)) (H : Hp) (s : Shared) : Prop where
 ok : X.Ok
 os : s.os = X.s₀.os
 bare : AllBare s.gens
 base : Un X.fs X.ex X.H₀ H X.s₀.heap s.heap
 loc : ∃ m, s.heap.Ns X.env.locals m /\ ∀ (i : Nat) (x : Str) (v : V), X.N[i]? = some x -> σ[i]? = some (some v) -> Vis X.env.scope x -> ∃ u, RelV v u /\ Gn X.env s.heap m x u
 cell : ∀ x c, X.env.cells.lookup x = some c -> ∃ v, s.heap.IsCell c v
 free : H X.env.locals = none
 freeC : ∀ x c, X.env.cells.lookup x = some c -> H c = none
 pin : ∀ p ∈ X.pn ++ pins, s.heap.get? p.1 = some p.2 /\ H p.1 = none /\ p.1 ≠ X.env.locals /\ p.1 ∉ X.fs /\ ∀ v, p.2.data ≠ .cell v
 hok : HOk X.prog X.w H s.heap
 len : σ.length = X.N.length
section
variable {X : Cx} {pins : List (Addr × Obj)} {σ : List (Option V)} {H H' : Hp} {s : Shared} {h' : Heap}
theorem Cx.Ok.nofr (ok : X.Ok) {b : Addr} {o : Obj} (e : X.base.get? b = some o) : b ∉ X.fs := fun hb => by
 have := (ok.funs.mem hb).1
 rw [e] at this; cases this
theorem Inv.bs (I : Inv X pins σ H s) : ∀ b o, X.base.get? b = some o -> s.heap.get? b = some o /\ H b = none := fun b o e =>
 ⟨I.base.keep b o (I.ok.bs b o e).1 (I.ok.bs b o e).2 (I.ok.nofr e) (I.ok.noex b o e), I.base.free b o (I.ok.bs b o e).1 (I.ok.bs b o e).2 (I.ok.noex b o e)⟩
theorem Inv.bk (I : Inv X pins σ H s) : ∀ b o, X.base.get? b = some o -> s.heap.get? b = some o := fun b o e => (I.bs b o e).1
theorem Inv.mod (I : Inv X pins σ H s) : Mod X.K X.mg X.base := I.ok.mod
theorem Inv.kIn (I : Inv X pins σ H s) : X.K.In s.heap := I.ok.mod.kin.keeps I.bk
theorem Inv.lt (I : Inv X pins σ H s) : X.env.locals < s.heap.objs.size := let ⟨_, hn, _⟩ := I.loc; hn.lt
theorem Inv.sz (I : Inv X pins σ H s) : X.s₀.heap.objs.size <= s.heap.objs.size := Nat.le_trans I.ok.above (Nat.le_of_lt I.lt)
theorem Inv.nofs (I : Inv X pins σ H s) {a : Addr} (h : s.heap.objs.size <= a) : a ∉ X.fs := fun hb => by
 obtain ⟨_, o, ho, _⟩ := I.ok.funs.mem hb
 exact absurd (Nat.lt_of_lt_of_le (Heap.lt_size ho) (Nat.le_trans I.sz h)) (Nat.lt_irrefl _)
theorem Inv.cne (I : Inv X pins σ H s) : ∀ x c, X.env.cells.lookup x = some c -> c ≠ X.env.locals := fun x c e z => by
 obtain ⟨v, o, ho, hd⟩ := I.cell x c e
 obtain ⟨m, ⟨o', es, ep, ho', hd', _⟩, _⟩ := I.loc
 rw [z, ho'] at ho; cases ho; rw [hd'] at hd; cases hd
theorem Inv.funs (I : Inv X pins σ H s) : s.heap.FunFrames X.base X.outer := by
 have all : ∀ (l : List Env), (∀ b ∈ frs l, b ∈ X.fs) -> X.s₀.heap.FunFrames X.base l -> s.heap.FunFrames X.base l := by
  intro l
  induction l with
  | nil => intro _ _; trivial
  | cons env r ih =>
   intro hs hl
   obtain ⟨hk, ⟨L, o, hf, hn, ho, hd⟩, hr⟩ := hl
   have hL : L ∈ X.fs := hs L (by unfold frs; rw [List.filterMap_cons, hf]; exact List.mem_cons_self)
   obtain ⟨sl, e⟩ := I.base.slot L o ho (I.ok.frf L hL) hL fun z => I.ok.exfs L z hL
   exact ⟨hk, ⟨L, _, hf, hn, e, hd⟩, ih (fun b hb => hs b (by unfold frs; rw [List.filterMap_cons, hf]; exact List.mem_cons_of_mem _ hb)) hr⟩
 exact all X.outer (fun _ hb => hb) I.ok.funs
theorem Inv.stack (I : Inv X pins σ H s) : s.heap.FunFrames X.base X.stack := by
 rcases I.ok.stk with e | ⟨e, hf⟩
 ·rw [e]; exact I.funs
 ·rw [e]
  obtain ⟨m, hn, _⟩ := I.loc
  refine .cons (by rw [I.ok.kind]; decide) hf hn ?_ I.funs
  exact Heap.get?_none_of_le (Nat.le_trans I.ok.bsz I.ok.above)
theorem Inv.stkSub (I : Inv X pins σ H s) : ∀ b ∈ frs X.stack, b ∈ X.env.locals :: X.fs := fun b hb => by
 rcases I.ok.stk with e | ⟨e, hf⟩
 ·rw [e] at hb; exact List.mem_cons_of_mem _ hb
 ·rw [e] at hb
  unfold frs at hb
  rw [List.filterMap_cons, hf] at hb
  exact hb
theorem Inv.stkFree (I : Inv X pins σ H s) : ∀ b ∈ frs X.stack, H b = none := fun b hb => by
 rcases List.mem_cons.mp (I.stkSub b hb) with e | hb
 ·rw [e]; exact I.free
 ·obtain ⟨_, o, ho, _⟩ := I.ok.funs.mem hb
  exact I.base.free b o ho (I.ok.frf b hb) fun z => I.ok.exfs b z hb
theorem Inv.step {g' : Array GenState} {t' : Nat} {d' : Drawn} {ch : List Addr} (I : Inv X pins σ H s)
 (hch : ∀ b ∈ ch, (b ∈ X.ex \/ X.s₀.heap.objs.size <= b) /\ b ≠ X.env.locals /\ (∀ x c, X.env.cells.lookup x = some c -> c ≠ b) /\ ∀ p ∈ X.pn ++ pins, p.1 ≠ b)
 (keep : ∀ b o, b ≠ X.env.locals -> b ∉ X.fs -> b ∉ ch -> s.heap.get? b = some o -> H b = none -> h'.get? b = some o)
 (slot : ∀ b o, b ≠ X.env.locals -> b ∈ X.fs -> b ∉ ch -> s.heap.get? b = some o -> H b = none -> ∃ sl, h'.get? b = some { o with slots := sl }) (free : ∀ b o, b ∉ ch -> s.heap.get? b = some o -> H b = none -> H' b = none)
 (there : ∀ b o, b ∉ ch -> s.heap.get? b = some o -> ∃ o', h'.get? b = some o')
 (tups : ∀ b xs, H b = some (.tup xs) -> H' b = some (.tup xs)) (frzs : ∀ b o u, H b = some (.frz o u) -> H' b = some (.frz o u)) (tbls : ∀ b ps, H b = some (.tbl ps) -> ∃ more, H' b = some (.tbl (ps ++ more)))
 (ns : ∀ m, s.heap.Ns X.env.locals m -> h'.Ns X.env.locals m) (hok : HOk X.prog X.w H' h') (hg : AllBare g') :
 Inv X pins σ H' { s with heap := h', gens := g', drawn := d', toks := t' } := by
 have neL : ∀ b o, X.s₀.heap.get? b = some o -> b ≠ X.env.locals := fun b o e => Nat.ne_of_lt (Nat.lt_of_lt_of_le (Heap.lt_size e) I.ok.above)
 have neC : ∀ b o, X.s₀.heap.get? b = some o -> b ∉ X.ex -> b ∉ ch := fun b o e hx hb => by
  rcases (hch b hb).1 with z | z
  ·exact hx z
  ·exact absurd (Nat.lt_of_lt_of_le (Heap.lt_size e) z) (Nat.lt_irrefl _)
 have cellK : ∀ x c, X.env.cells.lookup x = some c -> ∀ v, s.heap.IsCell c v -> h'.IsCell c v := fun x c e v ⟨o, ho, hd⟩ => by
  have nch : c ∉ ch := fun z => (hch c z).2.2.1 x c e rfl
  by_cases hc : c ∈ X.fs
  ·obtain ⟨sl, q⟩ := slot c o (I.cne x c e) hc nch ho (I.freeC x c e)
   exact ⟨_, q, hd⟩
  ·exact ⟨o, keep c o (I.cne x c e) hc nch ho (I.freeC x c e), hd⟩
 refine ⟨I.ok, I.os, hg, ⟨fun b o e n hb hx => ?_, fun b o e n hb hx => ?_, fun b o e n hx => ?_, fun b o e hx => ?_, fun b xs e => tups b xs (I.base.tups b xs e), fun b o xs e => frzs b o xs (I.base.frzs b o xs e), fun b ps e => ?_⟩, ?_, fun x c e => ?_, ?_, fun x c e => ?_, fun p hp => ?_, hok, I.len⟩
 ·exact keep b o (neL b o e) hb (neC b o e hx) (I.base.keep b o e n hb hx) (I.base.free b o e n hx)
 ·obtain ⟨sl, e1⟩ := I.base.slot b o e n hb hx
  obtain ⟨sl', e2⟩ := slot b _ (neL b o e) hb (neC b o e hx) e1 (I.base.free b o e n hx)
  exact ⟨sl', e2⟩
 ·obtain ⟨o', e1⟩ := I.base.there b o e hx
  exact free b o' (neC b o e hx) e1 (I.base.free b o e n hx)
 ·obtain ⟨o', e1⟩ := I.base.there b o e hx
  exact there b o' (neC b o e hx) e1
 ·obtain ⟨m1, e1⟩ := I.base.tbls b ps e
  obtain ⟨m2, e2⟩ := tbls b _ e1
  exact ⟨m1 ++ m2, by rw [e2, Array.append_assoc]⟩
 ·obtain ⟨m, hn, hl⟩ := I.loc
  refine ⟨m, ns m hn, fun i x v e1 e2 e3 => ?_⟩
  obtain ⟨u, r, l⟩ := hl i x v e1 e2 e3
  refine ⟨u, r, ?_⟩
  rcases l with l | ⟨k, c, e, z⟩
  ·exact .inl l
  ·exact .inr ⟨k, c, e, cellK x c e _ z⟩
 ·obtain ⟨v, z⟩ := I.cell x c e
  exact ⟨v, cellK x c e v z⟩
 ·obtain ⟨m, ⟨o, _, _, ho, _⟩, _⟩ := I.loc
  exact free _ o (fun z => (hch _ z).2.1 rfl) ho I.free
 ·obtain ⟨v, o, ho, hd⟩ := I.cell x c e
  exact free c o (fun z => (hch c z).2.2.1 x c e rfl) ho (I.freeC x c e)
 ·obtain ⟨e, n, ne, nf, d⟩ := I.pin p hp
  have nch : p.1 ∉ ch := fun z => (hch p.1 z).2.2.2 p hp rfl
  exact ⟨keep p.1 p.2 ne nf nch e n, free p.1 p.2 nch e n, ne, nf, d⟩
theorem Inv.un {t' : Nat} (I : Inv X pins σ H s) (u : Un X.fs [] H H' s.heap h') (hok : HOk X.prog X.w H' h') : Inv X pins σ H' { s with heap := h', toks := t' } := by
 obtain ⟨m, ⟨o, es, ep, ho, r⟩, _⟩ := id I.loc
 obtain ⟨sl, hL⟩ := u.any ho I.free (by simp)
 exact I.step (g' := s.gens) (d' := s.drawn) (ch := []) (fun _ z => nomatch z) (fun b o _ hb _ e n => u.keep b o e n hb (by simp)) (fun b o _ hb _ e n => u.slot b o e n hb (by simp)) (fun b o _ e n => u.free b o e n (by simp)) (fun b o _ e => u.there b o e (by simp)) u.tups u.frzs u.tbls (fun m' hm => by
  obtain ⟨o', es', ep', ho', r'⟩ := hm
  rw [ho] at ho'; cases ho'
  exact ⟨_, es', ep', hL, r'⟩) hok I.bare
theorem Inv.call {g' : Array GenState} {t' : Nat} {d' : Drawn} {ch : List Addr} (I : Inv X pins σ H s) (u : Un (frs X.stack) ch H H' s.heap h') (hok : HOk X.prog X.w H' h') (hg : AllBare g')
 (hch : ∀ b ∈ ch, (b ∈ X.ex \/ X.s₀.heap.objs.size <= b) /\ b ≠ X.env.locals /\ (∀ x c, X.env.cells.lookup x = some c -> c ≠ b) /\ ∀ p ∈ X.pn ++ pins, p.1 ≠ b) :
 Inv X pins σ H' { s with heap := h', gens := g', drawn := d', toks := t' } := by
 obtain ⟨m, ⟨o, es, ep, ho, r⟩, _⟩ := id I.loc
 obtain ⟨sl, hL⟩ := u.any ho I.free fun z => (hch _ z).2.1 rfl
 exact I.step (ch := ch) hch (fun b o hL hb hc e n => u.keep b o e n (fun z => (List.mem_cons.mp (I.stkSub b z)).elim hL hb) hc) (fun b o _ _ hc e n => u.any e n hc) (fun b o hc e n => u.free b o e n hc) (fun b o hc e => u.there b o e hc) u.tups u.frzs u.tbls (fun m' hm => by
  obtain ⟨o', es', ep', ho', r'⟩ := hm
  rw [ho] at ho'; cases ho'
  exact ⟨_, es', ep', hL, r'⟩) hok hg
theorem Inv.turned {t' : Nat} {it : Addr} (I : Inv X pins σ H s) (k : ∀ b o, b ≠ it -> s.heap.get? b = some o -> h'.get? b = some o) (hn : H it = none) (hL : it ≠ X.env.locals)
 (h1 : it ∈ X.ex \/ X.s₀.heap.objs.size <= it) (h2 : ∀ x c, X.env.cells.lookup x = some c -> c ≠ it) (h3 : ∀ p ∈ X.pn ++ pins, p.1 ≠ it) : Inv X pins σ H { s with heap := h', toks := t' } := by
 have nit : ∀ b u, H b = some u -> b ≠ it := fun b u e z => by rw [z, hn] at e; cases e
 refine I.step (g' := s.gens) (d' := s.drawn) (ch := [it]) (fun b hb => ?_) (fun b o _ _ hc e _ => k b o (fun z => hc (by simp [z])) e) (fun b o _ _ hc e _ => ⟨o.slots, k b o (fun z => hc (by simp [z])) e⟩) (fun _ _ _ _ n => n)
  (fun b o hc e => ⟨o, k b o (fun z => hc (by simp [z])) e⟩) (fun _ _ e => e) (fun _ _ _ e => e) (fun b ps e => ⟨#[], by rw [e]; simp⟩) (fun m hm => ?_) (fun b u e => ?_) I.bare
 ·have e : b = it := by simpa using hb
  subst e
  exact ⟨h1, hL, h2, h3⟩
 ·obtain ⟨o, es, ep, ho, r⟩ := hm
  exact ⟨o, es, ep, k _ o (Ne.symm hL) ho, r⟩
 ·refine (I.hok b u e).stay (fun c v hc q => k c v ?_ q) (fun _ q => q) fun _ _ q => q
  rcases hc with z | z
  ·rw [z]; exact nit b u e
  ·exact nit c _ z
theorem Inv.tok (I : Inv X pins σ H s) (t : Nat) : Inv X pins σ H { s with toks := t } := I.un (h' := s.heap) (t' := t) Un.refl I.hok
theorem Inv.kept {t' : Nat} (I : Inv X pins σ H s) (k : ∀ b u, s.heap.get? b = some u -> h'.get? b = some u) : Inv X pins σ H { s with heap := h', toks := t' } := I.un (Un.kept k) (I.hok.kept k)
theorem Inv.laid {a : Addr} {o : HO} {t' : Nat} (I : Inv X pins σ H s) (k : ∀ b u, s.heap.get? b = some u -> h'.get? b = some u) (hp : s.heap.objs.size <= a) (new : ObjOk X.prog X.w (upd H a o) h' a o) :
 Inv X pins σ (upd H a o) { s with heap := h', toks := t' } := I.un (Un.laid k hp (I.hok.fresh hp)) (I.hok.laid k hp new)
theorem Inv.write {x e : Addr} {o : HO} {t' : Nat} (I : Inv X pins σ H s) (mu : Mut (H x)) (he : e = x \/ H e = some (.own x)) (k : ∀ b u, b ≠ e -> s.heap.get? b = some u -> h'.get? b = some u) (heo : ∃ u, h'.get? e = some u)
 (new : ObjOk X.prog X.w (upd H x o) h' x o) : Inv X pins σ (upd H x o) { s with heap := h', toks := t' } := I.un (Un.write mu he k heo) (I.hok.write mu he k heo new)
theorem Inv.pins_of {pins' : List (Addr × Obj)} (I : Inv X pins σ H s) (h : ∀ p ∈ pins', s.heap.get? p.1 = some p.2 /\ H p.1 = none /\ p.1 ≠ X.env.locals /\ p.1 ∉ X.fs /\ ∀ v, p.2.data ≠ .cell v) : Inv X pins' σ H s :=
 ⟨I.ok, I.os, I.bare, I.base, I.loc, I.cell, I.free, I.freeC, fun p hp => (List.mem_append.mp hp).elim (fun z => I.pin p (List.mem_append_left _ z)) (h p), I.hok, I.len⟩
theorem oX {N : List Str} (hN : N.Nodup) {i j : Nat} {x : Str} (a : N[i]? = some x) (b : N[j]? = some x) : i = j := by
 obtain ⟨h1, e1⟩ := List.getElem?_eq_some_iff.mp a
 obtain ⟨h2, e2⟩ := List.getElem?_eq_some_iff.mp b
 exact (List.getElem_inj hN).mp (e1.trans e2.symm)
theorem rZ {M : Model} {A : Around} {E : Value -> Shared -> Prop} {i : Nat} {x : Str} {v : V} {u : Value} {Q : Unit -> Shared -> Prop} (I : Inv X pins σ H s) (hN : X.N.Nodup) (hi : X.N[i]? = some x) (hx : Loc X.env.scope x) (r : RelV v u)
 (h : ∀ s', Inv X pins (σ.set i (some v)) H s' -> (∃ a, Heap.SameBut a s.heap s'.heap /\ (a = X.env.locals \/ X.env.cells.lookup x = some a)) -> Q () s') (hf : X.fn x = true \/ X.env.scope.names.lookup x = some .local := by first | exact .inl rfl | exact .inr rfl | assumption) : wpAny M A (storeName X.env x u) Q E s := by
 obtain ⟨m, hn, hl⟩ := id I.loc
 have hcls : (X.env.scope.kind == .class || (X.env.scope.kind == .module && X.env.locals != X.env.globals)) = false := by rw [I.ok.kind]; rfl
 have hiσ : i < σ.length := by rw [I.len]; exact (List.getElem?_eq_some_iff.mp hi).1
 have cne := I.cne
 have tracked : ∀ {a : Addr} {h' : Heap}, (∃ o, s.heap.get? a = some o /\ H a = none) -> Heap.SameBut a s.heap h' -> HOk X.prog X.w H h' := fun {a h'} ha hs b ob e => by
  obtain ⟨_, _, hfree⟩ := ha
  refine (I.hok b ob e).stay (fun c w' hc q => (hs.2 c ?_).trans q) (fun _ q => q) fun _ _ q => q
  rintro rfl
  rcases hc with rfl | hc
  ·rw [hfree] at e; cases e
  ·rw [hfree] at hc; cases hc
 rcases hx with hk | hk
 ·refine wpAny_storeName_local hk hn (fun h' hn' hs => ?_) hcls
  obtain ⟨oL, _, _, hoL, _⟩ := id hn
  refine h _ ⟨I.ok, I.os, I.bare, ⟨fun b o e n hb hx => ?_, fun b o e n hb hx => ?_, I.base.free, fun b o e hx => ?_, I.base.tups, I.base.frzs, I.base.tbls⟩, ⟨_, hn', fun j y v' e1 e2 e3 => ?_⟩, fun y c e => ?_, I.free, I.freeC, fun p hp => ?_, tracked ⟨oL, hoL, I.free⟩ hs, by simpa using I.len⟩ ⟨_, hs, .inl rfl⟩
  ·exact (hs.2 b (Nat.ne_of_lt (Nat.lt_of_lt_of_le (Heap.lt_size e) I.ok.above))).trans (I.base.keep b o e n hb hx)
  ·obtain ⟨sl, e1⟩ := I.base.slot b o e n hb hx
   exact ⟨sl, (hs.2 b (Nat.ne_of_lt (Nat.lt_of_lt_of_le (Heap.lt_size e) I.ok.above))).trans e1⟩
  ·obtain ⟨o', e1⟩ := I.base.there b o e hx
   exact ⟨o', (hs.2 b (Nat.ne_of_lt (Nat.lt_of_lt_of_le (Heap.lt_size e) I.ok.above))).trans e1⟩
  ·by_cases hj : j = i
   ·subst hj
    rw [hi] at e1; cases e1
    rw [List.getElem?_set_self hiσ] at e2
    cases e2
    exact ⟨u, r, .inl ⟨hk, by simp⟩⟩
   ·rw [List.getElem?_set_ne (Ne.symm hj)] at e2
    obtain ⟨u', r', q⟩ := hl j y v' e1 e2 e3
    refine ⟨u', r', ?_⟩
    rcases q with ⟨k, e⟩ | ⟨k, c, e, z⟩
    ·refine .inl ⟨k, ?_⟩
     have : y ≠ x := fun e => hj (oX hN e1 (e ▸ hi))
     simp [this, e]
    ·exact .inr ⟨k, c, e, z.sameBut hs (cne y c e)⟩
  ·obtain ⟨w', z⟩ := I.cell y c e
   exact ⟨w', z.sameBut hs (cne y c e)⟩
  ·obtain ⟨e, n, ne, nf, d⟩ := I.pin p hp
   exact ⟨(hs.2 p.1 ne).trans e, n, ne, nf, d⟩
 ·have hfn : X.fn x = true := by
   rcases hf with z | z
   ·exact z
   ·rw [z] at hk; cases hk
  obtain ⟨c, hc⟩ := I.ok.has x (.inl hk)
  obtain ⟨w', z⟩ := I.cell x c hc
  refine wpAny_storeName_cell I.ok.kind hk hc z (fun h' hc' hs => ?_)
  obtain ⟨oc, hoc, hocd⟩ := id z
  refine h { s with heap := h' } ⟨I.ok, I.os, I.bare, ⟨fun b o e n hb hx => ?_, fun b o e n hb hx => ?_, I.base.free, fun b o e hx => ?_, I.base.tups, I.base.frzs, I.base.tbls⟩, ⟨m, hn.sameBut hs (Ne.symm (cne x c hc)), fun j y v' e1 e2 e3 => ?_⟩, fun y c' e => ?_, I.free, I.freeC, fun p hp => ?_, tracked ⟨oc, hoc, I.freeC x c hc⟩ hs, by simpa using I.len⟩ ⟨c, hs, .inr hc⟩
  ·exact (hs.2 b (Nat.ne_of_lt (Nat.lt_of_lt_of_le (Heap.lt_size e) (I.ok.cab x c hfn hc)))).trans (I.base.keep b o e n hb hx)
  ·obtain ⟨sl, e1⟩ := I.base.slot b o e n hb hx
   exact ⟨sl, (hs.2 b (Nat.ne_of_lt (Nat.lt_of_lt_of_le (Heap.lt_size e) (I.ok.cab x c hfn hc)))).trans e1⟩
  ·obtain ⟨o', e1⟩ := I.base.there b o e hx
   exact ⟨o', (hs.2 b (Nat.ne_of_lt (Nat.lt_of_lt_of_le (Heap.lt_size e) (I.ok.cab x c hfn hc)))).trans e1⟩
  ·by_cases hj : j = i
   ·subst hj
    rw [hi] at e1; cases e1
    rw [List.getElem?_set_self hiσ] at e2
    cases e2
    exact ⟨u, r, .inr ⟨.inl hk, c, hc, hc'⟩⟩
   ·rw [List.getElem?_set_ne (Ne.symm hj)] at e2
    obtain ⟨u', r', q⟩ := hl j y v' e1 e2 e3
    refine ⟨u', r', ?_⟩
    rcases q with q | ⟨k, c', e, z'⟩
    ·exact .inl q
    ·refine .inr ⟨k, c', e, z'.sameBut hs ?_⟩
     rintro rfl
     exact hj (oX hN e1 (I.ok.inj _ _ _ e hc ▸ hi))
  ·by_cases hcc : c' = c
   ·subst hcc; exact ⟨_, hc'⟩
   ·obtain ⟨w2, z2⟩ := I.cell y c' e
    exact ⟨w2, z2.sameBut hs hcc⟩
  ·obtain ⟨e, n, ne, nf, d⟩ := I.pin p hp
   refine ⟨(hs.2 p.1 ?_).trans e, n, ne, nf, d⟩
   intro q
   rw [q, hoc] at e
   have q' : oc = p.2 := Option.some.inj e
   exact d w' (by rw [<- q']; exact hocd)
theorem qx {M : Model} {A : Around} {E : Value -> Shared -> Prop} {i : Nat} {x : Str} {v : V} {u : Value} {Q : Unit -> Shared -> Prop} (I : Inv X pins σ H s) (hN : X.N.Nodup) (hi : X.N[i]? = some x) (hx : Loc X.env.scope x) (r : RelV v u)
 (h : ∀ s', Inv X pins (σ.set i (some v)) H s' -> Q () s') (hf : X.fn x = true \/ X.env.scope.names.lookup x = some .local := by first | exact .inl rfl | exact .inr rfl | assumption) : wpAny M A (storeName X.env x u) Q E s :=
 rZ I hN hi hx r (fun s' I' _ => h s' I') hf
theorem Inv.call' {s' : Shared} {ch : List Addr} (I : Inv X pins σ H s) (ho : s'.os = s.os) (u : Un (frs X.stack) ch H H' s.heap s'.heap) (hok : HOk X.prog X.w H' s'.heap) (hg : AllBare s'.gens)
 (hch : ∀ b ∈ ch, (b ∈ X.ex \/ X.s₀.heap.objs.size <= b) /\ b ≠ X.env.locals /\ (∀ x c, X.env.cells.lookup x = some c -> c ≠ b) /\ ∀ p ∈ X.pn ++ pins, p.1 ≠ b) : Inv X pins σ H' s' := by
 obtain ⟨h', g', d', t', o'⟩ := s'
 have e : o' = s.os := ho
 subst e
 exact I.call (g' := g') (t' := t') (d' := d') u hok hg hch
end
abbrev XK := Value -> Option Addr -> Hp -> Prop
abbrev St := List (Option V)
abbrev VK := V -> Hp -> Prop
abbrev TE := St -> Hp -> VK -> Prop
abbrev TT := St -> Hp -> (Bool -> Hp -> Prop) -> Prop
abbrev TA := St -> Hp -> (List V -> Hp -> Prop) -> Prop
structure cv where
 nx : St -> Hp -> Prop
 rt : VK
 bk : St -> Hp -> Prop := fun _ _ => False
 ct : St -> Hp -> Prop := fun _ _ => False
abbrev TS := cv -> St -> Hp -> Prop
def EP (X : Cx) (pins : List (Addr × Obj)) (σ : St) (Q : VK) (u : Value) (s' : Shared) : Prop := ∃ v H', Inv X pins σ H' s' /\ RelV v u /\ Q v H'
def TP (X : Cx) (pins : List (Addr × Obj)) (σ : St) (Q : Bool -> Hp -> Prop) (b : Bool) (s' : Shared) : Prop := ∃ H', Inv X pins σ H' s' /\ Q b H'
def AP (X : Cx) (pins : List (Addr × Obj)) (σ : St) (Q : List V -> Hp -> Prop) (us : List Value) (s' : Shared) : Prop := ∃ vs H', Inv X pins σ H' s' /\ Vals vs us /\ Q vs H'
def SP (X : Cx) (pins : List (Addr × Obj)) (D : cv) (f : Flow) (s' : Shared) : Prop :=
 match f with
 | .next => ∃ σ' H', Inv X pins σ' H' s' /\ D.nx σ' H'
 | .brk => ∃ σ' H', Inv X pins σ' H' s' /\ D.bk σ' H'
 | .cont => ∃ σ' H', Inv X pins σ' H' s' /\ D.ct σ' H'
 | .ret u => ∃ v σ' H', Inv X pins σ' H' s' /\ RelV v u /\ D.rt v H'
def PE (X : Cx) (e : Expr) (t : TE) : Prop :=
 ∀ (pins : List (Addr × Obj)) (s : Shared) (σ : St) (H : Hp) (Q : VK), Inv X pins σ H s -> t σ H Q -> wpAny (model X.prog X.w) X.A (eval e X.env) (EP X pins σ Q) X.xe s
def PT (X : Cx) (e : Expr) (t : TT) : Prop :=
 ∀ (pins : List (Addr × Obj)) (s : Shared) (σ : St) (H : Hp) (Q : Bool -> Hp -> Prop), Inv X pins σ H s -> t σ H Q -> wpAny (model X.prog X.w) X.A (isTrue e X.env (eval e X.env)) (TP X pins σ Q) X.xe s
def PW (X : Cx) (e : Expr) (t : TT) : Prop :=
 ∀ (whole : Sem Value) (pins : List (Addr × Obj)) (s : Shared) (σ : St) (H : Hp) (Q : Bool -> Hp -> Prop), Inv X pins σ H s -> t σ H Q -> wpAny (model X.prog X.w) X.A (isTrue e X.env whole) (TP X pins σ Q) X.xe s
theorem PW.pt {X : Cx} {e : Expr} {t : TT} (h : PW X e t) : PT X e t := h _
def PA (X : Cx) (es : List Expr) (t : TA) : Prop :=
 ∀ (pos : Pos) (pins : List (Addr × Obj)) (s : Shared) (σ : St) (H : Hp) (Q : List V -> Hp -> Prop), Inv X pins σ H s -> t σ H Q -> wpAny (model X.prog X.w) X.A (spliced (backTo pos (starEach es X.env))) (AP X pins σ Q) X.xe s
def PS (X : Cx) (st : Stmt) (t : TS) : Prop :=
 ∀ (pins : List (Addr × Obj)) (s : Shared) (σ : St) (H : Hp) (D : cv), Inv X pins σ H s -> t D σ H -> wpAny (model X.prog X.w) X.A (exec st X.env) (SP X pins D) X.xe s
def PSs (X : Cx) (st : List Stmt) (t : TS) : Prop :=
 ∀ (pins : List (Addr × Obj)) (s : Shared) (σ : St) (H : Hp) (D : cv), Inv X pins σ H s -> t D σ H -> wpAny (model X.prog X.w) X.A (execs st X.env) (SP X pins D) X.xe s
theorem thn {α : Type} {t : Sem α} {Q Q' : α -> Shared -> Prop} {M : Model} {A : Around} {E : Value -> Shared -> Prop} {s : Shared} (h : wpAny M A t Q E s) (hQ : ∀ a s, Q a s -> Q' a s) : wpAny M A t Q' E s := wpAny_mono h hQ fun _ _ x => x
end L2
namespace L2
open PySem PySem.Spec PyProof.Rows
section
variable {X : Cx}
theorem bin {a b : Expr} {ta tb : TE} (ha : PE X a ta) (hb : PE X b tb) {pins : List (Addr × Obj)} {s : Shared} {σ : St} {H : Hp} {R : V -> V -> Hp -> Prop} (I : Inv X pins σ H s) (h : ta σ H fun x H1 => tb σ H1 fun y H2 => R x y H2)
 {α : Type} {Q : α -> Shared -> Prop} {f : Value -> Value -> Sem α}
 (hf : ∀ v u s2 x y H2, Inv X pins σ H2 s2 -> RelV x v -> RelV y u -> R x y H2 -> wpAny (model X.prog X.w) X.A (f v u) Q X.xe s2) :
 wpAny (model X.prog X.w) X.A (eval a X.env) (fun v s₁ => wpAny (model X.prog X.w) X.A (eval b X.env) (fun u s₂ => wpAny (model X.prog X.w) X.A (f v u) Q X.xe s₂) X.xe s₁) X.xe s := by
 refine thn (ha pins s σ H _ I h) fun v s1 ⟨x, H1, I1, r1, q1⟩ => ?_
 refine thn (hb pins s1 σ H1 _ I1 q1) fun u s2 ⟨y, H2, I2, r2, q2⟩ => ?_
 exact hf v u s2 x y H2 I2 r1 r2 q2
def Gu (i : Nat) : TE := fun σ H Q => ∃ v, σ[i]? = some (some v) /\ Q v H
def tC (v : V) : TE := fun _ H Q => Q v H
theorem DP {i : Nat} {x : Str} {pos : Pos} (hN : X.N[i]? = some x) (hv : Vis X.env.scope x) (hd : (x == ("__debug__" : Str)) = false := by decide) (hcd : (x == ("__classdict__" : Str)) = false := by decide) : PE X (.Name x pos) (Gu i) := by
 intro pins s σ H Q I h
 obtain ⟨v, e, h⟩ := h
 obtain ⟨m, hn, hl⟩ := I.loc
 obtain ⟨u, r, l⟩ := hl i x v hN e hv
 have fin : EP X pins σ Q u s := ⟨v, H, I, r, h⟩
 rcases l with ⟨hk, hm⟩ | ⟨hk, c, hc, hcell⟩
 ·exact wpAny_Name (wpAny_loadName_local I.ok.kind hk hn hm fin) hd
 ·rcases hk with hk | hk
  ·exact wpAny_Name (wpAny_loadName_cell I.ok.kind hk hc hcell fin) hd
  ·exact wpAny_Name (wpAny_loadName_free I.ok.kind hk hc hcell fin hcd) hd
theorem af {i j pos} : PE X (.Constant (.int i) j pos) (tC (.int i)) := fun _ _ _ H _ I h => wpAny_Constant_int ⟨.int i, H, I.tok _, ⟨_, rfl⟩, h⟩
theorem jt {b j pos} : PE X (.Constant (.bool b) j pos) (tC (.bl b)) := fun _ _ _ H _ I h => Constant_bool ⟨.bl b, H, I, rfl, h⟩
theorem eZ {j pos} : PE X (.Constant .none j pos) (tC .non) := fun _ _ _ H _ I h => Constant_none ⟨.non, H, I, rfl, h⟩
theorem DW {x j pos} : PE X (.Constant (.str x) j pos) (tC (.str x)) := fun _ _ _ H _ I h => Calls.Constant_str ⟨.str x, H, I.tok _, ⟨_, rfl⟩, h⟩
def Gl (X : Cx) (x : Str) : Prop := X.env.kindOf x = some .globalImplicit
theorem jQ {E : Value -> Shared -> Prop} {pins : List (Addr × Obj)} {s : Shared} {σ : St} {H : Hp} {x : Str} {u : Value} {pos : Pos} {Q : Value -> Shared -> Prop} (I : Inv X pins σ H s) (hg : Gl X x) (hm : X.mg x = some u) (h : Q u s)
 (hd : (x == ("__debug__" : Str)) = false := by decide) : wpAny (model X.prog X.w) X.A (eval (.Name x pos) X.env) Q E s :=
 Calls.Name_function_global I.ok.kind hg (Calls.loadGlobal_global (by rw [I.ok.glob]; exact I.mod.glob.keeps I.bk) hm h) hd
theorem mQ {E : Value -> Shared -> Prop} {pins : List (Addr × Obj)} {s : Shared} {σ : St} {H : Hp} {x : Str} {u : Value} {pos : Pos} {Q : Value -> Shared -> Prop} (I : Inv X pins σ H s) (hg : Gl X x) (hm : X.mg x = none) (hv : bootBuiltins x = some u) (h : Q u s)
 (hn : x ≠ "__name__" := by decide) (hd : (x == ("__debug__" : Str)) = false := by decide) : wpAny (model X.prog X.w) X.A (eval (.Name x pos) X.env) Q E s := by
 obtain ⟨mb, h1, h2⟩ := I.mod.blt
 exact Calls.Name_function_global I.ok.kind hg (Calls.loadGlobal_builtin (by rw [I.ok.glob]; exact I.mod.glob.keeps I.bk) hm (by rw [I.ok.blt]; exact h1.keeps I.bk) ((h2 x hn).trans hv) h) hd
theorem oJ {x : Str} {v : V} {u : Value} {pos : Pos} (hg : Gl X x) (hm : X.mg x = some u) (r : RelV v u) (hd : (x == ("__debug__" : Str)) = false := by decide) : PE X (.Name x pos) (tC v) :=
 fun _ _ _ H _ I h => jQ I hg hm ⟨v, H, I, r, h⟩ hd
theorem dt {x : Str} {v : V} {u : Value} {pos : Pos} (hg : Gl X x) (hm : X.mg x = none) (hv : bootBuiltins x = some u) (r : RelV v u) (hn : x ≠ "__name__" := by decide) (hd : (x == ("__debug__" : Str)) = false := by decide) : PE X (.Name x pos) (tC v) :=
 fun _ _ _ H _ I h => mQ I hg hm hv ⟨v, H, I, r, h⟩ hn hd
variable {a b : Expr} {ta tb : TE} {pos : Pos}
def PC (X : Cx) (op : CmpOp) (a b : Expr) (t : TE) : Prop :=
 ∀ (pins : List (Addr × Obj)) (s : Shared) (σ : St) (H : Hp) (Q : VK), Inv X pins σ H s -> t σ H Q ->
  wpAny (model X.prog X.w) X.A (eval a X.env) (fun v s₁ => wpAny (model X.prog X.w) X.A (eval b X.env) (fun u s₂ => wpAny (model X.prog X.w) X.A (compareOp op v u) (EP X pins σ Q) X.xe s₂) X.xe s₁) X.xe s
theorem vT (b : Expr) {op : CmpOp} (h : op ≠ .In) (h2 : op ≠ .NotIn) : behindInMarks op b = false := by
 have e1 : (op == CmpOp.In) = false := by cases op <;> first | rfl | exact absurd rfl h
 have e2 : (op == CmpOp.NotIn) = false := by cases op <;> first | rfl | exact absurd rfl h2
 cases b <;> simp [behindInMarks, e1, e2]
def FV (ta : TE) : TE := fun σ H Q => ta σ H fun x H1 => Q (.bl (decide (x = .non))) H1
def Dy (ta : TE) : TE := fun σ H Q => ta σ H fun x H1 => Q (.bl (!decide (x = .non))) H1
theorem RelV.none_iff {x : V} {v : Value} (r : RelV x v) : (v == Value.none) = decide (x = .non) := by
 cases x with
 | non => cases r; rfl
 | bl _ => cases r; rfl
 | int _ => obtain ⟨t, rfl⟩ := r; rfl
 | str _ => obtain ⟨t, rfl⟩ := r; rfl
 | byt _ => obtain ⟨t, rfl⟩ := r; rfl
 | flt _ => obtain ⟨t, rfl⟩ := r; rfl
 | ref _ => cases r; rfl
 | ty _ => cases r; rfl
theorem AA {j pos'} (ha : PE X a ta) : PC X .Is a (.Constant .none j pos') (FV ta) := by
 intro pins s σ H Q I h
 refine thn (ha pins s σ H _ I h) fun v s1 ⟨x, H1, I1, r1, q1⟩ => ?_
 exact Constant_none (is_none_gen ⟨.bl _, H1, I1, by rw [r1.none_iff]; rfl, q1⟩)
theorem lT {j pos'} (ha : PE X a ta) : PC X .IsNot a (.Constant .none j pos') (Dy ta) := by
 intro pins s σ H Q I h
 refine thn (ha pins s σ H _ I h) fun v s1 ⟨x, H1, I1, r1, q1⟩ => ?_
 exact Constant_none (isnot_none_gen ⟨.bl _, H1, I1, by rw [r1.none_iff]; rfl, q1⟩)
theorem xg {op : CmpOp} {t : TE} (h : PC X op a b t) (h1 : behindInMarks op b = false := by first | exact vT _ (by decide) (by decide) | rfl) : PE X (.Compare a [op] [b] pos) t := fun pins s σ H Q I hw => wpAny_Compare1 (h pins s σ H Q I hw) h1
variable {tA tB' : TT} {rest : List Expr}
def Ga (t u : TT) : TT := fun σ H Q => t σ H fun c H1 => if c = true then u σ H1 Q else Q false H1
def tOr (t u : TT) : TT := fun σ H Q => t σ H fun c H1 => if c = true then Q true H1 else u σ H1 Q
def FF (t : TT) : TT := fun σ H Q => t σ H fun c H1 => Q (!c) H1
theorem oP (ha : PT X a tA) : PW X (.BoolOp .And [a] pos) tA := by
 intro wh pins s σ H Q I h
 refine isTrue_and (thn (ha pins s σ H Q I h) fun c s1 e => ?_)
 cases c with
 | true => exact isTrue_and_nil e
 | false => exact e
theorem pw (ha : PT X a tA) : PW X (.BoolOp .Or [a] pos) tA := by
 intro wh pins s σ H Q I h
 refine isTrue_or (thn (ha pins s σ H Q I h) fun c s1 e => ?_)
 cases c with
 | false => exact isTrue_or_nil e
 | true => exact e
theorem uC (ha : PT X a tA) (hb : PW X (.BoolOp .And (b :: rest) pos) tB') : PW X (.BoolOp .And (a :: b :: rest) pos) (Ga tA tB') := by
 intro wh pins s σ H Q I h
 refine isTrue_and (thn (ha pins s σ H _ I h) fun c s1 ⟨H1, I1, q1⟩ => ?_)
 cases c with
 | true => exact hb wh pins s1 σ H1 Q I1 q1
 | false => exact ⟨H1, I1, q1⟩
theorem pU (ha : PT X a tA) (hb : PW X (.BoolOp .Or (b :: rest) pos) tB') : PW X (.BoolOp .Or (a :: b :: rest) pos) (tOr tA tB') := by
 intro wh pins s σ H Q I h
 refine isTrue_or (thn (ha pins s σ H _ I h) fun c s1 ⟨H1, I1, q1⟩ => ?_)
 cases c with
 | true => exact ⟨H1, I1, q1⟩
 | false => exact hb wh pins s1 σ H1 Q I1 q1
theorem dI (ha : PT X a tA) : PT X (.UnaryOp .Not a pos) (FF tA) := by
 intro pins s σ H Q I h
 exact isTrue_not (ha pins s σ H (fun c H1 => Q (!c) H1) I h)
theorem df {op} {t : TE} (h : PE X a t) : PE X (.BoolOp op [a] pos) t := fun pins s σ H Q I hw => BoolOp_one (h pins s σ H Q I hw)
def tIf (t : TT) (ta tb : TE) : TE := fun σ H Q => t σ H fun c H1 => if c = true then ta σ H1 Q else tb σ H1 Q
theorem Bl {c : Expr} (hc : PT X c tA) (ha : PE X a ta) (hb : PE X b tb) : PE X (.IfExp c a b pos) (tIf tA ta tb) := by
 intro pins s σ H Q I h
 refine wpAny_IfExp (thn (hc pins s σ H _ I h) fun d s1 ⟨H1, I1, q1⟩ => ?_)
 cases d with
 | true => exact ha pins s1 σ H1 Q I1 q1
 | false => exact hb pins s1 σ H1 Q I1 q1
end
end L2
namespace L2
open PySem PySem.Spec PyProof.Rows
def SqL (K : PySem.W.Frag) (H : Hp) (a : Addr) (xs : List V) : Prop :=
 Rd H a (.lst xs) \/
  ∃ (o : Obj) (its : Array Value) (n : Nat), K.lookup a = some o /\ o.cls = .type "list" /\ o.dict = none /\ o.data = .seq its n /\ its.size <= sizeLine /\ Vals xs its.toList
def SqT (K : PySem.W.Frag) (H : Hp) (a : Addr) (xs : List V) : Prop :=
 Rd H a (.tup xs) \/
  ∃ (o : Obj) (its : Array Value) (n : Nat), K.lookup a = some o /\ o.cls = .type "tuple" /\ o.data = .seq its n /\ its.size <= sizeLine /\ Vals xs its.toList
def GK : Value -> Option V
 | .none => some .non
 | .bool b => some (.bl b)
 | .int i _ => some (.int i)
 | .str x _ => some (.str x)
 | .bytes b _ => some (.byt b)
 | .float b _ => some (.flt b)
 | .ref a => some (.ref a)
 | .type n => some (.ty n)
 | _ => none
theorem RelV.abs {x : V} {u : Value} (r : RelV x u) : GK u = some x := by
 cases x with
 | non => cases r; rfl
 | bl _ => cases r; rfl
 | int _ => obtain ⟨t, rfl⟩ := r; rfl
 | str _ => obtain ⟨t, rfl⟩ := r; rfl
 | byt _ => obtain ⟨t, rfl⟩ := r; rfl
 | flt _ => obtain ⟨t, rfl⟩ := r; rfl
 | ref _ => cases r; rfl
 | ty _ => cases r; rfl
theorem RelV.inj {x y : V} {u : Value} (r : RelV x u) (q : RelV y u) : x = y := Option.some.inj (r.abs.symm.trans q.abs)
theorem Vals.inj : ∀ {xs ys : List V} {us : List Value}, Vals xs us -> Vals ys us -> xs = ys
 | _, _, _, .nil, .nil => rfl
 | _, _, _, .cons r t, .cons r' t' => by rw [r.inj r', Vals.inj t t']
section
variable {X : Cx} {pins : List (Addr × Obj)} {σ : St} {H : Hp} {s : Shared} {a : Addr} {xs ys : List V}
theorem SqL.of {K : PySem.W.Frag} (h : H a = some (.lst xs)) : SqL K H a xs := .inl (.inl h)
theorem SqT.of {K : PySem.W.Frag} (h : H a = some (.tup xs)) : SqT K H a xs := .inl (.inl h)
theorem Inv.list (I : Inv X pins σ H s) (h : SqL X.K H a xs) : ∃ its : List Value, Vals xs its /\ PlainL s.heap a its.toArray /\ xs.length <= sizeLine := by
 rcases h with h | ⟨o, its, n, hk, hc, hd, hs, hz, r⟩
 ·obtain ⟨z, its, n, r, e⟩ := h.ok I.hok
  exact ⟨its, r, ⟨_, n, e, rfl, rfl, rfl⟩, z⟩
 ·refine ⟨its.toList, r, ⟨o, n, I.kIn a o hk, hc, hd, by simpa using hs⟩, ?_⟩
  have e := r.length
  simp only [Array.length_toList] at e
  omega
theorem Inv.tuple (I : Inv X pins σ H s) (h : SqT X.K H a xs) : ∃ its : List Value, Vals xs its /\ IsTup s.heap a its.toArray /\ xs.length <= sizeLine := by
 rcases h with h | ⟨o, its, n, hk, hc, hs, hz, r⟩
 ·obtain ⟨z, its, r, p⟩ := h.ok I.hok
  exact ⟨its, r, p, z⟩
 ·refine ⟨its.toList, r, ⟨o, I.kIn a o hk, hc, n, by simpa using hs⟩, ?_⟩
  have e := r.length
  simp only [Array.length_toList] at e
  omega
theorem Inv.list_inj (I : Inv X pins σ H s) (h : SqL X.K H a xs) (h' : SqL X.K H a ys) : xs = ys := by
 obtain ⟨its, r, ⟨o, n, e, _, _, d⟩, _⟩ := I.list h
 obtain ⟨its', r', ⟨o', n', e', _, _, d'⟩, _⟩ := I.list h'
 rw [e] at e'; cases e'
 rw [d] at d'
 injection d' with d1 _
 have : its = its' := by simpa using congrArg Array.toList d1
 subst this
 exact r.inj r'
theorem Inv.tuple_inj (I : Inv X pins σ H s) (h : SqT X.K H a xs) (h' : SqT X.K H a ys) : xs = ys := by
 obtain ⟨its, r, ⟨o, e, _, n, d⟩, _⟩ := I.tuple h
 obtain ⟨its', r', ⟨o', e', _, n', d'⟩, _⟩ := I.tuple h'
 rw [e] at e'; cases e'
 rw [d] at d'
 injection d' with d1 _
 have : its = its' := by simpa using congrArg Array.toList d1
 subst this
 exact r.inj r'
end
abbrev Cx.wish (X : Cx) (E : Value -> Shared -> Prop) : Cx := { X with xe := E }
abbrev Cx.nox (X : Cx) : Cx := X.wish fun _ _ => False
section
variable {X : Cx} {pins : List (Addr × Obj)} {σ : St} {H : Hp} {s : Shared} {E : Value -> Shared -> Prop}
end
section
variable {X : Cx} {st : Stmt} {rest : List Stmt} {t u : TS} {e : Expr} {te : TE} {pos : Pos}
def Ar : TS := fun D σ H => D.nx σ H
def Aj (t u : TS) : TS := fun D σ H => t { D with nx := u D } σ H
theorem aS : PSs X [] Ar := fun _ _ σ H _ I h => wpAny_execs_nil ⟨σ, H, I, h⟩
theorem ah (h1 : PS X st t) (h2 : PSs X rest u) : PSs X (st :: rest) (Aj t u) := by
 intro pins s σ H D I h
 refine wpAny_execs_cons (thn (h1 pins s σ H { D with nx := u D } I h) fun f s1 q => ?_)
 cases f with
 | next =>
  obtain ⟨σ', H', I', q⟩ := q
  exact h2 pins s1 σ' H' D I' q
 | ret v => exact q
 | brk => exact q
 | cont => exact q
theorem ai (h1 : PS X st t) : PSs X [st] t := by
 intro pins s σ H D I h
 refine wpAny_execs_cons (thn (h1 pins s σ H D I h) fun f s1 q => ?_)
 cases f with
 | next => exact wpAny_execs_nil q
 | ret v => exact q
 | brk => exact q
 | cont => exact q
theorem Inv.quiet {pins : List (Addr × Obj)} {σ : St} {H : Hp} {s : Shared} (I : Inv X pins σ H s) : interactive X.env = false := by simp [interactive, I.ok.kind]
def Do (te : TE) : TS := fun D σ H => te σ H fun _ H1 => D.nx σ H1
theorem cg (he : PE X e te) (hs : swapsWith e none pos.line X.env = pure false := by rfl) : PS X (.Expr e pos) (Do te) := by
 intro pins s σ H D I h
 exact wpAny_Expr_any (thn (he pins s σ H _ I h) fun v s1 ⟨x, H1, I1, r1, q1⟩ => ⟨σ, H1, I1, q1⟩) I.quiet hs
def B1 (te : TE) : TS := fun D σ H => te σ H D.rt
theorem aL (he : PE X e te) : PS X (.Return (some e) pos) (B1 te) := by
 intro pins s σ H D I h
 exact wpAny_Return_some (thn (he pins s σ H _ I h) fun v s1 ⟨x, H1, I1, r1, q1⟩ => ⟨x, σ, H1, I1, r1, q1⟩)
def Ej (c : TT) (t u : TS) : TS := fun D σ H => c σ H fun b H1 => if b = true then t D σ H1 else u D σ H1
theorem bF {c : Expr} {a b : List Stmt} {tc : TT} (hc : PT X c tc) (ha : PSs X a t) (hb : PSs X b u) : PS X (.If c a b pos) (Ej tc t u) := by
 intro pins s σ H D I h
 refine wpAny_If (thn (hc pins s σ H _ I h) fun d s1 ⟨H1, I1, q1⟩ => ?_)
 cases d with
 | true => exact ha pins s1 σ H1 D I1 q1
 | false => exact hb pins s1 σ H1 D I1 q1
end
abbrev TG := V -> St -> Hp -> (St -> Hp -> Prop) -> Prop
abbrev TGs := List V -> St -> Hp -> (St -> Hp -> Prop) -> Prop
def PG (X : Cx) (target : Expr) (t : TG) : Prop :=
 ∀ (pins : List (Addr × Obj)) (s : Shared) (σ : St) (H : Hp) (v : V) (u : Value) (Q : St -> Hp -> Prop), Inv X pins σ H s -> RelV v u -> t v σ H Q ->
  wpAny (model X.prog X.w) X.A (assign target X.env u) (fun _ s' => ∃ σ' H', Inv X pins σ' H' s' /\ Q σ' H') X.xe s
def PGs (X : Cx) (ts : List Expr) (t : TGs) : Prop :=
 ∀ (pins : List (Addr × Obj)) (s : Shared) (σ : St) (H : Hp) (vs : List V) (us : List Value) (Q : St -> Hp -> Prop), Inv X pins σ H s -> Vals vs us -> t vs σ H Q ->
  wpAny (model X.prog X.w) X.A (assignInOrder ((assignEach ts X.env).map (·.2)) us) (fun _ s' => ∃ σ' H', Inv X pins σ' H' s' /\ Q σ' H') X.xe s
section
variable {X : Cx} {pos : Pos}
def iP (i : Nat) : TG := fun v σ H Q => Q (σ.set i (some v)) H
theorem aO {i : Nat} {x : Str} (hN : X.N.Nodup) (hi : X.N[i]? = some x) (hx : Loc X.env.scope x) (hf : X.fn x = true \/ X.env.scope.names.lookup x = some .local := by first | exact .inl rfl | exact .inr rfl | assumption) : PG X (.Name x pos) (iP i) := by
 intro pins s σ H v u Q I r h
 exact wpAny_assign_Name (qx I hN hi hx r (fun s' I' => ⟨_, H, I', h⟩) hf)
def F7 : TGs := fun vs σ H Q => vs = [] /\ Q σ H
def Ds (t : TG) (u : TGs) : TGs := fun vs σ H Q => ∃ v r, vs = v :: r /\ t v σ H fun σ' H' => u r σ' H' Q
theorem gE : PGs X [] F7 := by
 intro pins s σ H vs us Q I r h
 obtain ⟨e, h⟩ := h
 subst e
 cases r
 exact assignInOrder_nil ⟨σ, H, I, h⟩
theorem bf {e : Expr} {es : List Expr} {t : TG} {u : TGs} (h1 : PG X e t) (h2 : PGs X es u)
 (hs : (assignEach (e :: es) X.env).map (·.2) = assign e X.env :: (assignEach es X.env).map (·.2) := by rfl) : PGs X (e :: es) (Ds t u) := by
 intro pins s σ H vs us Q I r h
 obtain ⟨v, vr, e1, h⟩ := h
 subst e1
 cases r with
 | cons r rr =>
  rw [hs]
  refine assignInOrder_cons (thn (h1 pins s σ H _ _ _ I r h) fun _ s1 ⟨σ1, H1, I1, q1⟩ => ?_)
  exact h2 pins s1 σ1 H1 _ _ Q I1 rr q1
def Ew (K : PySem.W.Frag) (n : Nat) (t : TGs) : TG := fun v σ H Q => ∃ a xs, v = .ref a /\ SqT K H a xs /\ xs.length = n /\ t xs σ H Q
theorem DY {es : List Expr} {k : Nat} {t : TGs} {n : Nat} (hc : X.calm = true) (h : PGs X es t)
 (hn : (assignEach es X.env).length = n := by rfl) (hst : (assignEach es X.env).findIdx? (·.1) = none := by rfl) : PG X (.Tuple es k pos) (Ew X.K n t) := by
 intro pins s σ H v u Q I r hw
 obtain ⟨a, xs, e1, hq, hl, hw⟩ := hw
 subst e1
 cases r
 obtain ⟨its, rv, ht, hz⟩ := I.tuple hq
 refine assign_Tuple_tuple (I.ok.hd hc) ht (by simp [hn, <- hl, rv.length]) hst fun h' hx => ?_
 have I1 : Inv X pins σ H { s with heap := h' } := I.kept (t' := s.toks) fun b o e => hx b o (Nat.ne_of_lt (Heap.lt_size e)) e
 exact h pins _ σ H xs _ Q I1 (by simpa using rv) hw
def za (te : TE) (g : TG) : TS := fun D σ H => te σ H fun x H1 => g x σ H1 D.nx
theorem ui {tg e : Expr} {te : TE} {g : TG} (he : PE X e te) (hg : PG X tg g) (hs : swapsWithSole [tg] e pos.line X.env = pure false := by rfl) (hw : swappedStores [tg] e X.env = pure none := by rfl)
 (h1 : (assignEach [tg] X.env).map (·.2) = [assign tg X.env] := by rfl) : PS X (.Assign [tg] e pos) (za te g) := by
 intro pins s σ H D I h
 refine wpAny_Assign_stores (thn (he pins s σ H _ I h) fun v s1 ⟨x, H1, I1, r1, q1⟩ => ?_) hs hw
 rw [h1]
 exact thn (hg pins s1 σ H1 x v _ I1 r1 q1) fun _ s2 q => q
theorem aH {i : Nat} {x : Str} {e : Expr} {te : TE} {pos' : Pos} (hN : X.N.Nodup) (hi : X.N[i]? = some x) (hx : Loc X.env.scope x) (he : PE X e te) (hs : swapsWith e (some (.Name x pos')) pos.line X.env = pure false := by rfl) (hf : X.fn x = true \/ X.env.scope.names.lookup x = some .local := by first | exact .inl rfl | exact .inr rfl | assumption) :
 PS X (.Assign [.Name x pos'] e pos) (za te (iP i)) := by
 intro pins s σ H D I h
 refine wpAny_Assign_Name (thn (he pins s σ H _ I h) fun v s1 ⟨y, H1, I1, r1, q1⟩ => ?_) hs
 exact qx I1 hN hi hx r1 (fun s2 I2 => ⟨_, H1, I2, q1⟩) hf
end
section
variable {X : Cx} {pos : Pos}
def D_ (c : TT) (tb : TS) : TS := fun D σ H => ∃ W : Nat -> St -> Hp -> Prop, (∃ m, W m σ H) /\ ∀ m σ H, W m σ H ->
 c σ H fun b H1 => if b = true then ∃ N : St -> Hp -> Prop, (∀ σ' H', N σ' H' -> ∃ m', m' < m /\ W m' σ' H') /\ tb { D with nx := N, ct := N, bk := D.nx } σ H1 else D.nx σ H1
theorem pj {c : Expr} {body : List Stmt} {tc : TT} {tb : TS} (hp : PassesOwn (model X.prog X.w) X.A X.env X.xe) (hc : PT X c tc) (hb : PSs X body tb) : PS X (.While c body [] pos) (D_ tc tb) := by
 intro pins s σ H D I h
 obtain ⟨W, ⟨m0, w0⟩, turn⟩ := h
 refine wpAny_While (codeAny_whileLoop (fun n s' => ∃ σ' H', Inv X pins σ' H' s' /\ W n σ' H') ?_ m0 ⟨σ, H, I, w0⟩)
 rintro n s1 ⟨σ1, H1, I1, w1⟩
 refine wpAny_passesOwn hp (thn (hc pins s1 σ1 H1 _ I1 (turn n σ1 H1 w1)) fun b s2 ⟨H2, I2, q2⟩ => ?_)
 cases b with
 | true =>
  obtain ⟨N, hN, q2⟩ := q2
  rw [if_pos rfl]
  refine wpAny_passesOwn hp (thn (hb pins s2 σ1 H2 _ I2 q2) fun f s3 q3 => ?_)
  cases f with
  | next =>
   obtain ⟨σ3, H3, I3, n3⟩ := q3
   obtain ⟨m', hm, w3⟩ := hN σ3 H3 n3
   exact ⟨m', hm, σ3, H3, I3, w3⟩
  | cont =>
   obtain ⟨σ3, H3, I3, n3⟩ := q3
   obtain ⟨m', hm, w3⟩ := hN σ3 H3 n3
   exact ⟨m', hm, σ3, H3, I3, w3⟩
  | brk => exact q3
  | ret v => exact q3
 | false =>
  rw [if_neg Bool.false_ne_true]
  exact wpAny_execs_nil ⟨σ1, H2, I2, q2⟩
end
structure It where
 go : Nat -> Hp -> Prop
 yld : Nat -> Hp -> V -> Hp -> Prop
 stop : Nat -> Hp -> Prop
def qX (X : Cx) (pins : List (Addr × Obj)) (H : Hp) (b : Addr) : Prop :=
 H b = none /\ b ≠ X.env.locals /\ b ∉ X.fs /\ (b ∈ X.ex \/ X.s₀.heap.objs.size <= b) /\ (∀ x c, X.env.cells.lookup x = some c -> c ≠ b) /\ ∀ p ∈ X.pn ++ pins, p.1 ≠ b
theorem Inv.fpOk {X : Cx} {pins : List (Addr × Obj)} {σ : St} {H H' : Hp} {s : Shared} {b : Addr} (I : Inv X pins σ H s) (hb : s.heap.objs.size <= b) (hn : H' b = none) : qX X pins H' b := by
 refine ⟨hn, Nat.ne_of_gt (Nat.lt_of_lt_of_le I.lt hb), I.nofs hb, .inr (Nat.le_trans I.sz hb), fun x c e z => ?_, fun p hp z => ?_⟩
 ·obtain ⟨v, q⟩ := I.cell x c e
  exact absurd (Nat.lt_of_lt_of_le q.lt (by rw [z]; exact hb)) (Nat.lt_irrefl _)
 ·exact absurd (Nat.lt_of_lt_of_le (Heap.lt_size (I.pin p hp).1) (by rw [z]; exact hb)) (Nat.lt_irrefl _)
structure wH (P : Program) (w : World) (K : PySem.W.Frag) (tg : Expr) (J : It) (fp : List Addr) (it : Addr) (tn : Nat -> Heap -> Prop) : Prop where
 mem : it ∈ fp
 obj : ∀ i h, tn i h -> ∀ b ∈ fp, ∃ o, h.get? b = some o /\ ∀ v, o.data ≠ .cell v
 keep : ∀ i h h', tn i h -> (∀ b ∈ fp, ∀ o, h.get? b = some o -> h'.get? b = some o) -> tn i h'
 item : ∀ (X : Cx), X.prog = P -> X.w = w -> X.K = K -> X.calm = true -> ∀ (i : Nat) (pins : List (Addr × Obj)) (s : Shared) (σ : St) (H : Hp) (E : Value -> Shared -> Prop), Inv X pins σ H s -> (∀ b ∈ fp, qX X pins H b) -> tn i s.heap -> J.go i H ->
  wpAny (model P w) X.A (pyNext (.ref it)) (fun r s1 => ∃ u, r = some u /\
   wpAny (model P w) X.A (letOwnedTupleGo tg (.ref it) u) (fun _ s2 => ∃ x H', Inv X pins σ H' s2 /\ RelV x u /\ J.yld i H x H' /\ tn (i + 1) s2.heap /\ ∀ b ∈ fp, H' b = none) E s1) E s
 done : ∀ (X : Cx), X.prog = P -> X.w = w -> X.K = K -> X.calm = true -> ∀ (i : Nat) (pins : List (Addr × Obj)) (s : Shared) (σ : St) (H : Hp) (E : Value -> Shared -> Prop), Inv X pins σ H s -> (∀ b ∈ fp, qX X pins H b) -> tn i s.heap -> J.stop i H ->
  wpAny (model P w) X.A (pyNext (.ref it)) (fun r s1 => r = none /\ Inv X pins σ H s1) E s
 self : ∀ (A : Around) (i : Nat) (s : Shared) (Q : Value -> Shared -> Prop) (E : Value -> Shared -> Prop), tn i s.heap -> Q (.ref it) s -> wpAny (model P w) A (pyIter (.ref it)) Q E s
abbrev TI := St -> Hp -> (It -> Hp -> Prop) -> Prop
def PIE (X : Cx) (pins : List (Addr × Obj)) (σ : St) (tg : Expr) (R : It -> Hp -> Prop) (itv : Value) (s2 : Shared) : Prop :=
 ∃ (it : Addr) (fp : List Addr) (tn : Nat -> Heap -> Prop) (J : It) (H' : Hp), itv = .ref it /\ Inv X pins σ H' s2 /\ wH X.prog X.w X.K tg J fp it tn /\ tn 0 s2.heap /\ (∀ b ∈ fp, qX X pins H' b) /\ R J H'
def PI (X : Cx) (tg iter : Expr) (wi : TI) : Prop :=
 ∀ (pins : List (Addr × Obj)) (s : Shared) (σ : St) (H : Hp) (R : It -> Hp -> Prop), Inv X pins σ H s -> wi σ H R ->
  wpAny (model X.prog X.w) X.A (eval iter X.env) (fun v s1 => wpAny (model X.prog X.w) X.A (pyIter v) (PIE X pins σ tg R) X.xe s1) X.xe s
theorem qq {M : Model} {A : Around} {E : Value -> Shared -> Prop} {s : Shared} {tg : Expr} {it : Addr} {u : Value} {o : Obj} {n : String} {vs : Array Value} {Q : Unit -> Shared -> Prop} (ho : s.heap.get? it = some o) (hc : o.cls = .type n) (hd : o.data = .fields vs)
 (hn : ["enumerate", "zip", "dict_itemiterator", "dict_reverseitemiterator", "odict_iterator", "itertools.zip_longest", "itertools.pairwise"].contains n = false) (hQ : Q () s) : wpAny M A (letOwnedTupleGo tg (.ref it) u) Q E s := by
 unfold letOwnedTupleGo
 cases tg <;> first
  | exact wpAny_pure hQ
  | (cases u <;> first
   | exact wpAny_pure hQ
   | (refine wpAny_bind (wpAny_load ho ?_)
      rw [hc, hd]
      show wpAny M A (if (["enumerate", "zip", "dict_itemiterator", "dict_reverseitemiterator", "odict_iterator", "itertools.zip_longest", "itertools.pairwise"].contains n && vs[0]? == some (rawInt _)) = true then _ else _) Q E s
      rw [if_neg (by intro h; rw [hn, Bool.false_and] at h; cases h)]
      exact wpAny_pure hQ))
def Itl (K : PySem.W.Frag) (a : Addr) : It :=
 ⟨fun i H => ∃ xs x, SqL K H a xs /\ xs[i]? = some x, fun i H x H' => H' = H /\ ∀ xs, SqL K H a xs -> xs[i]? = some x, fun i H => ∃ xs, SqL K H a xs /\ xs.length <= i⟩
def Itt (K : PySem.W.Frag) (a : Addr) : It :=
 ⟨fun i H => ∃ xs x, SqT K H a xs /\ xs[i]? = some x, fun i H x H' => H' = H /\ ∀ xs, SqT K H a xs -> xs[i]? = some x, fun i H => ∃ xs, SqT K H a xs /\ xs.length <= i⟩
def Itr (lo : Int) (n : Nat) : It := ⟨fun i _ => i < n, fun i H x H' => H' = H /\ x = .int (lo + i), fun i _ => n <= i⟩
theorem zy {P : Program} {w : World} {K : PySem.W.Frag} {tg : Expr} (a it : Addr) : wH P w K tg (Itl K a) [it] it (fun i h => h.IsListIter it a i) where
 mem := by simp
 obj := fun i h st b hb => by
  have e : b = it := by simpa using hb
  subst e
  obtain ⟨o, e, c, d⟩ := st
  exact ⟨o, e, fun v z => by rw [d] at z; cases z⟩
 keep := fun i h h' st k => st.at fun o e => k it (by simp) o e
 item := by
  intro X hP hw hK hc i pins s σ H E I hf st hg
  subst hP hw hK
  obtain ⟨xs, x, hq, hx⟩ := hg
  obtain ⟨its, rv, p, hz⟩ := I.list hq
  obtain ⟨u, hu, ru⟩ := rv.get hx
  obtain ⟨f0, f1, f2, f3, f4, f5⟩ := hf it (by simp)
  refine wpAny_pyNext_list_item st p.isList (x := u) (by simpa using hu) fun h' st' sb => ?_
  have I1 : Inv X pins σ H { s with heap := h' } := I.turned (t' := s.toks) (fun b o hb e => (sb.2 b hb).trans e) f0 f1 f3 f4 f5
  obtain ⟨o, e, c, d⟩ := id st'
  exact ⟨u, rfl, qq (s := { s with heap := h' }) e c d (by decide) ⟨x, H, I1, ru, ⟨rfl, fun ys hy => by rw [I.list_inj hy hq]; exact hx⟩, st', fun b hb => (hf b hb).1⟩⟩
 done := by
  intro X hP hw hK hc i pins s σ H E I hf st hg
  subst hP hw hK
  obtain ⟨xs, hq, hx⟩ := hg
  obtain ⟨its, rv, p, hz⟩ := I.list hq
  obtain ⟨f0, f1, f2, f3, f4, f5⟩ := hf it (by simp)
  have hl := rv.length
  exact wpAny_pyNext_list_end (I.ok.hd hc) st p.isList (by simp; omega) fun h' eb => ⟨rfl, I.turned (t' := s.toks) (fun b o hb e => eb b o hb e) f0 f1 f3 f4 f5⟩
 self := fun _ _ _ _ _ st h => wpAny_pyIter_listiter st h
theorem xr {P : Program} {w : World} {K : PySem.W.Frag} {tg : Expr} (a it : Addr) : wH P w K tg (Itt K a) [it] it (fun i h => h.IsTupleIter it a i) where
 mem := by simp
 obj := fun i h st b hb => by
  have e : b = it := by simpa using hb
  subst e
  obtain ⟨o, e, c, d⟩ := st
  exact ⟨o, e, fun v z => by rw [d] at z; cases z⟩
 keep := fun i h h' st k => st.at fun o e => k it (by simp) o e
 item := by
  intro X hP hw hK hc i pins s σ H E I hf st hg
  subst hP hw hK
  obtain ⟨xs, x, hq, hx⟩ := hg
  obtain ⟨its, rv, p, hz⟩ := I.tuple hq
  obtain ⟨u, hu, ru⟩ := rv.get hx
  obtain ⟨f0, f1, f2, f3, f4, f5⟩ := hf it (by simp)
  refine wpAny_pyNext_tuple_item st (show s.heap.IsTuple a its.toArray from p) (x := u) (by simpa using hu) fun h' st' sb => ?_
  have I1 : Inv X pins σ H { s with heap := h' } := I.turned (t' := s.toks) (fun b o hb e => (sb.2 b hb).trans e) f0 f1 f3 f4 f5
  obtain ⟨o, e, c, d⟩ := id st'
  exact ⟨u, rfl, qq (s := { s with heap := h' }) e c d (by decide) ⟨x, H, I1, ru, ⟨rfl, fun ys hy => by rw [I.tuple_inj hy hq]; exact hx⟩, st', fun b hb => (hf b hb).1⟩⟩
 done := by
  intro X hP hw hK hc i pins s σ H E I hf st hg
  subst hP hw hK
  obtain ⟨xs, hq, hx⟩ := hg
  obtain ⟨its, rv, p, hz⟩ := I.tuple hq
  obtain ⟨f0, f1, f2, f3, f4, f5⟩ := hf it (by simp)
  have hl := rv.length
  exact wpAny_pyNext_tuple_end (I.ok.hd hc) st (show s.heap.IsTuple a its.toArray from p) (by simp; omega) fun h' eb => ⟨rfl, I.turned (t' := s.toks) (fun b o hb e => eb b o hb e) f0 f1 f3 f4 f5⟩
 self := fun _ _ _ _ _ st h => wpAny_pyIter_tupleiter st h
theorem wT {P : Program} {w : World} {K : PySem.W.Frag} {tg : Expr} (it : Addr) (lo : Int) (n : Nat) : wH P w K tg (Itr lo n) [it] it (fun i h => IsRangeIter h it (lo + (i : Nat) * 1) ((n : Int) - (i : Nat)) 1) where
 mem := by simp
 obj := fun i h st b hb => by
  have e : b = it := by simpa using hb
  subst e
  exact ⟨_, st, fun v z => by
   have z' : Data.fields _ = Data.cell v := z
   cases z'⟩
 keep := fun i h h' st k => k it (by simp) _ st
 item := by
  intro X hP hw hK hc i pins s σ H E I hf st hg
  subst hP hw hK
  obtain ⟨f0, f1, f2, f3, f4, f5⟩ := hf it (by simp)
  have W := Walks.range (prog := X.prog) (w := X.w) (I.ok.hd hc) it lo 1 n
  refine W.item i s _ _ hg st fun v h' tk hv st' kk => ?_
  obtain ⟨t, rfl⟩ := hv
  have I1 : Inv X pins σ H { s with heap := h', toks := tk } := I.turned (fun b o hb e => kk b o (by simpa using hb) e) f0 f1 f3 f4 f5
  refine ⟨_, rfl, qq (s := { s with heap := h', toks := tk }) (n := "range_iterator") st' rfl rfl (by decide) ⟨.int (lo + i), H, I1, ⟨t, ?_⟩, ⟨rfl, rfl⟩, st', fun b hb => (hf b hb).1⟩⟩
  rw [Int.mul_one]
 done := by
  intro X hP hw hK hc i pins s σ H E I hf st hg
  subst hP hw hK
  obtain ⟨f0, f1, f2, f3, f4, f5⟩ := hf it (by simp)
  exact wpAny_pyNext_range_end (I.ok.hd hc) st (by have : n <= i := hg; omega) fun h' eb => ⟨rfl, I.turned (t' := s.toks) (fun b o hb e => eb b o hb e) f0 f1 f3 f4 f5⟩
 self := fun _ _ _ _ _ st h => wpAny_pyIter_rangeiter st h
end L2
namespace L2
open PySem PySem.Spec PyProof.Rows
section
variable {X : Cx} {tg : Expr}
def qD (K : PySem.W.Frag) (tl : TE) : TI := fun σ H R => tl σ H fun x H1 => ∃ a, x = .ref a /\ (∃ xs, SqL K H1 a xs) /\ R (Itl K a) H1
def zc (K : PySem.W.Frag) (tl : TE) : TI := fun σ H R => tl σ H fun x H1 => ∃ a, x = .ref a /\ (∃ xs, SqT K H1 a xs) /\ R (Itt K a) H1
theorem CT {l : Expr} {tl : TE} (hl : PE X l tl) : PI X tg l (qD X.K tl) := by
 intro pins s σ H R I h
 refine thn (hl pins s σ H _ I h) fun v s1 ⟨x, H1, I1, r1, q1⟩ => ?_
 obtain ⟨a, e, ⟨xs, hq⟩, q⟩ := q1
 subst e
 cases r1
 obtain ⟨its, rv, p, hz⟩ := I1.list hq
 refine wpAny_pyIter_list p.isList ?_
 refine ⟨s1.heap.objs.size, [s1.heap.objs.size], _, _, H1, rfl, I1.kept (t' := s1.toks) fun b o e => Heap.get?_push_of_some _ e, zy a _, ⟨_, Heap.get?_push_size _ rfl, rfl, rfl⟩, fun b hb => ?_, q⟩
 have e : b = s1.heap.objs.size := by simpa using hb
 subst e
 exact I1.fpOk (Nat.le_refl _) (I1.hok.fresh (Nat.le_refl _))
theorem EK {l : Expr} {tl : TE} (hl : PE X l tl) : PI X tg l (zc X.K tl) := by
 intro pins s σ H R I h
 refine thn (hl pins s σ H _ I h) fun v s1 ⟨x, H1, I1, r1, q1⟩ => ?_
 obtain ⟨a, e, ⟨xs, hq⟩, q⟩ := q1
 subst e
 cases r1
 obtain ⟨its, rv, p, hz⟩ := I1.tuple hq
 refine wpAny_pyIter_tuple (show s1.heap.IsTuple a its.toArray from p) ?_
 refine ⟨s1.heap.objs.size, [s1.heap.objs.size], _, _, H1, rfl, I1.kept (t' := s1.toks) fun b o e => Heap.get?_push_of_some _ e, xr a _, ⟨_, Heap.get?_push_size _ rfl, rfl, rfl⟩, fun b hb => ?_, q⟩
 have e : b = s1.heap.objs.size := by simpa using hb
 subst e
 exact I1.fpOk (Nat.le_refl _) (I1.hok.fresh (Nat.le_refl _))
theorem vI {pins : List (Addr × Obj)} {σ : St} {H : Hp} {s : Shared} {R : It -> Hp -> Prop} {E : Value -> Shared -> Prop} {lo hi : Int} {t u v : Tok} {tk : Nat} (I : Inv X pins σ H s) (h1 : -(2 ^ 62) <= lo) (h2 : lo < 2 ^ 62) (h3 : -(2 ^ 62) <= hi) (h4 : hi < 2 ^ 62)
 (q : R (Itr lo (hi - lo).toNat) H) : wpAny (model X.prog X.w) X.A (pyIter (.ref s.heap.objs.size)) (PIE X pins σ tg R) E { s with heap := s.heap.push { cls := .type "range", data := .fields #[.int lo t, .int hi u, .int 1 v] }, toks := tk } := by
 refine wpAny_pyIter_range (IsRange.new ..) (small_one h1 h2 h3 h4) ?_
 have I1 : Inv X pins σ H { s with heap := s.heap.push { cls := .type "range", data := .fields #[.int lo t, .int hi u, .int 1 v] }, toks := tk } := I.kept fun b o e => Heap.get?_push_of_some _ e
 refine ⟨(s.heap.push { cls := .type "range", data := .fields #[.int lo t, .int hi u, .int 1 v] }).objs.size, [(s.heap.push { cls := .type "range", data := .fields #[.int lo t, .int hi u, .int 1 v] }).objs.size], _, _, H, rfl,
  I1.kept (t' := tk) fun b o e => Heap.get?_push_of_some _ e, wT _ lo (hi - lo).toNat, ?_, fun b hb => ?_, q⟩
 ·have e1 : lo + ((0 : Nat) : Int) * 1 = lo := by simp
  have e2 : (((hi - lo).toNat : Nat) : Int) - ((0 : Nat) : Int) = Builtin.Range.rangeSize lo hi 1 := by rw [rangeSize_one]; split <;> omega
  show IsRangeIter _ _ (lo + ((0 : Nat) : Int) * 1) ((((hi - lo).toNat : Nat) : Int) - ((0 : Nat) : Int)) 1
  rw [e1, e2]
  exact Heap.get?_push_size _ rfl
 ·have e : b = (s.heap.push { cls := .type "range", data := .fields #[.int lo t, .int hi u, .int 1 v] }).objs.size := by simpa using hb
  subst e
  exact I1.fpOk (Nat.le_refl _) (I1.hok.fresh (Nat.le_refl _))
def Dq (ta : TA) : TI := fun σ H R => ta σ H fun vs H1 => ∃ j : Int, vs = [.int j] /\ -(2 ^ 62) <= j /\ j < 2 ^ 62 /\ R (Itr 0 j.toNat) H1
def Dw (ta : TA) : TI := fun σ H R => ta σ H fun vs H1 => ∃ i j : Int, vs = [.int i, .int j] /\ (-(2 ^ 62) <= i /\ i < 2 ^ 62 /\ -(2 ^ 62) <= j /\ j < 2 ^ 62) /\ R (Itr i (j - i).toNat) H1
theorem g_ {a : Expr} {ta : TA} {p pos : Pos} (hg : Gl X "range") (hm : X.mg "range" = none) (ha : PA X [a] ta) (hs : starEach [a] X.env = [(false, eval a X.env)] := by rfl) : PI X tg (.Call (.Name "range" p) [a] [] pos) (Dq ta) := by
 intro pins s σ H R I h
 refine Call_ (mQ I hg hm boot_range (PyProof.Rows.callWith_type1 (thn (ha pos pins s σ H _ I h) fun us s1 ⟨vs, H1, I1, r1, q1⟩ => ?_) hs rfl))
 obtain ⟨j, e, q1, q2, q⟩ := q1
 subst e
 cases r1 with
 | cons r rr =>
  cases rr
  obtain ⟨t, rfl⟩ := r
  exact call_range_1 (vI I1 (by omega) (by omega) q1 q2 (by simpa using q))
theorem y4 {a b : Expr} {ta : TA} {p pos : Pos} (hg : Gl X "range") (hm : X.mg "range" = none) (ha : PA X [a, b] ta) (hs : starEach [a, b] X.env = [(false, eval a X.env), (false, eval b X.env)] := by rfl) (hs2 : starEach [b] X.env = [(false, eval b X.env)] := by rfl) :
 PI X tg (.Call (.Name "range" p) [a, b] [] pos) (Dw ta) := by
 intro pins s σ H R I h
 refine Call_ (mQ I hg hm boot_range (PyProof.Rows.callWith_type1 (thn (ha pos pins s σ H _ I h) fun us s1 ⟨vs, H1, I1, r1, q1⟩ => ?_) (by rw [hs, hs2]) (by rw [hs2]; rfl)))
 obtain ⟨i, j, e, ⟨q1, q2, q3, q4⟩, q⟩ := q1
 subst e
 cases r1 with
 | cons r rr =>
  cases rr with
  | cons r' rr =>
   cases rr
   obtain ⟨t, rfl⟩ := r
   obtain ⟨t', rfl⟩ := r'
   exact call_range_2 (vI I1 q1 q2 q3 q4 q)
def qK (wi : TI) (g : TG) (tb : TS) : TS := fun D σ H => wi σ H fun J H1 => ∃ W : Nat -> Nat -> St -> Hp -> Prop, (∃ m, W 0 m σ H1) /\ ∀ i m σ H, W i m σ H ->
 (J.stop i H /\ D.nx σ H) \/ (J.go i H /\ ∃ N : St -> Hp -> Prop, (∀ σ' H', N σ' H' -> ∃ m', m' < m /\ W (i + 1) m' σ' H') /\ ∀ x H', J.yld i H x H' -> g x σ H' fun σ2 H2 => tb { D with nx := N, ct := N, bk := D.nx } σ2 H2)
def qr (fp : List Addr) (h : Heap) : List (Addr × Obj) := fp.filterMap fun b => (h.get? b).map fun o => (b, o)
theorem ip {fp : List Addr} {h : Heap} {b : Addr} {o : Obj} (hb : b ∈ fp) (e : h.get? b = some o) : (b, o) ∈ qr fp h := List.mem_filterMap.mpr ⟨b, hb, by rw [e]; rfl⟩
theorem zx {fp : List Addr} {h : Heap} {p : Addr × Obj} (hp : p ∈ qr fp h) : p.1 ∈ fp /\ h.get? p.1 = some p.2 := by
 obtain ⟨b, hb, e⟩ := List.mem_filterMap.mp hp
 cases q : h.get? b with
 | none => rw [q] at e; cases e
 | some o =>
  rw [q] at e
  have e' : (b, o) = p := Option.some.inj e
  subst e'
  exact ⟨hb, q⟩
theorem Inv.pinned {pins : List (Addr × Obj)} {σ : St} {H : Hp} {s : Shared} {fp : List Addr} (I : Inv X pins σ H s) (hf : ∀ b ∈ fp, qX X pins H b) (ho : ∀ b ∈ fp, ∃ o, s.heap.get? b = some o /\ ∀ v, o.data ≠ .cell v) : Inv X (pins ++ qr fp s.heap) σ H s :=
 I.pins_of fun p hp => (List.mem_append.mp hp).elim (fun z => I.pin p (List.mem_append_right _ z)) fun z => by
  obtain ⟨hb, e⟩ := zx z
  obtain ⟨f0, f1, f2, _⟩ := hf p.1 hb
  obtain ⟨o, e', d⟩ := ho p.1 hb
  rw [e] at e'; cases e'
  exact ⟨e, f0, f1, f2, d⟩
theorem Inv.unpinned {pins pl : List (Addr × Obj)} {σ : St} {H : Hp} {s : Shared} (I : Inv X (pins ++ pl) σ H s) : Inv X pins σ H s := I.pins_of fun p hp => I.pin p (List.mem_append_right _ (List.mem_append_left _ hp))
theorem e_ {iter : Expr} {body : List Stmt} {wi : TI} {g : TG} {tb : TS} {pos : Pos} (hp : PassesOwn (model X.prog X.w) X.A X.env X.xe) (hc : X.calm = true) (hi : PI X tg iter wi) (hg : PG X tg g) (hb : PSs X body tb)
 (hs : ∀ x, foldedSetIterable iter X.env x = pure x := by intro _; rfl) : PS X (.For tg iter body [] pos) (qK wi g tb) := by
 intro pins s σ H D I h
 refine wpAny_For (thn (hi pins s σ H _ I h) fun v s1 h1 => thn h1 fun itv s2 h2 => ?_) hs
 obtain ⟨it, fp, tn, J, H2, e, I2, T, st2, f2, W, ⟨m0, w0⟩, turn⟩ := h2
 subst e
 have stat : ∀ {H' : Hp}, (∀ b ∈ fp, H' b = none) -> ∀ b ∈ fp, qX X pins H' b := fun hn b hb => ⟨hn b hb, (f2 b hb).2⟩
 refine codeAny_forLoop_any (fun n s' => ∃ i σ' H', Inv X pins σ' H' s' /\ tn i s'.heap /\ (∀ b ∈ fp, H' b = none) /\ W i n σ' H') ?_ m0 ⟨0, σ, H2, I2, st2, fun b hb => (f2 b hb).1, w0⟩
 rintro n s3 ⟨i, σ3, H3, I3, st3, fr3, w3⟩
 rcases turn i n σ3 H3 w3 with ⟨stop, qn⟩ | ⟨go, N, hN, step⟩
 ·refine wpAny_passesOwn hp (thn (T.done X rfl rfl rfl hc i pins s3 σ3 H3 X.xe I3 (stat fr3) st3 stop) fun r s4 ⟨hr, I4⟩ => ?_)
  subst hr
  exact wpAny_execs_nil ⟨σ3, H3, I4, qn⟩
 ·refine wpAny_passesOwn hp (thn (T.item X rfl rfl rfl hc i pins s3 σ3 H3 X.xe I3 (stat fr3) st3 go) fun r s4 ⟨u, hr, h4⟩ => ?_)
  subst hr
  refine wpAny_passesOwn hp (thn h4 fun _ s5 ⟨x, H5, I5, r5, y5, st5, fr5⟩ => ?_)
  have I5' := I5.pinned (stat fr5) (T.obj _ _ st5)
  refine wpAny_passesOwn hp (thn (hg _ s5 σ3 H5 x u _ I5' r5 (step x H5 y5)) fun _ s6 ⟨σ6, H6, I6, q6⟩ => ?_)
  refine wpAny_passesOwn hp (thn (hb _ s6 σ6 H6 _ I6 q6) fun f s7 q7 => ?_)
  have again : ∀ {σ7 : St} {H7 : Hp}, Inv X (pins ++ qr fp s5.heap) σ7 H7 s7 -> N σ7 H7 -> ∃ m, m < n /\ ∃ i σ' H', Inv X pins σ' H' s7 /\ tn i s7.heap /\ (∀ b ∈ fp, H' b = none) /\ W i m σ' H' := fun {σ7 H7} I7 n7 => by
   obtain ⟨m', hm, w7⟩ := hN σ7 H7 n7
   refine ⟨m', hm, i + 1, σ7, H7, I7.unpinned, T.keep _ _ _ st5 fun b hb o e => (I7.pin (b, o) (List.mem_append_right _ (List.mem_append_right _ (ip hb e)))).1, fun b hb => ?_, w7⟩
   obtain ⟨o, e, d⟩ := T.obj _ _ st5 b hb
   exact (I7.pin (b, o) (List.mem_append_right _ (List.mem_append_right _ (ip hb e)))).2.1
  cases f with
  | next => obtain ⟨σ7, H7, I7, n7⟩ := q7; exact again I7 n7
  | cont => obtain ⟨σ7, H7, I7, n7⟩ := q7; exact again I7 n7
  | brk => obtain ⟨σ7, H7, I7, q7⟩ := q7; exact ⟨σ7, H7, I7.unpinned, q7⟩
  | ret v => obtain ⟨x7, σ7, H7, I7, r7, q7⟩ := q7; exact ⟨x7, σ7, H7, I7.unpinned, r7, q7⟩
end
theorem qy {K : PySem.W.Frag} {a : Addr} {xs : List V} {g : TG} {tb : TS} {D : cv} {σ : St} {H : Hp} (Pv : Nat -> St -> Hp -> Prop) (h0 : Pv 0 σ H) (hl : ∀ i σ H, i <= xs.length -> Pv i σ H -> SqL K H a xs)
 (hs : ∀ i x σ H, xs[i]? = some x -> Pv i σ H -> g x σ H fun σ2 H2 => tb { D with nx := Pv (i + 1), ct := Pv (i + 1), bk := D.nx } σ2 H2) (hd : ∀ σ H, Pv xs.length σ H -> D.nx σ H) :
 ∃ W : Nat -> Nat -> St -> Hp -> Prop, (∃ m, W 0 m σ H) /\ ∀ i m σ H, W i m σ H ->
  ((Itl K a).stop i H /\ D.nx σ H) \/ ((Itl K a).go i H /\ ∃ N : St -> Hp -> Prop, (∀ σ' H', N σ' H' -> ∃ m', m' < m /\ W (i + 1) m' σ' H') /\ ∀ x H', (Itl K a).yld i H x H' -> g x σ H' fun σ2 H2 => tb { D with nx := N, ct := N, bk := D.nx } σ2 H2) := by
 refine ⟨fun i m σ H => m = xs.length - i /\ i <= xs.length /\ Pv i σ H, ⟨xs.length, by simp, Nat.zero_le _, h0⟩, ?_⟩
 rintro i m σ H ⟨rfl, hi, p⟩
 have q := hl i σ H hi p
 by_cases hlt : i < xs.length
 ·refine .inr ⟨⟨xs, xs[i], q, by simp [hlt]⟩, Pv (i + 1), fun σ' H' p' => ⟨xs.length - (i + 1), by omega, rfl, hlt, p'⟩, fun x H' y => ?_⟩
  obtain ⟨e, y⟩ := y
  subst e
  exact hs i x σ _ (y xs q) p
 ·have e : i = xs.length := by omega
  subst e
  exact .inl ⟨⟨xs, q, Nat.le_refl _⟩, hd σ H p⟩
theorem CY {K : PySem.W.Frag} {a : Addr} {xs : List V} {g : TG} {tb : TS} {D : cv} {σ : St} {H : Hp} (Pv : Nat -> St -> Hp -> Prop) (h0 : Pv 0 σ H) (hl : ∀ i σ H, i <= xs.length -> Pv i σ H -> SqT K H a xs)
 (hs : ∀ i x σ H, xs[i]? = some x -> Pv i σ H -> g x σ H fun σ2 H2 => tb { D with nx := Pv (i + 1), ct := Pv (i + 1), bk := D.nx } σ2 H2) (hd : ∀ σ H, Pv xs.length σ H -> D.nx σ H) :
 ∃ W : Nat -> Nat -> St -> Hp -> Prop, (∃ m, W 0 m σ H) /\ ∀ i m σ H, W i m σ H ->
  ((Itt K a).stop i H /\ D.nx σ H) \/ ((Itt K a).go i H /\ ∃ N : St -> Hp -> Prop, (∀ σ' H', N σ' H' -> ∃ m', m' < m /\ W (i + 1) m' σ' H') /\ ∀ x H', (Itt K a).yld i H x H' -> g x σ H' fun σ2 H2 => tb { D with nx := N, ct := N, bk := D.nx } σ2 H2) := by
 refine ⟨fun i m σ H => m = xs.length - i /\ i <= xs.length /\ Pv i σ H, ⟨xs.length, by simp, Nat.zero_le _, h0⟩, ?_⟩
 rintro i m σ H ⟨rfl, hi, p⟩
 have q := hl i σ H hi p
 by_cases hlt : i < xs.length
 ·refine .inr ⟨⟨xs, xs[i], q, by simp [hlt]⟩, Pv (i + 1), fun σ' H' p' => ⟨xs.length - (i + 1), by omega, rfl, hlt, p'⟩, fun x H' y => ?_⟩
  obtain ⟨e, y⟩ := y
  subst e
  exact hs i x σ _ (y xs q) p
 ·have e : i = xs.length := by omega
  subst e
  exact .inl ⟨⟨xs, q, Nat.le_refl _⟩, hd σ H p⟩
theorem g6 {lo : Int} {n : Nat} {g : TG} {tb : TS} {D : cv} {σ : St} {H : Hp} (Pv : Nat -> St -> Hp -> Prop) (h0 : Pv 0 σ H)
 (hs : ∀ i σ H, i < n -> Pv i σ H -> g (.int (lo + i)) σ H fun σ2 H2 => tb { D with nx := Pv (i + 1), ct := Pv (i + 1), bk := D.nx } σ2 H2) (hd : ∀ σ H, Pv n σ H -> D.nx σ H) :
 ∃ W : Nat -> Nat -> St -> Hp -> Prop, (∃ m, W 0 m σ H) /\ ∀ i m σ H, W i m σ H ->
  ((Itr lo n).stop i H /\ D.nx σ H) \/ ((Itr lo n).go i H /\ ∃ N : St -> Hp -> Prop, (∀ σ' H', N σ' H' -> ∃ m', m' < m /\ W (i + 1) m' σ' H') /\ ∀ x H', (Itr lo n).yld i H x H' -> g x σ H' fun σ2 H2 => tb { D with nx := N, ct := N, bk := D.nx } σ2 H2) := by
 refine ⟨fun i m σ H => m = n - i /\ i <= n /\ Pv i σ H, ⟨n, by simp, Nat.zero_le _, h0⟩, ?_⟩
 rintro i m σ H ⟨rfl, hi, p⟩
 by_cases hlt : i < n
 ·refine .inr ⟨hlt, Pv (i + 1), fun σ' H' p' => ⟨n - (i + 1), by omega, rfl, hlt, p'⟩, fun x H' y => ?_⟩
  obtain ⟨e, y⟩ := y
  subst e y
  exact hs i σ _ hlt p
 ·have e : i = n := by omega
  subst e
  exact .inl ⟨Nat.le_refl _, hd σ H p⟩
end L2
namespace L2
open PySem PySem.Spec PyProof.Rows
abbrev R2 := V -> V -> Hp -> VK -> Prop
def OpR (X : Cx) (f : Value -> Value -> Sem Value) (r : R2) : Prop :=
 ∀ (pins : List (Addr × Obj)) (s : Shared) (σ : St) (H : Hp) (x y : V) (v u : Value) (Q : VK), Inv X pins σ H s -> RelV x v -> RelV y u -> r x y H Q ->
  wpAny (model X.prog X.w) X.A (f v u) (EP X pins σ Q) X.xe s
def UnR (X : Cx) (f : Value -> Sem Value) (r : V -> Hp -> VK -> Prop) : Prop :=
 ∀ (pins : List (Addr × Obj)) (s : Shared) (σ : St) (H : Hp) (x : V) (v : Value) (Q : VK), Inv X pins σ H s -> RelV x v -> r x H Q ->
  wpAny (model X.prog X.w) X.A (f v) (EP X pins σ Q) X.xe s
def CallR (X : Cx) (f : Value) (r : List V -> Hp -> VK -> Prop) : Prop :=
 ∀ (pins : List (Addr × Obj)) (s : Shared) (σ : St) (H : Hp) (xs : List V) (us : List Value) (Q : VK), Inv X pins σ H s -> Vals xs us -> r xs H Q ->
  wpAny (model X.prog X.w) X.A (call f us) (EP X pins σ Q) X.xe s
def Gm (X : Cx) (r : V -> Hp -> (Bool -> Hp -> Prop) -> Prop) : Prop :=
 ∀ (pins : List (Addr × Obj)) (s : Shared) (σ : St) (H : Hp) (x : V) (v : Value) (Q : Bool -> Hp -> Prop), Inv X pins σ H s -> RelV x v -> r x H Q ->
  wpAny (model X.prog X.w) X.A (truthy v) (TP X pins σ Q) X.xe s
def tOp (r : R2) (ta tb : TE) : TE := fun σ H Q => ta σ H fun x H1 => tb σ H1 fun y H2 => r x y H2 Q
def tUn (r : V -> Hp -> VK -> Prop) (ta : TE) : TE := fun σ H Q => ta σ H fun x H1 => r x H1 Q
def rI (C : Int -> Int -> Prop) (g : Int -> Int -> V) : R2 := fun x y H Q => ∃ i j, x = .int i /\ y = .int j /\ C i j /\ Q (g i j) H
def rI0 (g : Int -> Int -> V) : R2 := fun x y H Q => ∃ i j, x = .int i /\ y = .int j /\ Q (g i j) H
def rU (g : Int -> V) : V -> Hp -> VK -> Prop := fun x H Q => ∃ i, x = .int i /\ Q (g i) H
section
variable {X : Cx} {a b c : Expr} {ta tb tc : TE} {pos : Pos}
theorem D8 (ha : PE X a ta) (hb : PE X b tb) {pins : List (Addr × Obj)} {s : Shared} {σ : St} {H : Hp} {R : V -> V -> Hp -> Prop} (I : Inv X pins σ H s)
 (h : ta σ H fun x H1 => tb σ H1 fun y H2 => R x y H2) {Q : Value -> Shared -> Prop} {f : Value -> Value -> Sem Value}
 (hf : ∀ v u s2 x y H2, Inv X pins σ H2 s2 -> RelV x v -> RelV y u -> R x y H2 -> wpAny (model X.prog X.w) X.A (f v u) Q X.xe s2) :
 wpAny (model X.prog X.w) X.A (eval a X.env) (fun v s₁ => wpAny (model X.prog X.w) X.A (eval b X.env) (fun u s₂ => wpAny (model X.prog X.w) X.A (f v u) Q X.xe s₂) X.xe s₁) X.xe s := by
 refine thn (ha pins s σ H _ I h) fun v s1 ⟨x, H1, I1, r1, q1⟩ => ?_
 refine thn (hb pins s1 σ H1 _ I1 q1) fun u s2 ⟨y, H2, I2, r2, q2⟩ => ?_
 exact hf v u s2 x y H2 I2 r1 r2 q2
theorem ak {op : Operator} {r : R2} (ho : OpR X (binaryOp op) r) (ha : PE X a ta) (hb : PE X b tb) : PE X (.BinOp a op b pos) (tOp r ta tb) := by
 intro pins s σ H Q I h
 exact wpAny_BinOp (D8 ha hb I h fun v u s2 x y H2 I2 rx ry q => ho pins s2 σ H2 x y v u Q I2 rx ry q)
theorem BV {op : UnaryOp} {r : V -> Hp -> VK -> Prop} (ho : UnR X (unaryOp op) r) (ha : PE X a ta) : PE X (.UnaryOp op a pos) (tUn r ta) := by
 intro pins s σ H Q I h
 exact UnaryOp_ (thn (ha pins s σ H _ I h) fun v s1 ⟨x, H1, I1, r1, q1⟩ => ho pins s1 σ H1 x v Q I1 r1 q1)
theorem opI {f : Value -> Value -> Sem Value} {C : Int -> Int -> Prop} {g : Int -> Int -> Int}
 (rule : ∀ (i j : Int) (t u : Tok) (s : Shared) (Q : Value -> Shared -> Prop) (E : Value -> Shared -> Prop), C i j -> Q (.int (g i j) s.toks) { s with toks := s.toks + 1 } -> wpAny (model X.prog X.w) X.A (f (.int i t) (.int j u)) Q E s) :
 OpR X f (rI C fun i j => .int (g i j)) := by
 intro pins s σ H x y v u Q I rx ry h
 obtain ⟨i, j, rfl, rfl, hc, q⟩ := h
 obtain ⟨t, rfl⟩ := rx
 obtain ⟨t', rfl⟩ := ry
 exact rule i j t t' s _ _ hc ⟨.int (g i j), H, I.tok _, ⟨_, rfl⟩, q⟩
theorem F1 {f : Value -> Value -> Sem Value} {g : Int -> Int -> Int}
 (rule : ∀ (i j : Int) (t u : Tok) (s : Shared) (Q : Value -> Shared -> Prop) (E : Value -> Shared -> Prop), Q (.int (g i j) s.toks) { s with toks := s.toks + 1 } -> wpAny (model X.prog X.w) X.A (f (.int i t) (.int j u)) Q E s) :
 OpR X f (rI0 fun i j => .int (g i j)) := by
 intro pins s σ H x y v u Q I rx ry h
 obtain ⟨i, j, rfl, rfl, q⟩ := h
 obtain ⟨t, rfl⟩ := rx
 obtain ⟨t', rfl⟩ := ry
 exact rule i j t t' s _ _ ⟨.int (g i j), H, I.tok _, ⟨_, rfl⟩, q⟩
theorem ET {f : Value -> Value -> Sem Value} {g : Int -> Int -> Bool}
 (rule : ∀ (i j : Int) (t u : Tok) (s : Shared) (Q : Value -> Shared -> Prop) (E : Value -> Shared -> Prop), Q (.bool (g i j)) s -> wpAny (model X.prog X.w) X.A (f (.int i t) (.int j u)) Q E s) :
 OpR X f (rI0 fun i j => .bl (g i j)) := by
 intro pins s σ H x y v u Q I rx ry h
 obtain ⟨i, j, rfl, rfl, q⟩ := h
 obtain ⟨t, rfl⟩ := rx
 obtain ⟨t', rfl⟩ := ry
 exact rule i j t t' s _ _ ⟨.bl (g i j), H, I, rfl, q⟩
def E9 (i j : Int) : Prop := 0 < j /\ j < 1073741824
def D9 (i j : Int) : Prop := 0 <= j /\ j <= 1000000 /\ i.natAbs < 2 ^ 64
def CMul (i j : Int) : Prop := (-(2 ^ 64) < i /\ i < 2 ^ 64) \/ (-(2 ^ 64) < j /\ j < 2 ^ 64)
theorem CMul.ok {i j : Int} (h : CMul i j) : IntMulOk i j := by
 rcases h with ⟨h1, h2⟩ | ⟨h1, h2⟩
 ·exact .of_left (intBits_le_64 h1 h2)
 ·exact .of_right (intBits_le_64 h1 h2)
theorem Em : OpR X (binaryOp .Add) (rI0 fun i j => .int (i + j)) := F1 fun _ _ _ _ _ _ _ q => add_int q
theorem Fg : OpR X (binaryOp .Sub) (rI0 fun i j => .int (i - j)) := F1 fun _ _ _ _ _ _ _ q => sub_int q
theorem Fi : OpR X (binaryOp .Mult) (rI CMul fun i j => .int (i * j)) := opI fun _ _ _ _ _ _ _ hc q => mul_int q hc.ok
theorem Db : OpR X (binaryOp .FloorDiv) (rI E9 fun i j => .int (i / j)) := opI fun i j _ _ _ _ _ hc q => by
 have h1 : (0 : Int) < j := hc.1
 have h2 : j < 1073741824 := hc.2
 exact floordiv_int (by omega) (by rw [Int.fdiv_eq_ediv_of_nonneg i (by omega)]; exact q) (.inl (PyProof.noPylong_small (by omega)))
theorem Ed : OpR X (binaryOp .Mod) (rI (fun _ j => 0 < j) fun i j => .int (i % j)) := opI fun i j _ _ _ _ _ hc q => by
 have h1 : (0 : Int) < j := hc
 exact mod_int' (by omega) (by rw [Int.fmod_eq_emod_of_nonneg i (by omega)]; exact q)
theorem EQ : OpR X (binaryOp .Pow) (rI D9 fun i j => .int (i ^ j.toNat)) := opI fun _ _ _ _ _ _ _ hc q => pow_int_small hc.1 hc.2.1 hc.2.2 q
theorem unI {f : Value -> Sem Value} {g : Int -> Int}
 (rule : ∀ (i : Int) (t : Tok) (s : Shared) (Q : Value -> Shared -> Prop) (E : Value -> Shared -> Prop), Q (.int (g i) s.toks) { s with toks := s.toks + 1 } -> wpAny (model X.prog X.w) X.A (f (.int i t)) Q E s) :
 UnR X f (rU fun i => .int (g i)) := by
 intro pins s σ H x v Q I rx h
 obtain ⟨i, rfl, q⟩ := h
 obtain ⟨t, rfl⟩ := rx
 exact rule i t s _ _ ⟨.int (g i), H, I.tok _, ⟨_, rfl⟩, q⟩
theorem DQ : UnR X (unaryOp .USub) (rU fun i => .int (-i)) := unI fun _ _ _ _ _ q => neg_int q
end
def E4 : V -> V -> Bool
 | .non, .non => true | .non, .int _ => true | .int _, .non => true | .non, .bl _ => true | .bl _, .non => true | .non, .str _ => true | .str _, .non => true
 | .int _, .int _ => true | .bl _, .bl _ => true | .str _, .str _ => true | .byt _, .byt _ => true
 | .int _, .str _ => true | .str _, .int _ => true | .bl _, .str _ => true | .str _, .bl _ => true
 | _, _ => false
def rEq : R2 := fun x y H Q => E4 x y = true /\ Q (.bl (decide (x = y))) H
def rNe : R2 := fun x y H Q => E4 x y = true /\ Q (.bl (!decide (x = y))) H
theorem yT {i j : Int} : decide (V.int i = V.int j) = (i == j) := by
 rw [Bool.eq_iff_iff]
 simp
theorem AV {i j : Bool} : decide (V.bl i = V.bl j) = (i == j) := by
 rw [Bool.eq_iff_iff]
 simp
theorem xD {i j : Str} : decide (V.str i = V.str j) = (i == j) := by
 rw [Bool.eq_iff_iff]
 simp
theorem yb {i j : Array UInt8} : decide (V.byt i = V.byt j) = (i.toList == j.toList) := by
 rw [Bool.eq_iff_iff]
 cases i
 cases j
 simp
section
variable {X : Cx} {a b c : Expr} {ta tb tc : TE} {pos : Pos}
theorem bi {pins : List (Addr × Obj)} {σ : St} {H : Hp} {s : Shared} {Q : VK} {k k' : Bool} (I : Inv X pins σ H s) (q : Q (.bl k) H) (e : k = k') : EP X pins σ Q (.bool k') s := by
 subst e
 exact ⟨.bl k, H, I, rfl, q⟩
theorem F3 : OpR X (compareOp .Eq) rEq := by
 intro pins s σ H x y v u Q I rx ry h
 obtain ⟨hs, q⟩ := h
 cases x with
 | non =>
  cases rx
  cases y with
  | non => cases ry; exact PySem.EqNone.eq_none_none (bi I q (by simp))
  | bl j => cases ry; exact PySem.EqNone.eq_none_bool (bi I q (by simp))
  | int j => obtain ⟨t', rfl⟩ := ry; exact PySem.EqNone.eq_none_int (bi I q (by simp))
  | str j => obtain ⟨t', rfl⟩ := ry; exact PySem.EqNone.eq_none_str (bi I q (by simp))
  | _ => exact absurd (show false = true from hs) Bool.false_ne_true
 | bl i =>
  cases rx
  cases y with
  | non => cases ry; exact PySem.EqNone.eq_bool_none (bi I q (by simp))
  | bl j => cases ry; exact eq_bool (bi I q AV)
  | str j => obtain ⟨t', rfl⟩ := ry; exact PySem.EqMixed.eq_bool_str (bi I q (by simp))
  | _ => exact absurd (show false = true from hs) Bool.false_ne_true
 | int i =>
  obtain ⟨t, rfl⟩ := rx
  cases y with
  | non => cases ry; exact PySem.EqNone.eq_int_none (bi I q (by simp))
  | int j => obtain ⟨t', rfl⟩ := ry; exact eq_int (bi I q yT)
  | str j => obtain ⟨t', rfl⟩ := ry; exact PySem.EqMixed.eq_int_str (bi I q (by simp))
  | _ => exact absurd (show false = true from hs) Bool.false_ne_true
 | str i =>
  obtain ⟨t, rfl⟩ := rx
  cases y with
  | non => cases ry; exact PySem.EqNone.eq_str_none (bi I q (by simp))
  | bl j => cases ry; exact PySem.EqMixed.eq_str_bool (bi I q (by simp))
  | int j => obtain ⟨t', rfl⟩ := ry; exact PySem.EqMixed.eq_str_int (bi I q (by simp))
  | str j => obtain ⟨t', rfl⟩ := ry; exact eq_str (bi I q xD)
  | _ => exact absurd (show false = true from hs) Bool.false_ne_true
 | byt i =>
  obtain ⟨t, rfl⟩ := rx
  cases y with
  | byt j => obtain ⟨t', rfl⟩ := ry; exact PySem.W.eq_bytes (bi I q yb)
  | _ => exact absurd (show false = true from hs) Bool.false_ne_true
 | _ => cases y <;> exact absurd (show false = true from hs) Bool.false_ne_true
theorem Fs : OpR X (compareOp .NotEq) rNe := by
 intro pins s σ H x y v u Q I rx ry h
 obtain ⟨hs, q⟩ := h
 cases x with
 | non =>
  cases rx
  cases y with
  | non => cases ry; exact PySem.EqNone.ne_none_none (bi I q (by simp))
  | bl j => cases ry; exact PySem.EqNone.ne_none_bool (bi I q (by simp))
  | int j => obtain ⟨t', rfl⟩ := ry; exact PySem.EqNone.ne_none_int (bi I q (by simp))
  | str j => obtain ⟨t', rfl⟩ := ry; exact PySem.EqNone.ne_none_str (bi I q (by simp))
  | _ => exact absurd (show false = true from hs) Bool.false_ne_true
 | bl i =>
  cases rx
  cases y with
  | non => cases ry; exact PySem.EqNone.ne_bool_none (bi I q (by simp))
  | bl j => cases ry; exact ne_bool (bi I q (congrArg not AV))
  | str j => obtain ⟨t', rfl⟩ := ry; exact PySem.EqMixed.ne_bool_str (bi I q (by simp))
  | _ => exact absurd (show false = true from hs) Bool.false_ne_true
 | int i =>
  obtain ⟨t, rfl⟩ := rx
  cases y with
  | non => cases ry; exact PySem.EqNone.ne_int_none (bi I q (by simp))
  | int j => obtain ⟨t', rfl⟩ := ry; exact ne_int (bi I q (congrArg not yT))
  | str j => obtain ⟨t', rfl⟩ := ry; exact PySem.EqMixed.ne_int_str (bi I q (by simp))
  | _ => exact absurd (show false = true from hs) Bool.false_ne_true
 | str i =>
  obtain ⟨t, rfl⟩ := rx
  cases y with
  | non => cases ry; exact PySem.EqNone.ne_str_none (bi I q (by simp))
  | bl j => cases ry; exact PySem.EqMixed.ne_str_bool (bi I q (by simp))
  | int j => obtain ⟨t', rfl⟩ := ry; exact PySem.EqMixed.ne_str_int (bi I q (by simp))
  | str j => obtain ⟨t', rfl⟩ := ry; exact ne_str (bi I q (congrArg not xD))
  | _ => exact absurd (show false = true from hs) Bool.false_ne_true
 | byt i =>
  obtain ⟨t, rfl⟩ := rx
  cases y with
  | byt j => obtain ⟨t', rfl⟩ := ry; exact PySem.W.ne_bytes (bi I q (congrArg not yb))
  | _ => exact absurd (show false = true from hs) Bool.false_ne_true
 | _ => cases y <;> exact absurd (show false = true from hs) Bool.false_ne_true
theorem FC : OpR X (compareOp .Lt) (rI0 fun i j => .bl (decide (i < j))) := ET fun _ _ _ _ _ _ _ q => lt_int q
theorem FM : OpR X (compareOp .LtE) (rI0 fun i j => .bl (decide (i <= j))) := ET fun _ _ _ _ _ _ _ q => le_int q
theorem Fw : OpR X (compareOp .Gt) (rI0 fun i j => .bl (decide (j < i))) := ET fun _ _ _ _ _ _ _ q => gt_int q
theorem zC : OpR X (compareOp .Lt) (fun x y H Q => ∃ i j, x = .str i /\ y = .str j /\ Q (.bl (decide (i.cps.toList < j.cps.toList))) H) := by
 intro pins s σ H x y v u Q I rx ry h
 obtain ⟨i, j, rfl, rfl, q⟩ := h
 obtain ⟨t, rfl⟩ := rx
 obtain ⟨t', rfl⟩ := ry
 exact lt_str (bi I q rfl)
theorem zN : OpR X (compareOp .In) (fun x y H Q => ∃ i j, x = .str i /\ y = .str j /\ Q (.bl (!(Builtin.Str.occurrences j i 0 j.length 1).isEmpty)) H) := by
 intro pins s σ H x y v u Q I rx ry h
 obtain ⟨i, j, rfl, rfl, q⟩ := h
 obtain ⟨t, rfl⟩ := rx
 obtain ⟨t', rfl⟩ := ry
 exact in_str (bi I q rfl)
theorem OpR.or {f : Value -> Value -> Sem Value} {r r' : R2} (h : OpR X f r) (h' : OpR X f r') : OpR X f (fun x y H Q => r x y H Q \/ r' x y H Q) := by
 intro pins s σ H x y v u Q I rx ry q
 rcases q with q | q
 ·exact h pins s σ H x y v u Q I rx ry q
 ·exact h' pins s σ H x y v u Q I rx ry q
theorem aY (b : Expr) {op : CmpOp} (h : op ≠ .In := by decide) (h2 : op ≠ .NotIn := by decide) : behindInMarks op b = false := by
 have e1 : (op == CmpOp.In) = false := by cases op <;> first | rfl | exact absurd rfl h
 have e2 : (op == CmpOp.NotIn) = false := by cases op <;> first | rfl | exact absurd rfl h2
 cases b <;> simp [behindInMarks, e1, e2]
theorem d8 {op : CmpOp} {r : R2} (ho : OpR X (compareOp op) r) (ha : PE X a ta) (hb : PE X b tb) (hm : behindInMarks op b = false) : PE X (.Compare a [op] [b] pos) (tOp r ta tb) := by
 intro pins s σ H Q I h
 exact wpAny_Compare1 (D8 ha hb I h fun v u s2 x y H2 I2 rx ry q => ho pins s2 σ H2 x y v u Q I2 rx ry q) hm
def Gr (K : PySem.W.Frag) (x : V) (H : Hp) (k : Bool) : Prop :=
 match x with
 | .non => k = false
 | .bl b => k = b
 | .int i => k = (i != 0)
 | .str y => y.length <= sizeLine /\ k = ((y.length : Int) != 0)
 | .byt y => y.size <= sizeLine /\ k = ((y.size : Int) != 0)
 | .ref p => (∃ xs, SqL K H p xs /\ k = !xs.isEmpty) \/ (∃ xs, SqT K H p xs /\ k = !xs.isEmpty) \/ ∃ kvs, H p = some (.dK kvs) /\ k = !kvs.isEmpty
 | _ => False
theorem wF {κ : Type} {kvs : List (κ × V)} {vs : List (κ × Value)} (r : KV kvs vs) : (!vs.isEmpty) = !kvs.isEmpty := by
 cases r <;> rfl
theorem o9 {xs : List V} {its : List Value} (r : Vals xs its) : (!its.toArray.isEmpty) = !xs.isEmpty := by
 cases r <;> simp
theorem qB : (sizeLine : Nat) < 2 ^ 63 := by rw [sizeLine_eq]; decide
theorem Gx : Gm X (fun x H Q => ∃ k, Gr X.K x H k /\ Q k H) := by
 intro pins s σ H x v Q I rx h
 obtain ⟨k, e, q⟩ := h
 have hl := qB
 have hs : sizeLine = 16777216 := sizeLine_eq
 cases x with
 | non =>
  cases rx
  have e' : k = false := e
  subst e'
  exact truthy_none ⟨H, I, q⟩
 | bl b =>
  cases rx
  have e' : k = b := e
  subst e'
  exact wpAny_truthy_bool ⟨H, I, q⟩
 | int i =>
  obtain ⟨t, rfl⟩ := rx
  have e' : k = (i != 0) := e
  subst e'
  exact PySem.P.truthy_int ⟨H, I, q⟩
 | str y =>
  obtain ⟨t, rfl⟩ := rx
  obtain ⟨hy, e'⟩ : y.length <= sizeLine /\ k = ((y.length : Int) != 0) := e
  subst e'
  exact PySem.P.truthy_str (by omega) ⟨H, I.tok _, q⟩
 | byt y =>
  obtain ⟨t, rfl⟩ := rx
  obtain ⟨hy, e'⟩ : y.size <= sizeLine /\ k = ((y.size : Int) != 0) := e
  subst e'
  exact PySem.W.truthy_bytes (by omega) ⟨H, I.tok _, q⟩
 | ref p =>
  cases rx
  have e' : (∃ xs, SqL X.K H p xs /\ k = !xs.isEmpty) \/ (∃ xs, SqT X.K H p xs /\ k = !xs.isEmpty) \/ ∃ kvs, H p = some (.dK kvs) /\ k = !kvs.isEmpty := e
  rcases e' with ⟨xs, hx, e'⟩ | ⟨xs, hx, e'⟩ | ⟨kvs, hx, e'⟩
  ·subst e'
   obtain ⟨its, r, pl, hz⟩ := I.list hx
   have hlen := r.length
   exact wpAny_truthy_list pl.isList (by simp only [List.size_toArray]; omega) ⟨H, I.tok _, by rw [o9 r]; exact q⟩
  ·subst e'
   obtain ⟨its, r, pl, hz⟩ := I.tuple hx
   have hlen := r.length
   exact truthy_tuple pl (by simp only [List.size_toArray]; omega) ⟨H, I.tok _, by rw [o9 r]; exact q⟩
  ·subst e'
   obtain ⟨hz, hS, vs, r, m⟩ : kvs.length <= sizeLine /\ (p == sysModules) = false /\ ∃ vs, KV kvs vs /\ s.heap.DictOf (bV X.prog X.w) p vs := I.hok p _ hx
   have hlen : kvs.length = vs.length := Paired.length r
   exact wpAny_truthy_dict hS m (by omega) ⟨H, I.tok _, by rw [wF r]; exact q⟩
 | _ => exact (show False from e).elim
theorem wP : OpR X (binaryOp .Add) (fun x y H Q => ∃ i j, x = .str i /\ y = .str j /\ i.length + j.length <= sizeLine /\ Q (.str (i ++ j)) H) := by
 intro pins s σ H x y v u Q I rx ry h
 obtain ⟨i, j, rfl, rfl, hz, q⟩ := h
 obtain ⟨t, rfl⟩ := rx
 obtain ⟨t', rfl⟩ := ry
 exact add_str (fun t' tk => ⟨.str (i ++ j), H, I.tok _, ⟨_, rfl⟩, q⟩) hz
theorem gs {x : V} {us : List Value} (r : Vals [x] us) : ∃ u, us = [u] /\ RelV x u := by
 cases r with
 | cons r1 r2 => cases r2; exact ⟨_, rfl, r1⟩
theorem x_ {x y : V} {us : List Value} (r : Vals [x, y] us) : ∃ u w', us = [u, w'] /\ RelV x u /\ RelV y w' := by
 cases r with
 | cons r1 r2 =>
  cases r2 with
  | cons r3 r4 => cases r4; exact ⟨_, _, rfl, r1, r3⟩
theorem zh (hc : X.calm = true) : CallR X (.builtin "max") (fun xs H Q => ∃ i j, xs = [.int i, .int j] /\ Q (.int (if j > i then j else i)) H) := by
 intro pins s σ H xs us Q I r h
 obtain ⟨i, j, rfl, q⟩ := h
 obtain ⟨u, w', rfl, ⟨t, rfl⟩, ⟨t', rfl⟩⟩ := x_ r
 refine max_two_ints (I.ok.hd hc) fun h' tk k => ⟨_, H, I.kept k, ?_, q⟩
 by_cases hj : j > i
 ·rw [if_pos hj, if_pos hj]; exact ⟨_, rfl⟩
 ·rw [if_neg hj, if_neg hj]; exact ⟨_, rfl⟩
theorem y9 (hc : X.calm = true) : CallR X (.builtin "min") (fun xs H Q => ∃ i j, xs = [.int i, .int j] /\ Q (.int (if j < i then j else i)) H) := by
 intro pins s σ H xs us Q I r h
 obtain ⟨i, j, rfl, q⟩ := h
 obtain ⟨u, w', rfl, ⟨t, rfl⟩, ⟨t', rfl⟩⟩ := x_ r
 refine min_two_ints (I.ok.hd hc) fun h' tk k => ⟨_, H, I.kept k, ?_, q⟩
 by_cases hj : j < i
 ·rw [if_pos hj, if_pos hj]; exact ⟨_, rfl⟩
 ·rw [if_neg hj, if_neg hj]; exact ⟨_, rfl⟩
theorem zl : CallR X (.type "int") (fun xs H Q => (∃ i, xs = [.int i] /\ Q (.int i) H) \/ ∃ k, xs = [.bl k] /\ Q (.int (if k then 1 else 0)) H) := by
 intro pins s σ H xs us Q I r h
 rcases h with ⟨i, rfl, q⟩ | ⟨k, rfl, q⟩
 ·obtain ⟨u, rfl, t, rfl⟩ := gs r
  exact call_int_int ⟨.int i, H, I, ⟨_, rfl⟩, q⟩
 ·obtain ⟨u, rfl, r1⟩ := gs r
  cases r1
  exact call_int_bool ⟨.int (if k then 1 else 0), H, I.tok _, ⟨_, rfl⟩, q⟩
def GE (K : PySem.W.Frag) (x : V) (H : Hp) (n : Nat) : Prop :=
 match x with
 | .str y => y.length <= sizeLine /\ n = y.length
 | .byt y => y.size <= sizeLine /\ n = y.size
 | .ref p => (∃ xs, SqL K H p xs /\ n = xs.length) \/ ∃ xs, SqT K H p xs /\ n = xs.length
 | _ => False
theorem zU : CallR X (.builtin "len") (fun xs H Q => ∃ x n, xs = [x] /\ GE X.K x H n /\ Q (.int n) H) := by
 intro pins s σ H xs us Q I r h
 obtain ⟨x, n, rfl, e, q⟩ := h
 obtain ⟨u, rfl, rx⟩ := gs r
 have hl := qB
 have hs : sizeLine = 16777216 := sizeLine_eq
 cases x with
 | str y =>
  obtain ⟨t, rfl⟩ := rx
  obtain ⟨hy, e'⟩ : y.length <= sizeLine /\ n = y.length := e
  subst e'
  exact len_str (by omega) ⟨.int _, H, I.tok _, ⟨_, rfl⟩, q⟩
 | byt y =>
  obtain ⟨t, rfl⟩ := rx
  obtain ⟨hy, e'⟩ : y.size <= sizeLine /\ n = y.size := e
  subst e'
  exact PySem.W.len_bytes (by omega) ⟨.int _, H, I.tok _, ⟨_, rfl⟩, q⟩
 | ref p =>
  cases rx
  have e' : (∃ xs, SqL X.K H p xs /\ n = xs.length) \/ ∃ xs, SqT X.K H p xs /\ n = xs.length := e
  rcases e' with ⟨xs, hx, e'⟩ | ⟨xs, hx, e'⟩
  ·subst e'
   obtain ⟨its, r', pl, hz⟩ := I.list hx
   have hlen := r'.length
   exact Calls.call_len_list pl.isList (by simp only [List.size_toArray]; omega) ⟨.int xs.length, H, I.tok _, ⟨_, by simp only [List.size_toArray]; rw [hlen]⟩, q⟩
  ·subst e'
   obtain ⟨its, r', pl, hz⟩ := I.tuple hx
   have hlen := r'.length
   exact len_tuple pl (by simp only [List.size_toArray]; omega) ⟨.int xs.length, H, I.tok _, ⟨_, by simp only [List.size_toArray]; rw [hlen]⟩, q⟩
 | _ => exact (show False from e).elim
end
end L2
namespace L2
open PySem PySem.Spec PyProof.Rows
structure ObjM (h : Heap) (x dx C : Addr) (mA : Str -> Option Value) : Prop where
 obj : h.get? x = some (PySem.W.instObj C dx)
 ns : h.Ns1 dx mA
 ne : dx ≠ x
theorem yW {h : Heap} {dx : Addr} {mA : Str -> Option Value} (n : h.Ns1 dx mA) : ∃ od, h.get? dx = some od /\ ∀ name, PySem.W.lookIn name od = some (mA name) := by
 obtain ⟨o, es, ep, ho, hd, hk, _, hm⟩ := n
 refine ⟨o, ho, fun name => ?_⟩
 have e := hm name
 unfold nsFind findBy at e
 rw [<- Array.find?_toList] at e
 unfold PySem.W.lookIn
 rw [hd]
 dsimp only
 split
 ·rename_i y q
  rw [q] at e
  exact congrArg some e
 ·rename_i q
  rw [q] at e
  have a : es.toList.any (·.refKey) = false := by
   rw [List.any_eq_false]
   intro y hy
   obtain ⟨z, t, hkey⟩ := hk y (Array.mem_toList_iff.mp hy)
   simp [DictEntry.refKey, hkey]
  have a' : ¬ es.toList.any (·.refKey) = true := by rw [a]; exact Bool.false_ne_true
  rw [if_neg a']
  exact congrArg some e
theorem ObjM.look {h : Heap} {x dx C : Addr} {mA : Str -> Option Value} (I : ObjM h x dx C mA) : ∃ od, PySem.W.InstAt h x (PySem.W.instObj C dx) C (some od) /\ ∀ name, PySem.W.lookIn name od = some (mA name) :=
 let ⟨od, ho, hl⟩ := yW I.ns
 ⟨od, ⟨I.obj, rfl, rfl, ho⟩, hl⟩
section
variable {prog : Program} {w : World} {A : Around} {E : Value -> Shared -> Prop} {s : Shared} {K : PySem.W.Frag} {x dx C f : Addr} {mA : Str -> Option Value} {name : Str} {v : Value}
theorem Cy {expr : Bool} {Q : Value -> Shared -> Prop} (X : K.In s.heap) (I : ObjM s.heap x dx C mA) (hg : PySem.W.plainGet K C name = true) (hh : PySem.W.hasDictIn K C = true)
 (ha : PySem.W.findIn K (.ref C) name = some none) (hv : mA name = some v) (hv' : PySem.W.handedIn v = true) (h : Q v { s with toks := s.toks + 1 }) :
 wpAny (model prog w) A (getAttr (.ref x) name expr) Q E s := by
 obtain ⟨od, J, hl⟩ := I.look
 exact PySem.W.get_value X J (PySem.W.plainGet_of hg).1 (PySem.W.findObj_own hh ha rfl (by rw [hl, hv])) hv' h
theorem Ab {pl : Sem Bool} {Q : Value × List Value -> Shared -> Prop} (X : K.In s.heap) (I : ObjM s.heap x dx C mA) (hg : PySem.W.plainGet K C name = true)
 (hf : PySem.W.findIn K (.ref C) name = some (some (.ref f))) (ht : PySem.W.isFn K (.ref f) = true) (hv : mA name = none) (h : Q (.ref f, [.ref x]) s) :
 wpAny (model prog w) A (getMethod (.ref x) name pl) Q E s := by
 obtain ⟨od, J, hl⟩ := I.look
 exact PySem.W.method_fn X J (PySem.W.plainGet_of hg).1 (PySem.W.plainGet_of hg).2 hf (beq_iff_eq.mp ht) (by show (PySem.W.lookIn name od).map (·.isSome) = some false; rw [hl, hv]; rfl) h
theorem Df {ns : List Str} {Q : Unit -> Shared -> Prop} (X : K.In s.heap) (I : ObjM s.heap x dx C mA)
 (hs : PySem.W.findIn K (.ref C) "__setattr__" = some (some (.builtin "object.__setattr__"))) (hp : PySem.W.plainOver K C = true) (ht : PySem.W.takerIn K C name = some none) (hh : PySem.W.hasDictIn K C = true)
 (hw : PySem.Within mA ns) (hsz : ns.length <= sizeLine)
 (h : ∀ h', ObjM h' x dx C (fun y => if y = name then some v else mA y) -> Heap.SameBut dx s.heap h' -> Q () { s with heap := h', toks := s.toks + 2 }) :
 wpAny (model prog w) A (setAttr (.ref x) name v) Q E s := by
 obtain ⟨od, J, hl⟩ := I.look
 refine PySem.W.set_plain X J hs (PySem.W.osa_open (s := { s with toks := s.toks + 1 }) (r := none) X J hp ht fun b => ?_)
 obtain ⟨cd, hc, hd'⟩ := PySem.W.any_some hh
 have hx : s.heap.get? x = some ⟨.ref C, some dx, .plain, #[]⟩ := I.obj
 refine wpAny_bind (wpAny_pure (wpAny_bind (wpAny_bind (wpAny_loadPart hx (wpAny_bind (PySem.W.Looks.here (s := { s with toks := s.toks + 1 }) (PySem.W.looks_clsIn X hc) ?_))))))
 rw [hd']
 refine wpAny_pure (a := some dx) (wpAny_bind (wpAny_pure (wpAny_bind ?_)))
 refine wpAny_nsSet1 (s := { s with toks := s.toks + 1 }) I.ns fun h' hn2 hs2 => ?_
 obtain ⟨oD, esD, epD, hoD, hdD, hcD⟩ := hn2.count (PySem.Within.cons name v hw)
 refine wpAny_bind (wpAny_lookBehind hoD (by rw [hdD]; exact pastItsLine_dict (Nat.le_trans hcD (by rw [List.length_cons]; omega))) ?_)
 exact wpAny_pure (h _ ⟨(hs2.2 _ (Ne.symm I.ne)).trans I.obj, hn2, I.ne⟩ hs2)
theorem BR {R : Result -> Shared -> Prop} {vs : List Value} {kw : List (Str × Value)} (X : K.In s.heap) (hm : PySem.W.makesIn K C = true)
 (hi : PySem.W.findIn K (.ref C) "__init__" = some (some (.ref f))) (hf : PySem.W.typeIn K (.ref f) = some (.type "function"))
 (h : codeAny (model prog w) (A.under (.builtin "type.__call__" ⟨.ref C :: vs, kw⟩)) (.call (.ref f) ⟨.ref (s.heap.objs.size + 1) :: vs, kw⟩) (PySem.W.InitBack (s.heap.objs.size + 1) R)
  { s with heap := (s.heap.push PySem.W.emptyDict).push (PySem.W.instObj C s.heap.objs.size) }) :
 codeAny (model prog w) A (.call (.ref C) ⟨vs, kw⟩) R s := by
 obtain ⟨hh, g, d, t, os⟩ := s
 exact PySem.W.make_core (PySem.W.makes_of X hm) (PySem.W.looks_findIn X hi) (fun self => PySem.W.bind_fn X self hf) (.inl rfl) h
end
def eh (f : Str) (v : V) : List (Str × V) -> List (Str × V)
 | [] => [(f, v)]
 | (g, x) :: r => if g = f then (g, v) :: r else (g, x) :: eh f v r
theorem nS (f g : Str) (v : V) : ∀ fs : List (Str × V), (eh f v fs).lookup g = if g = f then some v else fs.lookup g
 | [] => by
  show List.lookup g [(f, v)] = _
  by_cases h : g = f
  ·have hb : (g == f) = true := beq_iff_eq.mpr h
   simp only [List.lookup, hb, if_pos h]
  ·have hb : (g == f) = false := beq_eq_false_iff_ne.mpr h
   simp only [List.lookup, hb, if_neg h]
 | (k, x) :: r => by
  have ih := nS f g v r
  rw [show eh f v ((k, x) :: r) = (if k = f then (k, v) :: r else (k, x) :: eh f v r) from rfl]
  by_cases hk : k = f
  ·rw [if_pos hk]
   by_cases h : g = k
   ·have hb : (g == k) = true := beq_iff_eq.mpr h
    simp only [List.lookup, hb, if_pos (h.trans hk)]
   ·have hb : (g == k) = false := beq_eq_false_iff_ne.mpr h
    simp only [List.lookup, hb, if_neg (fun e : g = f => h (e.trans hk.symm))]
  ·rw [if_neg hk]
   by_cases h : g = k
   ·have hb : (g == k) = true := beq_iff_eq.mpr h
    simp only [List.lookup, hb, if_neg (fun e : g = f => hk (h.symm.trans e))]
   ·have hb : (g == k) = false := beq_eq_false_iff_ne.mpr h
    simp only [List.lookup, hb]
    exact ih
theorem mT (f : Str) (v : V) : ∀ fs : List (Str × V), f ∈ (eh f v fs).map (·.1) /\ ∀ g, g ∈ fs.map (·.1) -> g ∈ (eh f v fs).map (·.1)
 | [] => ⟨by simp [eh], fun g h => by simp at h⟩
 | (k, x) :: r => by
  obtain ⟨i1, i2⟩ := mT f v r
  rw [show eh f v ((k, x) :: r) = (if k = f then (k, v) :: r else (k, x) :: eh f v r) from rfl]
  by_cases hk : k = f
  ·rw [if_pos hk]
   subst hk
   exact ⟨by simp, fun g h => by simpa using h⟩
  ·rw [if_neg hk]
   refine ⟨?_, fun g h => ?_⟩
   ·rw [List.map_cons]
    exact List.mem_cons_of_mem _ i1
   ·rw [List.map_cons] at h ⊢
    rcases List.mem_cons.mp h with e | e
    ·exact List.mem_cons.mpr (.inl e)
    ·exact List.mem_cons_of_mem _ (i2 g e)
theorem oh (f : Str) (v : V) : ∀ fs : List (Str × V), (eh f v fs).length <= fs.length + 1
 | [] => by simp [eh]
 | (k, x) :: r => by
  have ih := oh f v r
  rw [show eh f v ((k, x) :: r) = (if k = f then (k, v) :: r else (k, x) :: eh f v r) from rfl]
  by_cases hk : k = f
  ·rw [if_pos hk, List.length_cons, List.length_cons]; omega
  ·rw [if_neg hk, List.length_cons, List.length_cons]; omega
theorem RelO.some_of {v : V} {o : Option Value} (r : RelO (some v) o) : ∃ u, o = some u /\ RelV v u := by
 cases o with
 | none => exact (show False from r).elim
 | some u => exact ⟨u, rfl, r⟩
theorem RelO.none_of {o : Option Value} (r : RelO none o) : o = none := by
 cases o with
 | none => rfl
 | some u => exact (show False from r).elim
theorem zk {v : V} {u : Value} (r : RelV v u) : PySem.W.handedIn u = true := by
 cases v with
 | non => cases (show u = Value.none from r); rfl
 | bl b => cases (show u = Value.bool b from r); rfl
 | int i => obtain ⟨t, e⟩ := (show ∃ t, u = Value.int i t from r); cases e; rfl
 | str x => obtain ⟨t, e⟩ := (show ∃ t, u = Value.str x t from r); cases e; rfl
 | byt b => obtain ⟨t, e⟩ := (show ∃ t, u = Value.bytes b t from r); cases e; rfl
 | flt b => obtain ⟨t, e⟩ := (show ∃ t, u = Value.float b t from r); cases e; rfl
 | ref a => cases (show u = Value.ref a from r); rfl
 | ty n => cases (show u = Value.type n from r); rfl
section
variable {P : Program} {w : World} {H H' : Hp} {h h' : Heap} {a C dx : Addr} {fs fs' : List (Str × V)}
theorem oQ (hok : HOk P w H h) (e : H a = some (.ins C dx fs)) : ∃ mA, ObjM h a dx C mA /\ (∀ f, RelO (fs.lookup f) (mA f)) /\ PySem.Within mA (fs.map (·.1)) /\ fs.length <= 1000 /\ H dx = some (.own a) := by
 obtain ⟨d, z, ne, ob, mA, n, r, q⟩ := (show ObjOk P w H h a (.ins C dx fs) from hok a _ e)
 exact ⟨mA, ⟨ob, n, ne⟩, r, q, z, d⟩
end
structure Cls (K : PySem.W.Frag) (C : Addr) : Prop where
 pg : PySem.W.plainGet K C Str.empty = true
 hd : PySem.W.hasDictIn K C = true
 po : PySem.W.plainOver K C = true
 sa : PySem.W.findIn K (.ref C) "__setattr__" = some (some (.builtin "object.__setattr__"))
theorem Cls.get {K : PySem.W.Frag} {C : Addr} (c : Cls K C) (f : Str) : PySem.W.plainGet K C f = true := c.pg
def NoAttr (K : PySem.W.Frag) (C : Addr) (f : Str) : Prop := PySem.W.findIn K (.ref C) f = some none
theorem NoAttr.taker {K : PySem.W.Frag} {C : Addr} {f : Str} (n : NoAttr K C f) : PySem.W.takerIn K C f = some none := by
 unfold PySem.W.takerIn
 rw [show PySem.W.findIn K (.ref C) f = some none from n]
 rfl
structure gP (K : PySem.W.Frag) (C : Addr) (m : Str) (f : Addr) : Prop where
 at_ : PySem.W.findIn K (.ref C) m = some (some (.ref f))
 fn : PySem.W.isFn K (.ref f) = true
 kp : PySem.W.keepIn K (.ref f) = true
section
variable {X : Cx} {pins : List (Addr × Obj)} {σ : St} {H : Hp} {s : Shared} {a C dx : Addr} {fs : List (Str × V)} {f : Str} {v : V} {A : Around} {E : Value -> Shared -> Prop}
theorem wM {b : Bool} {Q : Value -> Shared -> Prop} (I : Inv X pins σ H s) (e : H a = some (.ins C dx fs)) (c : Cls X.K C) (n : NoAttr X.K C f) (l : fs.lookup f = some v)
 (h : ∀ u s', Inv X pins σ H s' -> RelV v u -> Q u s') : wpAny (model X.prog X.w) A (getAttr (.ref a) f b) Q E s := by
 obtain ⟨mA, O, r, _, _, _⟩ := oQ I.hok e
 obtain ⟨u, hu, ru⟩ := RelO.some_of (v := v) (o := mA f) (by rw [<- l]; exact r f)
 exact Cy I.kIn O (c.get f) c.hd n hu (zk ru) (h u _ (I.tok _) ru)
theorem pi {m : Str} {g : Addr} {pl : Sem Bool} {Q : Value × List Value -> Shared -> Prop} (I : Inv X pins σ H s) (e : H a = some (.ins C dx fs)) (c : Cls X.K C) (k : gP X.K C m g) (l : fs.lookup m = none)
 (h : Q (.ref g, [.ref a]) s) : wpAny (model X.prog X.w) A (getMethod (.ref a) m pl) Q E s := by
 obtain ⟨mA, O, r, _, _, _⟩ := oQ I.hok e
 have hn : mA m = none := RelO.none_of (by rw [<- l]; exact r m)
 exact Ab I.kIn O (c.get m) k.at_ k.fn hn h
theorem wQ {y : V} {u : Value} {Q : Unit -> Shared -> Prop} (I : Inv X pins σ H s) (e : H a = some (.ins C dx fs)) (c : Cls X.K C) (n : NoAttr X.K C f) (hl : fs.length < 1000) (ry : RelV y u)
 (h : ∀ s', Inv X pins σ (upd H a (.ins C dx (eh f y fs))) s' -> Q () s') : wpAny (model X.prog X.w) A (setAttr (.ref a) f u) Q E s := by
 obtain ⟨mA, O, r, wi, _, ho⟩ := oQ I.hok e
 have hz : (fs.map (·.1)).length <= sizeLine := by rw [List.length_map, sizeLine_eq]; omega
 refine Df I.kIn O c.sa c.po n.taker c.hd wi hz fun h' O' sb => h _ ?_
 have hd : ∃ o, h'.get? dx = some o := let ⟨o, _, _, e', _⟩ := O'.ns; ⟨o, e'⟩
 refine I.write (x := a) (e := dx) (by rw [e]; exact True.intro) (.inr ho) (fun b q hb z => (sb.2 b hb).trans z) hd ?_
 refine ⟨by rw [aj O.ne]; exact ho, ?_, O.ne, O'.obj, _, O'.ns, fun g => ?_, fun g hg => ?_⟩
 ·have := oh f y fs; omega
 ·show RelO ((eh f y fs).lookup g) (if g = f then some u else mA g)
  rw [nS]
  by_cases q : g = f
  ·rw [if_pos q, if_pos q]; exact ry
  ·rw [if_neg q, if_neg q]; exact r g
 ·by_cases q : g = f
  ·rw [q]; exact (mT f y fs).1
  ·refine (mT f y fs).2 g (wi g fun z => hg ?_)
   show (if g = f then some u else mA g) = none
   rw [if_neg q]; exact z
theorem Inv.made (I : Inv X pins σ H s) : Inv X pins σ (upd (upd H s.heap.objs.size (.own (s.heap.objs.size + 1))) (s.heap.objs.size + 1) (.ins C s.heap.objs.size []))
 { s with heap := (s.heap.push PySem.W.emptyDict).push (PySem.W.instObj C s.heap.objs.size) } := by
 have e1 : (s.heap.push PySem.W.emptyDict).get? s.heap.objs.size = some PySem.W.emptyDict := Heap.get?_push_size s.heap rfl
 have e2 : ((s.heap.push PySem.W.emptyDict).push (PySem.W.instObj C s.heap.objs.size)).get? (s.heap.objs.size + 1) = some (PySem.W.instObj C s.heap.objs.size) := by
  have := Heap.get?_push_size (s.heap.push PySem.W.emptyDict) (o := PySem.W.instObj C s.heap.objs.size) rfl
  rwa [Heap.size_push] at this
 have e3 : (s.heap.push PySem.W.emptyDict).Ns s.heap.objs.size (fun _ => none) := ⟨PySem.W.emptyDict, #[], _, e1, rfl, (fun e he => absurd he (by simp)), fun _ => rfl⟩
 have I1 := I.laid (a := s.heap.objs.size) (o := .own (s.heap.objs.size + 1)) (h' := s.heap.push PySem.W.emptyDict) (t' := s.toks) (fun b u q => Heap.get?_push_of_some _ q) (Nat.le_refl _) ⟨_, e1⟩
 refine I1.laid (a := s.heap.objs.size + 1) (o := .ins C s.heap.objs.size []) (t' := s.toks) (fun b u q => Heap.get?_push_of_some _ q) (Nat.le_of_eq (Heap.size_push _ _)) ?_
 have ne : s.heap.objs.size ≠ s.heap.objs.size + 1 := Nat.ne_of_lt (Nat.lt_succ_self _)
 refine ⟨by rw [aj ne, ag], Nat.zero_le _, ne, e2, fun _ => none, (Heap.Ns1.of_empty e3).at fun o q => Heap.get?_push_of_some _ q, fun _ => True.intro, fun y hy => absurd rfl hy⟩
theorem Ct {prog : Program} {w : World} {env : Env} {e : Expr} {f : Str} {pos : Pos} {s : Shared} {Q : Value -> Shared -> Prop} (hb : attributeBase e f env (eval e env) = eval e env)
 (h : wpAny (model prog w) A (eval e env) (fun o s₁ => wpAny (model prog w) A (getAttr o f true) Q E s₁) E s) : wpAny (model prog w) A (eval (.Attribute e f pos) env) Q E s :=
 Attribute_any_ h (by rw [arm_eval_Attribute, hb])
end
section
variable {X : Cx} {o e value : Expr} {f : Str} {pos pos' tpos : Pos} {ta tv : TE}
end
section
variable {X : Cx} {pins : List (Addr × Obj)} {σ : St} {H : Hp} {s : Shared} {A : Around} {E : Value -> Shared -> Prop} {Q : Value -> Shared -> Prop} {c : Value} {b : Bool}
inductive kg (K : PySem.W.Frag) (H : Hp) : V -> Value -> Prop where
 | non : kg K H .non (.type "NoneType")
 | bl (x : Bool) : kg K H (.bl x) (.type "bool")
 | int (i : Int) : kg K H (.int i) (.type "int")
 | str (x : Str) : kg K H (.str x) (.type "str")
 | flt (x : UInt64) : kg K H (.flt x) (.type "float")
 | lst {a : Addr} {xs : List V} (e : H a = some (.lst xs)) : kg K H (.ref a) (.type "list")
 | frz {a : Addr} {o : Obj} {xs : List V} (e : H a = some (.frz o (.lst xs))) : kg K H (.ref a) (.type "list")
 | tup {a : Addr} {xs : List V} (e : H a = some (.tup xs)) : kg K H (.ref a) (.type "tuple")
 | dK {a : Addr} {kvs : List (Key × V)} (e : H a = some (.dK kvs)) : kg K H (.ref a) (.type "dict")
 | dT {a : Addr} {kvs : List (List Key × V)} (e : H a = some (.dT kvs)) : kg K H (.ref a) (.type "dict")
 | ins {a C dx : Addr} {fs : List (Str × V)} (e : H a = some (.ins C dx fs)) (cl : Cls K C) (ha : PySem.W.findIn K (.ref C) "__class__" = some (some (.builtin "object.__class__")))
  (hn : PySem.W.specialIn K (.builtin "object.__class__") "__get__" = some (some (.builtin "getset_descriptor.__get__"))) (htk : PySem.W.takesIn K (.builtin "object.__class__") = some true)
  (hm : PySem.W.mroIn K C (.type "object") = some true) : kg K H (.ref a) (.ref C)
theorem zJ {x : V} {u t : Value} (I : Inv X pins σ H s) (rx : RelV x u) (ty : kg X.K H x t) (e : PySem.W.kitOne X.K t c = some b) (h : ∀ tk, Q (.bool b) { s with toks := tk }) :
 wpAny (model X.prog X.w) A (call (.builtin "isinstance") [u, c]) Q E s := by
 cases ty with
 | non => cases (show u = Value.none from rx); exact PySem.W.kia_one PySem.W.kitx_none I.kIn True.intro e (fun z => nomatch z) h
 | bl y => cases (show u = Value.bool y from rx); exact PySem.W.kia_one PySem.W.kitx_bool I.kIn True.intro e (fun z => nomatch z) h
 | int i => obtain ⟨t, q⟩ := (show ∃ t, u = Value.int i t from rx); cases q; exact PySem.W.kia_one PySem.W.kitx_int I.kIn True.intro e (fun z => nomatch z) h
 | str y => obtain ⟨t, q⟩ := (show ∃ t, u = Value.str y t from rx); cases q; exact PySem.W.kia_one PySem.W.kitx_str I.kIn True.intro e (fun z => nomatch z) h
 | flt y => obtain ⟨t, q⟩ := (show ∃ t, u = Value.float y t from rx); cases q; exact PySem.W.kia_one PySem.W.kitx_float I.kIn True.intro e (fun z => nomatch z) h
 | @lst a xs ea =>
  cases (show u = Value.ref a from rx)
  obtain ⟨_, _, n, _, h1⟩ := (show ObjOk X.prog X.w H s.heap a (.lst xs) from I.hok a _ ea)
  exact PySem.W.kia_one PySem.W.kitx_list I.kIn ⟨_, h1, rfl⟩ e (fun z => nomatch z) h
 | @frz a ob xs ea =>
  cases (show u = Value.ref a from rx)
  obtain ⟨_, _, _, n, _, h1⟩ := (show ObjOk X.prog X.w H s.heap a (.frz ob (.lst xs)) from I.hok a _ ea)
  exact PySem.W.kia_one PySem.W.kitx_list I.kIn ⟨_, h1, rfl⟩ e (fun z => nomatch z) h
 | @tup a xs ea =>
  cases (show u = Value.ref a from rx)
  obtain ⟨_, _, _, p⟩ := (show ObjOk X.prog X.w H s.heap a (.tup xs) from I.hok a _ ea)
  obtain ⟨o, h1, h2, _⟩ := p
  exact PySem.W.kia_one PySem.W.kitx_tuple I.kIn ⟨o, h1, h2⟩ e (fun z => nomatch z) h
 | @dK a kvs ea =>
  cases (show u = Value.ref a from rx)
  obtain ⟨_, _, vs, _, p⟩ := (show ObjOk X.prog X.w H s.heap a (.dK kvs) from I.hok a _ ea)
  obtain ⟨o, es, ep, h1, h2, _⟩ := p
  exact PySem.W.kia_one PySem.W.kitx_dict I.kIn ⟨o, h1, h2.1⟩ e (fun z => nomatch z) h
 | @dT a kvs ea =>
  cases (show u = Value.ref a from rx)
  obtain ⟨_, _, xs, _, o, es, ep, h1, h2, _⟩ := (show ObjOk X.prog X.w H s.heap a (.dT kvs) from I.hok a _ ea)
  exact PySem.W.kia_one PySem.W.kitx_dict I.kIn ⟨o, h1, h2.1⟩ e (fun z => nomatch z) h
 | @ins a C dx fs ea cl ha hn htk hm =>
  cases (show u = Value.ref a from rx)
  obtain ⟨mA, O, _⟩ := oQ I.hok ea
  obtain ⟨od, J, _⟩ := O.look
  exact PySem.W.kia_one (PySem.W.kitx_own (cl.get _) cl.hd ha hn htk hm) I.kIn J e (fun z => nomatch z) h
end
end L2
namespace L2
open PySem PySem.Spec PyProof.Rows
structure Room (k : Nat) (A : Around) : Prop where
 hd : A.handled = none
 dp : A.depth + 3 * k + 5 < recursionLimit
 un : A.units + 16 * k + 200 < cLine
theorem Room.mono {j k : Nat} {A : Around} (r : Room k A) (h : j <= k) : Room j A := ⟨r.hd, by have := r.dp; omega, by have := r.un; omega⟩
theorem Room.deeper {k : Nat} {A : Around} (r : Room (k + 1) A) (env : Env) : Room k (A.deeper env) :=
 ⟨r.hd, by have := r.dp; show A.depth + 1 + 3 * k + 5 < _; omega, by have := r.un; show A.units + 3 + 16 * k + 200 < _; omega⟩
theorem wX {A : Around} {C : Addr} {us : List Value} {kw : List (Str × Value)} : (A.under (.builtin "type.__call__" ⟨.ref C :: us, kw⟩)).depth = A.depth + 1 := by
 first | rfl | simp [Around.under, Code.weight, Code.isCreation, Code.isGuard, Code.isCaller, Code.frames, Code.isFrame, guardIds]
theorem xl {A : Around} {C : Addr} {us : List Value} {kw : List (Str × Value)} : (A.under (.builtin "type.__call__" ⟨.ref C :: us, kw⟩)).units = A.units + 1 := by
 first | rfl | simp [Around.under, Code.cUnits, Code.frames, Code.isFrame]
theorem Room.make {k : Nat} {A : Around} (r : Room (k + 1) A) (C : Addr) (us : List Value) (kw : List (Str × Value)) : Room k (A.under (.builtin "type.__call__" ⟨.ref C :: us, kw⟩)) :=
 ⟨r.hd, by have := r.dp; rw [wX]; omega, by have := r.un; rw [xl]; omega⟩
theorem Room.depth {k : Nat} {A : Around} (r : Room k A) : A.depth < recursionLimit := by have := r.dp; omega
def vt : TA := fun _ H Q => Q [] H
def nC (ta : TE) (tr : TA) : TA := fun σ H Q => ta σ H fun x H1 => tr σ H1 fun xs H2 => Q (x :: xs) H2
section
variable {X : Cx} {e : Expr} {es : List Expr} {te : TE} {t : TA} {pos : Pos}
theorem Ey : PA X [] vt := fun _ _ _ _ H Q I h => Calls.spliced_nil ⟨[], H, I, .nil, h⟩
theorem CG (ha : PE X e te) (hr : PA X es t) (hs : starEach (e :: es) X.env = (false, eval e X.env) :: starEach es X.env := by rfl) : PA X (e :: es) (nC te t) := by
 intro pos pins s σ H Q I h
 rw [hs]
 show wpAny _ _ (spliced ((false, eval e X.env) :: backTo pos (starEach es X.env))) _ _ s
 refine Calls.spliced_cons (thn (ha pins s σ H _ I h) fun u s1 ⟨x, H1, I1, r1, q1⟩ => ?_)
 exact thn (hr pos pins s1 σ H1 _ I1 q1) fun us s2 ⟨xs, H2, I2, r2, q2⟩ => ⟨x :: xs, H2, I2, .cons r1 r2, q2⟩
def A_ (t : TA) : TE := fun σ H Q => t σ H fun xs H1 => xs.length <= sizeLine /\ ∀ p, H1 p = none -> Q (.ref p) (upd H1 p (.tup xs))
def Gj (t : TA) : TE := fun σ H Q => t σ H fun xs H1 => xs.length <= sizeLine /\ ∀ p, H1 p = none -> Q (.ref p) (upd H1 p (.lst xs))
theorem aZ {x1} (h : PA X es t) : PE X (.Tuple es x1 pos) (A_ t) := by
 intro pins s σ H Q I hq
 refine wpAny_Tuple_spliced (thn (h pos pins s σ H _ I hq) fun us s1 ⟨xs, H1, I1, r, z, q⟩ => ⟨by rw [<- r.length]; exact z, ?_⟩)
 have hf : H1 s1.heap.objs.size = none := I1.hok.fresh (Nat.le_refl _)
 refine ⟨.ref s1.heap.objs.size, upd H1 s1.heap.objs.size (.tup xs), I1.laid (t' := s1.toks) (fun b u e => Heap.get?_push_of_some _ e) (Nat.le_refl _) ?_, rfl, q _ hf⟩
 exact ⟨z, us, r, ⟨_, Heap.get?_push_size _ rfl, rfl, _, rfl⟩⟩
theorem cj (h : PA X es t) : PE X (.List es pos) (Gj t) := by
 intro pins s σ H Q I hq
 refine wpAny_List_spliced (thn (h pos pins s σ H _ I hq) fun us s1 ⟨xs, H1, I1, r, z, q⟩ => ⟨by rw [<- r.length]; exact z, ?_⟩)
 have hf : H1 s1.heap.objs.size = none := I1.hok.fresh (Nat.le_refl _)
 refine ⟨.ref s1.heap.objs.size, upd H1 s1.heap.objs.size (.lst xs), I1.laid (t' := s1.toks) (fun b u e => Heap.get?_push_of_some _ e) (Nat.le_refl _) ?_, rfl, q _ hf⟩
 exact ⟨z, us, 0, r, Heap.get?_push_size _ rfl⟩
end
abbrev Sp := List V -> Hp -> VK -> XK -> Prop
abbrev CXT := List Env -> Hp -> Shared -> XK -> Value -> Shared -> Prop
structure Env0 (P : Program) (w : World) (K : PySem.W.Frag) (mg : Str -> Option Value) (base : Heap) (A : Around) (outer : List Env) (s : Shared) (H : Hp) : Prop where
 frames : A.frames = some outer
 mod : Mod K mg base
 bs : ∀ b o, base.get? b = some o -> s.heap.get? b = some o /\ H b = none
 bsz : base.objs.size <= s.heap.objs.size
 funs : s.heap.FunFrames base outer
 frf : ∀ b ∈ frs outer, H b = none
 hok : HOk P w H s.heap
 bare : AllBare s.gens
def CE (outer : List Env) (P : Program) (w : World) (H : Hp) (s : Shared) (Q : VK) (u : Value) (s' : Shared) : Prop :=
 ∃ v H', s'.os = s.os /\ AllBare s'.gens /\ Un (frs outer) [] H H' s.heap s'.heap /\ HOk P w H' s'.heap /\ RelV v u /\ Q v H'
def CR (CX : CXT) (outer : List Env) (P : Program) (w : World) (H : Hp) (s : Shared) (Q : VK) (E : XK) (r : Result) (s' : Shared) : Prop :=
 match r with
 | .ok (.ret u) => CE outer P w H s Q u s'
 | .ok _ => False
 | .error e => CX outer H s E e s'
structure bd (P : Program) (w : World) (K : PySem.W.Frag) (mg : Str -> Option Value) (base : Heap) (CX : CXT) (k : Nat) (f : Addr) (fd : FuncData) (ps : List Str) (sp : Sp) : Prop where
 len : ∀ vs H Q E, sp vs H Q E -> vs.length = ps.length
 run : ∀ (A : Around) (outer : List Env) (s : Shared) (H : Hp) (args : Args) (us : List Value) (vs : List V) (Q : VK) (E : XK), Room k A -> Env0 P w K mg base A outer s H -> BindsTo s fd args (ps.zip us) -> Vals vs us -> sp vs H Q E ->
  codeAny (model P w) A (.call (.ref f) args) (CR CX outer P w H s Q E) s
theorem Env0.make {P : Program} {w : World} {K : PySem.W.Frag} {mg : Str -> Option Value} {base : Heap} {A : Around} {outer : List Env} {s : Shared} {H : Hp} (e : Env0 P w K mg base A outer s H) (C : Addr) (us : List Value) (kw : List (Str × Value)) :
 Env0 P w K mg base (A.under (.builtin "type.__call__" ⟨.ref C :: us, kw⟩)) outer s H := ⟨by first | exact e.frames | (simpa [Around.under, Code.envs, Code.isFrame, pushEnvs] using e.frames), e.mod, e.bs, e.bsz, e.funs, e.frf, e.hok, e.bare⟩
section
variable {X : Cx} {pins : List (Addr × Obj)} {σ : St} {H : Hp} {s s' : Shared}
theorem Inv.env0 (I : Inv X pins σ H s) : Env0 X.prog X.w X.K X.mg X.base X.A X.stack s H :=
 ⟨I.ok.frames, I.ok.mod, I.bs, Nat.le_trans I.ok.bsz I.sz, I.stack, I.stkFree, I.hok, I.bare⟩
theorem Inv.after {Q : VK} {u : Value} (I : Inv X pins σ H s) (h : CE X.stack X.prog X.w H s Q u s') : EP X pins σ Q u s' := by
 obtain ⟨v, H', os, bare, un, hok, r, q⟩ := h
 obtain ⟨hh, g, d, t, os'⟩ := s'
 obtain rfl : os' = s.os := os
 exact ⟨v, H', I.call (h' := hh) (g' := g) (d' := d) (t' := t) (ch := []) un hok bare (fun b z => absurd z (by simp)), r, q⟩
end
def Binds (K : PySem.W.Frag) (fd : FuncData) (ps : List Str) (ds : List Value) : Prop :=
 ∀ (s : Shared) (us : List Value), K.In s.heap -> (us ++ ds).length = ps.length -> BindsTo s fd ⟨us, []⟩ (ps.zip (us ++ ds))
theorem Binds.all {K : PySem.W.Frag} {fd : FuncData} {ps : List Str} (h : ∀ us : List Value, us.length = ps.length -> bindArgs fd ⟨us, []⟩ = pure (ps.zip us)) : Binds K fd ps [] := fun s us _ hl => by
 rw [List.append_nil] at hl ⊢
 exact .of_eq (h us hl)
section
variable {X : Cx} {CX : CXT} {k : Nat} {f C : Addr} {fd : FuncData} {ps : List Str} {sp : Sp} {dvs : List V} {ds : List Value} {E : XK} {x m : Str} {p pos apos : Pos} {e o : Expr} {es : List Expr} {ta : TE} {t : TA}
structure Mk (K : PySem.W.Frag) (C f : Addr) : Prop where
 makes : PySem.W.makesIn K C = true
 init : PySem.W.findIn K (.ref C) "__init__" = some (some (.ref f))
 fn : PySem.W.isFn K (.ref f) = true
 kp : PySem.W.keepIn K (.ref C) = true
end
section
variable {X : Cx} {CX : CXT} {k : Nat} {f C : Addr} {fd : FuncData} {ps ks : List Str} {sp : Sp} {E : XK} {x m : Str} {p pos apos kpos : Pos} {e o : Expr} {es : List Expr} {kws : List Keyword} {te ta : TE} {t tk : TA} {nm : Option Str}
variable {g : List Value -> List Value -> List Value} {gV : List V -> List V -> List V}
end
structure aF (N P : List Str) (sc : Scope) : Prop where
 kind : sc.kind = .function
 co : sc.isCoroutine = false
 gen : sc.isGenerator = false
 nd : N.Nodup
 pre : N.take P.length = P
 par : ∀ x ∈ P, sc.names.lookup x = some .local \/ sc.names.lookup x = some .cell
 nofree : ∀ y ∈ sc.names, y.2 ≠ .free
theorem sB {kindOf : Str -> Option NameKind} {x : Str} : ∀ {binds : List (Str × Value)} {m : Str -> Option Value}, (∀ v, (x, v) ∉ binds) -> bindL kindOf binds m x = m x
 | [], _, _ => rfl
 | (n, v) :: r, m, h => by
  unfold bindL
  rw [sB fun w hw => h w (List.mem_cons_of_mem _ hw)]
  split
  ·have : x ≠ n := by rintro rfl; exact h v List.mem_cons_self
   simp [this]
  ·rfl
theorem sN {kindOf : Str -> Option NameKind} {x : Str} : ∀ {binds : List (Str × Value)} {m : Str -> Option Value}, (∀ v, (x, v) ∉ binds) -> bindC kindOf binds m x = m x
 | [], _, _ => rfl
 | (n, v) :: r, m, h => by
  unfold bindC
  rw [sN fun w hw => h w (List.mem_cons_of_mem _ hw)]
  split
  ·rfl
  ·have : x ≠ n := by rintro rfl; exact h v List.mem_cons_self
   simp [this]
theorem rK {kindOf : Str -> Option NameKind} {x : Str} {v : Value} : ∀ {P : List Str} {vs : List Value} {i : Nat} {m : Str -> Option Value}, P.Nodup -> P[i]? = some x -> vs[i]? = some v -> kindOf x = some .local ->
 bindL kindOf (P.zip vs) m x = some v
 | [], _, _, _, _, h, _, _ => by simp at h
 | _ :: _, [], _, _, _, _, h, _ => by simp at h
 | p :: P, w :: vs, 0, m, nd, h1, h2, hk => by
  simp at h1 h2; subst h1; subst h2
  show bindL kindOf ((p, w) :: P.zip vs) m p = _
  unfold bindL
  rw [sB fun v hv => (List.nodup_cons.mp nd).1 (List.of_mem_zip hv).1, if_pos hk]
  simp
 | p :: P, w :: vs, i + 1, m, nd, h1, h2, hk => by
  show bindL kindOf ((p, w) :: P.zip vs) m x = _
  unfold bindL
  exact rK (i := i) (List.nodup_cons.mp nd).2 (by simpa using h1) (by simpa using h2) hk
theorem su {kindOf : Str -> Option NameKind} {x : Str} {v : Value} : ∀ {P : List Str} {vs : List Value} {i : Nat} {m : Str -> Option Value}, P.Nodup -> P[i]? = some x -> vs[i]? = some v -> kindOf x ≠ some .local ->
 bindC kindOf (P.zip vs) m x = some v
 | [], _, _, _, _, h, _, _ => by simp at h
 | _ :: _, [], _, _, _, _, h, _ => by simp at h
 | p :: P, w :: vs, 0, m, nd, h1, h2, hk => by
  simp at h1 h2; subst h1; subst h2
  show bindC kindOf ((p, w) :: P.zip vs) m p = _
  unfold bindC
  rw [sN fun v hv => (List.nodup_cons.mp nd).1 (List.of_mem_zip hv).1, if_neg hk]
  simp
 | p :: P, w :: vs, i + 1, m, nd, h1, h2, hk => by
  show bindC kindOf ((p, w) :: P.zip vs) m x = _
  unfold bindC
  exact su (i := i) (List.nodup_cons.mp nd).2 (by simpa using h1) (by simpa using h2) hk
def iQ (N : List Str) (vs : List V) : St := vs.map some ++ List.replicate (N.length - vs.length) none
def cW (CX : CXT) (P : Program) (w : World) (K : PySem.W.Frag) (mg : Str -> Option Value) (base : Heap) (N : List Str) (qual : Str) (scope : Scope) (f : Addr) (cd : Value) (A : Around) (outer : List Env) (s : Shared) (H : Hp) (E : XK) : Cx where
 prog := P
 w := w
 K := K
 mg := mg
 base := base
 A := A.deeper (envOfC qual scope s.heap.objs.size f cd)
 N := N
 s₀ := s
 H₀ := H
 env := envOfC qual scope s.heap.objs.size f cd
 outer := outer
 stack := envOfC qual scope s.heap.objs.size f cd :: outer
 ex := []
 calm := true
 fn := fun _ => true
 pn := []
 xe := fun e s' => wpAny (model P w) (A.deeper (envOfC qual scope s.heap.objs.size f cd)) (leaving (envOfC qual scope s.heap.objs.size f cd) e) (fun _ s'' => CX outer H s E e s'') (fun e' s'' => CX outer H s E e' s'') s'
theorem uT {sc : Scope} {n : Nat} {x : Str} (h : sc.names.lookup x = some .cell) : ∃ c, (cellsFrom n sc.names []).lookup x = some c := by
 have q := PySem.W.cellsFrom_some sc.names n [] (.inl h)
 exact Option.isSome_iff_exists.mp q
theorem zK {CX : CXT} {P : Program} {w : World} {K : PySem.W.Frag} {mg : Str -> Option Value} {base : Heap} {N ps : List Str} {qual : Str} {scope : Scope} {f : Addr} {cd : Value} {A : Around} {outer : List Env} {s s1 : Shared} {H : Hp} {E : XK} {us : List Value} {vs : List V}
 (S : aF N ps scope) (hd : A.handled = none) (e0 : Env0 P w K mg base A outer s H) (hl : vs.length = ps.length) (r : Vals vs us)
 (x : InCallC s s.heap.objs.size (bindL (envOfC qual scope s.heap.objs.size f cd).kindOf (ps.zip us) fun _ => none) (cellsFrom (s.heap.objs.size + 1) scope.names []) (bindC (envOfC qual scope s.heap.objs.size f cd).kindOf (ps.zip us) fun _ => none) s1) :
 Inv (cW CX P w K mg base N qual scope f cd A outer s H E) [] (iQ N vs) H s1 := by
 have hpl : ps.length <= N.length := by have := congrArg List.length S.pre; rw [List.length_take] at this; omega
 obtain ⟨h1, tk, rfl, hk⟩ := x.done
 have noA : ∀ b : Addr, b ∉ (cW CX P w K mg base N qual scope f cd A outer s H E).ex := fun b z => absurd (show b ∈ ([] : List Addr) from z) (by simp)
 refine ⟨⟨e0.mod, S.kind, rfl, rfl, Nat.le_refl _, fun y z c h1 h2 => ?_, fun y hy => ?_, fun y c _ h => ?_, fun _ => hd, Around.frames_deeper e0.frames, .inr ⟨rfl, rfl⟩, fun b z => absurd z (noA b), e0.bs, e0.bsz, fun b _ _ => noA b, fun b z => absurd z (noA b), e0.funs, e0.frf⟩,
  rfl, e0.bare, Un.kept hk, ⟨_, x.toInCall.ns, fun i y v h1 h2 h3 => ?_⟩, fun y c h => ⟨_, x.cell y c h⟩, e0.hok.fresh (Nat.le_refl _), fun y c h => ?_, fun p hp => absurd (show p ∈ ([] : List (Addr × Obj)) from hp) (by simp), e0.hok.kept hk, ?_⟩
 ·exact name_of_addr x.apart (PySem.mem_of_lookup h1) (PySem.mem_of_lookup h2)
 ·have hy : scope.names.lookup y = some .cell \/ scope.names.lookup y = some .free := hy
  rcases hy with hy | hy
  ·exact uT hy
  ·exact absurd rfl (S.nofree _ (PySem.mem_of_lookup hy))
 ·exact Nat.le_of_lt (x.above y c (PySem.mem_of_lookup h))
 ·have hi : i < vs.length := by
   unfold iQ at h2
   by_cases hi : i < vs.length
   ·exact hi
   ·rw [List.getElem?_append_right (by simpa using hi)] at h2
    rw [List.getElem?_replicate] at h2
    split at h2 <;> cases h2
  have ha : vs[i]? = some v := by
   unfold iQ at h2
   rw [List.getElem?_append_left (by simpa using hi), List.getElem?_map] at h2
   cases e : vs[i]? with
   | none => rw [e] at h2; cases h2
   | some a => rw [e] at h2; cases h2; rfl
  obtain ⟨u, hu, rv⟩ := r.get ha
  have hp : ps[i]? = some y := by
   rw [<- S.pre, List.getElem?_take_of_lt (by omega)]; exact h1
  have ndP : ps.Nodup := by rw [<- S.pre]; exact S.nd.sublist (List.take_sublist _ _)
  refine ⟨u, rv, ?_⟩
  rcases S.par y (List.mem_of_getElem? hp) with k | k
  ·exact .inl ⟨k, rK ndP hp hu k⟩
  ·obtain ⟨c, e⟩ := uT (n := s.heap.objs.size + 1) k
   refine .inr ⟨.inl k, c, e, ?_⟩
   have q := x.cell y c e
   rw [su ndP hp hu (by show scope.names.lookup y ≠ _; rw [k]; decide)] at q
   exact q
 ·exact e0.hok.fresh (Nat.le_of_lt (x.above y c (PySem.mem_of_lookup h)))
 ·unfold iQ
  show _ = N.length
  rw [List.length_append, List.length_map, List.length_replicate]
  omega
theorem FX {CX : CXT} {P : Program} {w : World} {K : PySem.W.Frag} {mg : Str -> Option Value} {base : Heap} {k : Nat} {f : Addr} {name qual : Str} {params : Arguments} {body : List Stmt} {scope : Scope} {dV kV doc pm cdv ct oc : Value} {an od : Option Addr}
 {osl : Array (Option Value)} {N ps : List Str} {sp : Sp} (lk : K.lookup f = some ⟨oc, od, .func (PySem.W.fnOf name qual params body scope dV kV doc pm an cdv ct), osl⟩) (hcd : PySem.W.codeIn K cdv qual = true) (S : aF N ps scope)
 (len : ∀ vs H Q E, sp vs H Q E -> vs.length = ps.length)
 (hbody : ∀ (A : Around) (outer : List Env) (s : Shared) (H : Hp) (vs : List V) (Q : VK) (E : XK), Room k (A.deeper (envOfC qual scope s.heap.objs.size f cdv)) -> sp vs H Q E ->
  ∃ t, PSs (cW CX P w K mg base N qual scope f cdv A outer s H E) body t /\ t { nx := fun _ H' => Q .non H', rt := Q } (iQ N vs) H) :
 bd P w K mg base CX (k + 1) f (PySem.W.fnOf name qual params body scope dV kV doc pm an cdv ct) ps sp := by
 refine ⟨len, fun A outer s H args us vs Q E hr e0 hb r hsp => ?_⟩
 have hl := len _ _ _ _ hsp
 have KX : K.In s.heap := e0.mod.kin.keeps fun b o e => (e0.bs b o e).1
 have lim : s.heap.NoLimit := e0.mod.nolimit.keeps fun b o e => (e0.bs b o e).1
 have hkind : ∀ y ∈ ps.zip us, scope.names.lookup y.1 = some .local \/ (scope.names.lookup y.1 = some .cell /\ ((cellsFrom (s.heap.objs.size + 1) scope.names []).lookup y.1).isSome = true) := fun ⟨n, v⟩ hy => by
  rcases S.par n (List.of_mem_zip hy).1 with q | q
  ·exact .inl q
  ·exact .inr ⟨q, PySem.W.cellsFrom_some _ _ _ (.inl q)⟩
 refine codeAny_call_function hr.depth (KX _ _ lk) rfl S.co S.gen rfl (PySem.W.codeRec_of KX hcd) (hb _ _ _ _ ?_)
 refine wpAny_newFunctionEnv_cells S.kind hkind fun env he s1 x => ?_
 subst he
 refine ⟨lim.keeps x.toInCall.keep, codeAny_func ?_⟩
 obtain ⟨t, ht, hq⟩ := hbody A outer s H vs Q E (hr.deeper _) hsp
 have I : Inv (cW CX P w K mg base N qual scope f cdv A outer s H E) [] (iQ N vs) H s1 := zK S hr.hd e0 hl r x
 refine wpAny_mono (ht [] s1 (iQ N vs) H _ I hq) (fun fl s' hs => ?_) fun e s' hs => hs
 have fin : ∀ {σ' : St} {H' : Hp} {v : V} {u : Value}, Inv (cW CX P w K mg base N qual scope f cdv A outer s H E) [] σ' H' s' -> RelV v u -> Q v H' -> CE outer P w H s Q u s' :=
  fun {σ' H' v u} J rv q => ⟨v, H', J.os, J.bare, J.base, J.hok, rv, q⟩
 cases fl with
 | ret u =>
  obtain ⟨v, σ', H', J, rv, q⟩ := hs
  exact fin J rv q
 | next =>
  obtain ⟨σ', H', J, q⟩ := hs
  exact fin (v := V.non) (u := Value.none) J rfl q
 | brk =>
  obtain ⟨_, _, _, q⟩ := hs
  exact False.elim q
 | cont =>
  obtain ⟨_, _, _, q⟩ := hs
  exact False.elim q
end L2
namespace L2
open PySem PySem.Spec PyProof.Rows
section
variable {X : Cx} {x : Str} {p pos : Pos} {e : Expr} {es : List Expr} {t : TA} {id T : String} {r : List V -> Hp -> VK -> Prop}
def tCB (r : List V -> Hp -> VK -> Prop) (t : TA) : TE := fun σ H Q => t σ H fun vs H1 => r vs H1 Q
theorem aJ (hc : CallR X (.builtin id) r) (hg : Gl X x) (hm : X.mg x = none) (hv : bootBuiltins x = some (.builtin id)) (ha : PA X (e :: es) t) (hn : x ≠ "__name__" := by decide) (hdb : (x == ("__debug__" : Str)) = false := by decide)
 (he : starEach (e :: es) X.env = (false, eval e X.env) :: starEach es X.env := by rfl) (hpl : (backTo pos (starEach es X.env)).any (·.1) = false := by rfl) : PE X (.Call (.Name x p) (e :: es) [] pos) (tCB r t) := by
 intro pins s σ H Q I h
 refine wpAny_Call_Name_kw (mQ I hg hm hv ?_ hn hdb)
 exact PyProof.Rows.callWith_builtin1 (thn (ha pos pins s σ H _ I h) fun us s1 ⟨vs, H1, I1, r1, q1⟩ => hc pins s1 σ H1 vs us Q I1 r1 q1) he hpl
theorem fI (hc : CallR X (.type T) r) (hg : Gl X x) (hm : X.mg x = none) (hv : bootBuiltins x = some (.type T)) (ha : PA X (e :: es) t) (hn : x ≠ "__name__" := by decide) (hdb : (x == ("__debug__" : Str)) = false := by decide)
 (he : starEach (e :: es) X.env = (false, eval e X.env) :: starEach es X.env := by rfl) (hpl : (backTo pos (starEach es X.env)).any (·.1) = false := by rfl) : PE X (.Call (.Name x p) (e :: es) [] pos) (tCB r t) := by
 intro pins s σ H Q I h
 refine wpAny_Call_Name_kw (mQ I hg hm hv ?_ hn hdb)
 exact PyProof.Rows.callWith_type1 (thn (ha pos pins s σ H _ I h) fun us s1 ⟨vs, H1, I1, r1, q1⟩ => hc pins s1 σ H1 vs us Q I1 r1 q1) he hpl
end
end L2
namespace HT
open PySem PyProof.Rows
section
open PySem.SeqAt
open PySem.AutoSeq1 (wpAny_loadPart')
open PySem.MeetsSeq PySem.MeetsSeq2 PySem.MeetsSeq3
end
section
variable {prog : Program} {w : World} {A : Around} {E : Value -> Shared -> Prop} {s : Shared}
theorem cat_tup {t b : Addr} {vs ws : List Value} {Q : Value -> Shared -> Prop} (ht : IsTup s.heap t vs.toArray) (hb : IsTup s.heap b ws.toArray) (hv : vs ≠ [])
 (h1 : ws = [] -> Q (.ref t) s) (h2 : ws ≠ [] -> Q (.ref s.heap.objs.size) { s with heap := s.heap.push { cls := .type "tuple", data := .seq (vs ++ ws).toArray } })
 (hsz : vs.length + ws.length <= sizeLine) : wpAny (model prog w) A (binaryOp .Add (.ref t) (.ref b)) Q E s := by
 obtain ⟨⟨cls, dd, data, sl⟩, ho, hc, n, hd⟩ := id ht
 obtain ⟨⟨cls2, dd2, data2, sl2⟩, ho2, hc2, n2, hd2⟩ := id hb
 simp only at hc hd hc2 hd2
 subst hc hd hc2 hd2
 have e : vs.toArray ++ ws.toArray = (vs ++ ws).toArray := by simp
 by_cases hw : ws = []
 ·exact concat_meets ⟨_, ho, rfl⟩ ⟨_, ho2, rfl⟩ noFill_tuple_add seq_tuple_add PySem.F.slot_tuple_add PySem.F.entry_tuple_add (PySem.F.args_tuple_add_2 _ _)
   (tuple_addW1 t b vs.toArray ws.toArray n n2 dd dd2 sl sl2 (by simpa using hv) (by simp [hw])) ⟨ho, ho2, h1 hw⟩
 ·refine concat_meets ⟨_, ho, rfl⟩ ⟨_, ho2, rfl⟩ noFill_tuple_add seq_tuple_add PySem.F.slot_tuple_add PySem.F.entry_tuple_add (PySem.F.args_tuple_add_2 _ _)
   (tuple_addW2 t b vs.toArray ws.toArray n n2 dd dd2 sl sl2 (by simpa using hv) (by simpa using hw) (by rw [List.size_toArray, List.size_toArray]; exact hsz)) ⟨ho, ho2, ?_⟩
  rw [e]
  exact h2 hw
def sIx (n d : Nat) : Option Int -> Nat
 | none => d
 | some v => if v < 0 then (v + (n : Int)).toNat else min v.toNat n
theorem sIx_none (n d : Nat) : sIx n d none = d := rfl
theorem sIx_nat (n d k : Nat) : sIx n d (some (k : Int)) = min k n := by
 show (if (k : Int) < 0 then ((k : Int) + (n : Int)).toNat else min (k : Int).toNat n) = min k n
 rw [if_neg (by omega), Int.toNat_natCast]
theorem sIx_le (n d : Nat) (hd : d <= n) (o : Option Int) : sIx n d o <= n := by
 cases o with
 | none => exact hd
 | some v =>
  show (if v < 0 then (v + (n : Int)).toNat else min v.toNat n) <= n
  by_cases hv : v < 0
  ·rw [if_pos hv]; omega
  ·rw [if_neg hv]; exact Nat.min_le_right _ _
theorem yO (v : Int) (n d : Nat) : (if v < 0 then max (v + (n : Int)) 0 else min v (n : Int)) = ((sIx n d (some v) : Nat) : Int) := by
 show (if v < 0 then max (v + (n : Int)) 0 else min v (n : Int)) = (((if v < 0 then (v + (n : Int)).toNat else min v.toNat n) : Nat) : Int)
 by_cases hv : v < 0
 ·simp only [if_pos hv]; omega
 ·simp only [if_neg hv]; omega
theorem wR (lo hi : Option Int) (n : Nat) : Builtin.Slice.sliceAdjust lo hi 1 (n : Int) = (((sIx n 0 lo : Nat) : Int), ((sIx n n hi : Nat) : Int)) := by
 have h1 : ¬ ((1 : Int) < 0) := by omega
 unfold Builtin.Slice.sliceAdjust
 simp only [h1, if_false]
 refine Prod.ext ?_ ?_
 ·cases lo with
  | none => rfl
  | some v => exact yO v n 0
 ·cases hi with
  | none => rfl
  | some v => exact yO v n n
theorem w_ (i j : Nat) : Builtin.Slice.slicePlaces (i : Int) (j : Int) 1 = j - i := by
 unfold Builtin.Slice.slicePlaces
 have h1 : (1 : Int) > 0 := by omega
 simp only [h1, if_true, Int.ediv_one]
 split <;> omega
theorem o_ {v : Value} {o : Option Int} {Q : Option Int -> Shared -> Prop} (p : IsPart v o) (h : Q o s) : wpAny (model prog w) A (Builtin.Slice.slicePartIndex v) Q E s := by
 cases p with
 | none => exact slicePart_none h
 | int i t => exact slicePart_int h
theorem sliceApplied_gen {sl : Addr} {vl vu : Value} {lo hi : Option Int} {n : Nat} {Q : Int × Int × Nat -> Shared -> Prop} (hs : s.heap.IsSliceOf sl vl vu .none) (pl : IsPart vl lo) (pu : IsPart vu hi)
 (h : Q (((sIx n 0 lo : Nat) : Int), 1, sIx n n hi - sIx n 0 lo) s) : wpAny (model prog w) A (Builtin.Slice.sliceApplied (.ref sl) (pure (n : Int))) Q E s := by
 obtain ⟨os, hos, hcs, hds⟩ := id hs
 unfold Builtin.Slice.sliceApplied Builtin.Slice.sliceFields
 refine wpAny_bind (wpAny_bind (wpAny_field hos hds (x := vl) rfl (wpAny_bind (wpAny_field hos hds (x := vu) rfl (wpAny_bind (wpAny_field hos hds (x := .none) rfl (wpAny_pure ?_)))))))
 refine wpAny_bind (slicePart_none ?_)
 show wpAny _ _ (if ((1 : Int) == 0) = true then _ else _) _ _ s
 rw [if_neg (by decide)]
 refine wpAny_bind (o_ pl (wpAny_bind (o_ pu (wpAny_bind (wpAny_pure ?_)))))
 show wpAny _ _ (match Builtin.Slice.sliceAdjust lo hi 1 (n : Int) with | (lo, hi) => pure (lo, (1 : Int), Builtin.Slice.slicePlaces lo hi 1)) _ _ s
 rw [wR lo hi n]
 show wpAny _ _ (pure (((sIx n 0 lo : Nat) : Int), (1 : Int), Builtin.Slice.slicePlaces ((sIx n 0 lo : Nat) : Int) ((sIx n n hi : Nat) : Int) 1)) _ _ s
 rw [w_]
 exact wpAny_pure h
theorem Au (xs : Array Value) (i k : Nat) : ((List.range k).filterMap fun (m : Nat) => xs[((i : Int) + (m : Int) * 1).toNat]?).toArray = ((xs.toList.drop i).take k).toArray := by
 have e : (fun (m : Nat) => xs[((i : Int) + (m : Int) * 1).toNat]?) = fun m => xs[i + m]? := by
  funext m
  have : ((i : Int) + (m : Int) * 1).toNat = i + m := by omega
  rw [this]
 rw [e]
 have := pick_run xs i k
 rw [List.filterMap_map] at this
 have e2 : ((fun x => xs[x]?) ∘ fun x => i + x) = fun m => xs[i + m]? := rfl
 rw [e2] at this
 rw [this]
theorem getItem_tuple_cut {t sl : Addr} {items : Array Value} {vl vu : Value} {lo hi : Option Int} {Q : Value -> Shared -> Prop} (ht : IsTup s.heap t items) (hs : s.heap.IsSliceOf sl vl vu .none) (pl : IsPart vl lo) (pu : IsPart vu hi)
 (hw : ¬ (sIx items.size 0 lo = 0 /\ sIx items.size items.size hi = items.size))
 (h : Q (.ref s.heap.objs.size) { s with heap := s.heap.push { cls := .type "tuple", data := .seq ((items.toList.drop (sIx items.size 0 lo)).take (sIx items.size items.size hi - sIx items.size 0 lo)).toArray } })
 (hsz : items.size <= sizeLine) : wpAny (model prog w) A (getItem (.ref t) (.ref sl)) Q E s := by
 have htake : sizeOk (.seq ((items.toList.drop (sIx items.size 0 lo)).take (sIx items.size items.size hi - sIx items.size 0 lo)).toArray) := by
  show ((items.toList.drop (sIx items.size 0 lo)).take (sIx items.size items.size hi - sIx items.size 0 lo)).toArray.size <= sizeLine
  rw [List.size_toArray, List.length_take, List.length_drop, Array.length_toList]
  omega
 have hj : sIx items.size items.size hi <= items.size := sIx_le _ _ (Nat.le_refl _) hi
 obtain ⟨os, hos, hcs, hds⟩ := id hs
 have hTs : s.TypeIs (.ref sl) "slice" := ⟨os, hos, hcs⟩
 unfold getItem
 try with_reducible refine wpAny_holding ?_
 first | refine wpAny_bind (wpAny_pure ?_) | skip
 refine wpAny_bind (wpAny_sequenceKey ht.typeIs (by decide) ?_)
 refine wpAny_bind (wpAny_callSpecial?_slot (name := Str.ofString "__getitem__") ht.typeIs PyProof.Rows.slot_tuple_getitem
  (wpAny_call_entry PyProof.Rows.slot_tuple_getitem ht.typeIs entry_tuple_getitem ?_ (args_tuple_getitem _ _)))
 show wpAny _ _ (Builtin.Tuple.tupleItemsOf (.ref t) >>= _) _ _ s
 refine wpAny_bind (tupleItemsOf_ ht ?_)
 refine wpAny_bind (wpAny_typeOf hTs ?_)
 rw [if_pos (by decide)]
 refine wpAny_bind (sliceApplied_gen hs pl pu ?_)
 have hno : ¬ ((((sIx items.size 0 lo : Nat) : Int) == 0 && (1 : Int) == 1 && (sIx items.size items.size hi - sIx items.size 0 lo) == items.size) = true) := by
  intro q
  rw [Bool.and_eq_true, Bool.and_eq_true] at q
  have q1 : ((sIx items.size 0 lo : Nat) : Int) = 0 := eq_of_beq q.1.1
  have q2 : sIx items.size items.size hi - sIx items.size 0 lo = items.size := eq_of_beq q.2
  exact hw ⟨by omega, by omega⟩
 show wpAny _ _ (if (((sIx items.size 0 lo : Nat) : Int) == 0 && (1 : Int) == 1 && (sIx items.size items.size hi - sIx items.size 0 lo) == items.size) = true then _ else _) _ _ s
 rw [if_neg hno, Au]
 first
  | exact wpAny_bind (m := Builtin.Tuple.tupleExact _) (wpAny_newObj_type (wpAny_pure ⟨_, rfl, wpAny_pure h⟩) htake)
  | exact wpAny_bind (m := Builtin.Tuple.tupleExact _) (wpAny_newObj_type (wpAny_bind (wpAny_pure (wpAny_pure ⟨_, rfl, wpAny_pure h⟩))) htake)
  | exact wpAny_bind (wpAny_bind (m := Builtin.Tuple.tupleExact _) (wpAny_newObj_type (wpAny_pure (wpAny_pure ⟨_, rfl, wpAny_pure h⟩)) htake))
  | exact wpAny_bind (wpAny_bind (m := Builtin.Tuple.tupleExact _) (wpAny_newObj_type (wpAny_pure ⟨_, rfl, wpAny_pure h⟩) htake))
end
end HT
namespace L2
open PySem PySem.Spec PyProof.Rows
abbrev TO := St -> Hp -> (Option Int -> Hp -> Prop) -> Prop
def PO (X : Cx) (e : Option Expr) (t : TO) : Prop :=
 ∀ (pins : List (Addr × Obj)) (s : Shared) (σ : St) (H : Hp) (Q : Option Int -> Hp -> Prop), Inv X pins σ H s -> t σ H Q ->
  wpAny (model X.prog X.w) X.A (evalPart e X.env) (fun u s' => ∃ o H', Inv X pins σ H' s' /\ IsPart u o /\ Q o H') X.xe s
def oI : TO := fun _ H Q => Q none H
def vD (t : TE) : TO := fun σ H Q => t σ H fun x H1 => ∃ i, x = .int i /\ Q (some i) H1
theorem pe {ns : List Int} : ∀ {us : List Value}, Vals (ns.map V.int) us -> IntsAre us ns := by
 induction ns with
 | nil => intro us r; rw [List.map_nil] at r; cases r; exact .nil
 | cons n ns ih =>
  intro us r
  rw [List.map_cons] at r
  cases r with
  | cons r1 r2 =>
   obtain ⟨t, e⟩ := r1
   subst e
   exact .cons n t (ih r2)
section
variable {X : Cx} {e : Expr} {te : TE} {lo hi : Option Expr} {tl th : TO} {pos p2 : Pos}
theorem b4 : PO X none oI := by
 intro pins s σ H Q I h
 rw [evalPart_none]
 exact wpAny_pure ⟨none, H, I, .none, h⟩
theorem bG (h : PE X e te) : PO X (some e) (vD te) := by
 intro pins s σ H Q I hw
 rw [evalPart_some]
 refine thn (h pins s σ H _ I hw) fun u s1 ⟨x, H1, I1, r1, q1⟩ => ?_
 obtain ⟨i, rfl, q⟩ := q1
 obtain ⟨t, rfl⟩ := r1
 exact ⟨some i, H1, I1, .int i t, q⟩
def SlR (X : Cx) (r : V -> Option Int -> Option Int -> Hp -> VK -> Prop) : Prop :=
 ∀ (pins : List (Addr × Obj)) (s : Shared) (σ : St) (H : Hp) (x : V) (v vl vu : Value) (lo hi : Option Int) (sl : Addr) (Q : VK), Inv X pins σ H s -> RelV x v -> s.heap.IsSliceOf sl vl vu .none -> IsPart vl lo -> IsPart vu hi -> r x lo hi H Q ->
  ∃ T id, typeLookup (.type T) "__getitem__" = pure (some (.builtin id)) /\ s.TypeIs v T /\ wpAny (model X.prog X.w) X.A (getItem v (.ref sl)) (EP X pins σ Q) X.xe s
def tSl (r : V -> Option Int -> Option Int -> Hp -> VK -> Prop) (te : TE) (tl th : TO) : TE := fun σ H Q => te σ H fun x H1 => tl σ H1 fun l H2 => th σ H2 fun u H3 => r x l u H3 Q
theorem bv {r : V -> Option Int -> Option Int -> Hp -> VK -> Prop} (hr : SlR X r) (he : PE X e te) (hl : PO X lo tl) (hu : PO X hi th) : PE X (.Subscript e (.Slice lo hi none p2) pos) (tSl r te tl th) := by
 intro pins s σ H Q I h
 refine Subscript_ (thn (he pins s σ H _ I h) fun v s1 ⟨x, H1, I1, r1, q1⟩ => ?_)
 refine wpAny_Slice (thn (hl pins s1 σ H1 _ I1 q1) fun vl s2 ⟨l, H2, I2, pl, q2⟩ => thn (hu pins s2 σ H2 _ I2 q2) fun vu s3 ⟨u, H3, I3, pu, q3⟩ => ?_)
 rw [evalPart_none]
 refine wpAny_pure ?_
 have I4 : Inv X pins σ H3 { s3 with heap := s3.heap.push { cls := .type "slice", data := .fields #[vl, vu, .none] } } := I3.kept (t' := s3.toks) fun b ob q => Heap.get?_push_of_some _ q
 obtain ⟨T, id, hT, ht, hg⟩ := hr pins { s3 with heap := s3.heap.push { cls := .type "slice", data := .fields #[vl, vu, .none] } } σ H3 x v vl vu l u s3.heap.objs.size Q I4 r1 (Heap.IsSliceOf.new ..) pl pu q3
 show wpAny (model X.prog X.w) X.A (subscriptTail e (.Slice lo hi none p2) v (.ref s3.heap.objs.size)) (EP X pins σ Q) X.xe { s3 with heap := s3.heap.push { cls := .type "slice", data := .fields #[vl, vu, .none] } }
 exact tail_any (ops := [.ref s3.heap.objs.size, v]) ht hT hg (by with_unfolding_all rfl)
def jX (xs : List V) (lo hi : Option Int) : List V := (xs.drop (HT.sIx xs.length 0 lo)).take (HT.sIx xs.length xs.length hi - HT.sIx xs.length 0 lo)
theorem cQ (xs : List V) (lo hi : Option Int) : (jX xs lo hi).length <= xs.length := by
 unfold jX
 rw [List.length_take, List.length_drop]
 omega
def F2 (K : PySem.W.Frag) : V -> Option Int -> Option Int -> Hp -> VK -> Prop := fun x lo hi H Q => ∃ a xs, x = .ref a /\ SqT K H a xs /\
 ¬ (HT.sIx xs.length 0 lo = 0 /\ HT.sIx xs.length xs.length hi = xs.length) /\ ∀ p, H p = none -> Q (.ref p) (upd H p (.tup (jX xs lo hi)))
theorem Bh : SlR X (F2 X.K) := by
 intro pins s σ H x v vl vu lo hi sl Q I rx hs pl pu h
 obtain ⟨a, xs, rfl, hx, hw, q⟩ := h
 cases rx
 obtain ⟨its, r, ht, hz⟩ := I.tuple hx
 have hlen : its.toArray.size = xs.length := by rw [List.size_toArray]; exact r.length.symm
 refine ⟨"tuple", _, PyProof.Rows.slot_tuple_getitem.lookup, ht.typeIs, ?_⟩
 refine HT.getItem_tuple_cut ht hs pl pu (by rw [hlen]; exact hw) ?_ (by rw [hlen]; exact hz)
 rw [hlen]
 refine ⟨.ref s.heap.objs.size, _, I.laid (t' := s.toks) (o := .tup (jX xs lo hi)) (fun b ob q => Heap.get?_push_of_some _ q) (Nat.le_refl _) ?_, rfl, q _ (I.hok.fresh (Nat.le_refl _))⟩
 exact ⟨Nat.le_trans (cQ xs lo hi) hz, _, (r.drop (HT.sIx xs.length 0 lo)).take (HT.sIx xs.length xs.length hi - HT.sIx xs.length 0 lo), IsTup.new _ _⟩
def Gf (K : PySem.W.Frag) : R2 := fun x y H Q => ∃ a b xs ys, x = .ref a /\ y = .ref b /\ SqT K H a xs /\ SqT K H b ys /\ xs ≠ [] /\ xs.length + ys.length <= sizeLine /\
 (ys = [] -> Q (.ref a) H) /\ (ys ≠ [] -> ∀ p, H p = none -> Q (.ref p) (upd H p (.tup (xs ++ ys))))
theorem Vals.nil_iff {xs : List V} {us : List Value} (r : Vals xs us) : us = [] ↔ xs = [] := by
 cases r with
 | nil => simp
 | cons _ _ => simp
theorem B7 : OpR X (binaryOp .Add) (Gf X.K) := by
 intro pins s σ H x y v u Q I rx ry h
 obtain ⟨a, b, xs, ys, rfl, rfl, ha, hb, hx, hz, q1, q2⟩ := h
 cases rx
 cases ry
 obtain ⟨its, r1, p1, _⟩ := I.tuple ha
 obtain ⟨its2, r2, p2, _⟩ := I.tuple hb
 refine HT.cat_tup p1 p2 (fun z => hx (r1.nil_iff.mp z)) (fun z => ⟨.ref a, H, I, rfl, q1 (r2.nil_iff.mp z)⟩) (fun z => ?_) (by rw [<- r1.length, <- r2.length]; exact hz)
 refine ⟨.ref s.heap.objs.size, _, I.laid (t' := s.toks) (o := .tup (xs ++ ys)) (fun b ob q => Heap.get?_push_of_some _ q) (Nat.le_refl _) ?_, rfl, q2 (fun w => z (r2.nil_iff.mpr w)) _ (I.hok.fresh (Nat.le_refl _))⟩
 exact ⟨by rw [List.length_append]; exact hz, _, r1.append r2, IsTup.new _ _⟩
end
end L2
namespace L2
open PySem PySem.Spec PyProof.Rows
def ixN (n : Nat) (i : Int) : Option Nat := if 0 <= i then (if i < n then some i.toNat else none) else if -(n : Int) <= i then some (i + n).toNat else none
def atI {α : Type} (xs : List α) (i : Int) : Option α := (ixN xs.length i).bind fun j => xs[j]?
theorem Cp {n : Nat} {i : Int} {j : Nat} (h : ixN n i = some j) : seqIndex? i n = some j /\ j < n /\ -(n : Int) <= i /\ i < n := by
 unfold ixN at h
 by_cases h0 : 0 <= i
 ·rw [if_pos h0] at h
  by_cases h1 : i < n
  ·rw [if_pos h1] at h
   have e : i.toNat = j := Option.some.inj h
   exact ⟨by rw [seqIndex_of h0 h1, e], by omega, by omega, h1⟩
  ·rw [if_neg h1] at h; cases h
 ·rw [if_neg h0] at h
  by_cases h1 : -(n : Int) <= i
  ·rw [if_pos h1] at h
   have e : (i + n).toNat = j := Option.some.inj h
   exact ⟨by rw [seqIndex_neg (by omega) h1, e], by omega, h1, by omega⟩
  ·rw [if_neg h1] at h; cases h
theorem uo {α : Type} {xs : List α} {i : Int} {v : α} (h : atI xs i = some v) : ∃ j, seqIndex? i xs.length = some j /\ xs[j]? = some v /\ j < xs.length /\ -(xs.length : Int) <= i /\ i < xs.length := by
 unfold atI at h
 cases e : ixN xs.length i with
 | none => rw [e] at h; cases h
 | some j =>
  rw [e] at h
  obtain ⟨h1, h2, h3, h4⟩ := Cp e
  exact ⟨j, h1, h, h2, h3, h4⟩
theorem aB {α : Type} {xs : List α} {j : Nat} {v : α} (h : xs[j]? = some v) : atI xs (j : Int) = some v := by
 have hj : j < xs.length := (List.getElem?_eq_some_iff.mp h).1
 have e : ixN xs.length (j : Int) = some j := by
  unfold ixN
  rw [if_pos (by omega), if_pos (by omega)]; simp
 unfold atI; rw [e]; exact h
theorem AM {α : Type} (xs : List α) (v : α) : atI (xs ++ [v]) (-1) = some v := by
 have hl : (xs ++ [v]).length = xs.length + 1 := by simp
 have e : ixN (xs ++ [v]).length (-1) = some xs.length := by
  unfold ixN
  rw [hl, if_neg (by decide), if_pos (by omega)]
  congr 1
  omega
 unfold atI
 rw [e]
 show (xs ++ [v])[xs.length]? = some v
 simp
def xZ (b : Expr) : Prop := ∀ o i, subscripted b false o i = operate [o, i] (getItem o i)
def IxR (X : Cx) (r : R2) : Prop :=
 ∀ (value slice : Expr) (pins : List (Addr × Obj)) (s : Shared) (σ : St) (H : Hp) (x y : V) (v u : Value) (Q : VK), Inv X pins σ H s -> RelV x v -> RelV y u -> r x y H Q ->
  subscripted slice false v u = operate [v, u] (getItem v u) -> wpAny (model X.prog X.w) X.A (subscriptTail value slice v u) (EP X pins σ Q) X.xe s
def MtR (X : Cx) (id : String) (r : V -> List V -> Hp -> VK -> Prop) : Prop :=
 ∀ (pins : List (Addr × Obj)) (s : Shared) (σ : St) (H : Hp) (x : V) (xs : List V) (v : Value) (us : List Value) (Q : VK), Inv X pins σ H s -> RelV x v -> Vals xs us -> r x xs H Q ->
  wpAny (model X.prog X.w) X.A (call (.builtin id) (v :: us)) (EP X pins σ Q) X.xe s
section
variable {X : Cx} {a b : Expr} {ta tb : TE} {pos : Pos}
theorem IxR.or {r r' : R2} (h : IxR X r) (h' : IxR X r') : IxR X (fun x y H Q => r x y H Q \/ r' x y H Q) := by
 intro value slice pins s σ H x y v u Q I rx ry q hs
 rcases q with q | q
 ·exact h value slice pins s σ H x y v u Q I rx ry q hs
 ·exact h' value slice pins s σ H x y v u Q I rx ry q hs
theorem aQ {r : R2} (hr : IxR X r) (ha : PE X a ta) (hb : PE X b tb) (hs : xZ b) : PE X (.Subscript a b pos) (tOp r ta tb) := by
 intro pins s σ H Q I h
 exact Subscript_ (D8 ha hb I h fun v u s2 x y H2 I2 rx ry q => hr a b pins s2 σ H2 x y v u Q I2 rx ry q (hs _ _))
def Fz (K : PySem.W.Frag) : R2 := fun x y H Q => ∃ p xs i v, x = .ref p /\ y = .int i /\ SqL K H p xs /\ atI xs i = some v /\ Q v H
def FN (K : PySem.W.Frag) : R2 := fun x y H Q => ∃ p xs i v, x = .ref p /\ y = .int i /\ SqT K H p xs /\ atI xs i = some v /\ Q v H
def Fq : R2 := fun x y H Q => ∃ z i c, x = .str z /\ y = .int i /\ z.length <= sizeLine /\ atI z.cps.toList i = some c /\ Q (.str ⟨#[c]⟩) H
theorem yM : IxR X (Fz X.K) := by
 intro value slice pins s σ H x y v u Q I rx ry h hs
 obtain ⟨p, xs, i, z, rfl, rfl, hq, he, q⟩ := h
 cases rx
 obtain ⟨t, rfl⟩ := ry
 obtain ⟨its, r, pl, hz⟩ := I.list hq
 obtain ⟨j, h1, h2, h3, h4, h5⟩ := uo he
 obtain ⟨w, ew, rw'⟩ := r.get h2
 have hl := r.length
 have hn := qB
 have fin : EP X pins σ Q w s := ⟨z, H, I, rw', q⟩
 by_cases h0 : 0 <= i
 ·have hj : i.toNat = j := by
   rw [seqIndex_of h0 h5] at h1
   exact Option.some.inj h1
  exact item_listR pl.isList h0 (by omega) (by rw [hj]; simpa using ew) fin hs
 ·have hj : (i + (its.toArray.size : Int)).toNat = j := by
   rw [seqIndex_neg (by omega) h4] at h1
   rw [List.size_toArray, <- hl]
   exact Option.some.inj h1
  exact subscriptTail_builtinR (x := w) pl.isList.typeIs slot_list_getitem.lookup
   (wpAny_getItem_list_neg (Q := fun r s' => r = w /\ EP X pins σ Q r s') pl.isList (by omega) (by rw [List.size_toArray] <;> omega) (by omega) (by rw [hj]; simpa using ew) ⟨rfl, fin⟩) hs
theorem E2 : IxR X (FN X.K) := by
 intro value slice pins s σ H x y v u Q I rx ry h hs
 obtain ⟨p, xs, i, z, rfl, rfl, hq, he, q⟩ := h
 cases rx
 obtain ⟨t, rfl⟩ := ry
 obtain ⟨its, r, pl, hz⟩ := I.tuple hq
 obtain ⟨j, h1, h2, h3, h4, h5⟩ := uo he
 obtain ⟨w, ew, rw'⟩ := r.get h2
 have hl := r.length
 have hn := qB
 have fin : EP X pins σ Q w s := ⟨z, H, I, rw', q⟩
 exact subscriptTail_builtinR (x := w) pl.typeIs slot_tuple_getitem.lookup
  (getItem_tuple (j := j) (Q := fun r s' => r = w /\ EP X pins σ Q r s') pl (by omega) (by omega) (by rw [List.size_toArray, <- hl]; exact h1) (by simpa using ew) ⟨rfl, fin⟩) hs
theorem EV : IxR X Fq := by
 intro value slice pins s σ H x y v u Q I rx ry h hs
 obtain ⟨z, i, c, rfl, rfl, hz, he, q⟩ := h
 obtain ⟨t, rfl⟩ := rx
 obtain ⟨t', rfl⟩ := ry
 obtain ⟨j, h1, h2, h3, h4, h5⟩ := uo he
 have hl : z.cps.toList.length = z.length := by simp [Str.length]
 rw [hl] at h1 h4 h5
 have hn := qB
 exact tail_any (typeIs_str s z t) slot_str_getitem.lookup (getItem_str (c := c) (by
  have e1 : decide (i < -(2 ^ 63 : Int)) = false := decide_eq_false (by omega)
  have e2 : decide (i ≥ 2 ^ 63) = false := decide_eq_false (by omega)
  rw [e1, e2, Bool.or_false]) (by rw [h1]; simpa using h2) ⟨.str ⟨#[c]⟩, H, I.tok _, ⟨_, rfl⟩, q⟩) hs
def rIx (K : PySem.W.Frag) : R2 := fun x y H Q => Fz K x y H Q \/ FN K x y H Q \/ Fq x y H Q
theorem Ep : IxR X (rIx X.K) := yM.or (E2.or EV)
theorem lH (lo hi : Option Int) (n : Nat) : (sliceBounds lo hi none n).1 = ((HT.sIx n 0 lo : Nat) : Int) /\ (sliceBounds lo hi none n).2.1 = ((HT.sIx n n hi : Nat) : Int) /\ (sliceBounds lo hi none n).2.2 = 1 := by
 refine ⟨?_, ?_, rfl⟩
 ·cases lo with
  | none => simp [sliceBounds, HT.sIx]
  | some i =>
   simp only [sliceBounds, HT.sIx, Option.getD_none, show (1 : Int) > 0 by decide, if_true]
   by_cases h : i < 0
   ·simp only [h, if_true] <;> omega
   ·simp only [h, if_false] <;> omega
 ·cases hi with
  | none => simp [sliceBounds, HT.sIx]
  | some i =>
   simp only [sliceBounds, HT.sIx, Option.getD_none, show (1 : Int) > 0 by decide, if_true]
   by_cases h : i < 0
   ·simp only [h, if_true] <;> omega
   ·simp only [h, if_false] <;> omega
theorem qR (its : List Value) (lo hi : Option Int) : slicePick its.toArray lo hi none = ((its.drop (HT.sIx its.length 0 lo)).take (HT.sIx its.length its.length hi - HT.sIx its.length 0 lo)).toArray := by
 obtain ⟨h1, h2, h3⟩ := lH lo hi its.toArray.size
 unfold slicePick
 rw [h1, h2, h3]
 simp only [sliceRange_one, pick_run, List.size_toArray] <;> rfl
def E0 (K : PySem.W.Frag) : V -> Option Int -> Option Int -> Hp -> VK -> Prop := fun x lo hi H Q => ∃ a xs, x = .ref a /\ SqL K H a xs /\ ∀ p, H p = none -> Q (.ref p) (upd H p (.lst (jX xs lo hi)))
theorem BZ : SlR X (E0 X.K) := by
 intro pins s σ H x v vl vu lo hi sl Q I rx hs pl pu h
 obtain ⟨a, xs, rfl, hx, q⟩ := h
 cases rx
 obtain ⟨its, r, ht, hz⟩ := I.list hx
 have hlen := r.length
 refine ⟨"list", _, slot_list_getitem.lookup, ht.isList.typeIs, ?_⟩
 refine wpAny_getItem_list_slice ht.isList hs pl pu .none (by simp) ?_ (by rw [List.size_toArray] <;> omega)
 rw [qR, <- hlen]
 refine ⟨.ref s.heap.objs.size, _, I.laid (t' := s.toks) (o := .lst (jX xs lo hi)) (fun b ob q => Heap.get?_push_of_some _ q) (Nat.le_refl _) ?_, rfl, q _ (I.hok.fresh (Nat.le_refl _))⟩
 exact ⟨Nat.le_trans (cQ xs lo hi) hz, _, 0, (r.drop (HT.sIx xs.length 0 lo)).take (HT.sIx xs.length xs.length hi - HT.sIx xs.length 0 lo), Heap.get?_push_size _ rfl⟩
def fw : V -> Bool
 | .non => true
 | .bl _ => true
 | .int _ => true
 | .str _ => true
 | _ => false
def eqV : V -> V -> Bool
 | .non, .non => true
 | .bl a, .bl b => a == b
 | .bl a, .int b => (if a then 1 else 0) == b
 | .int a, .bl b => a == (if b then 1 else 0)
 | .int a, .int b => a == b
 | .str a, .str b => a == b
 | _, _ => false
theorem w8 {A : Around} {s : Shared} {y x : V} {u v : Value} (ry : RelV y u) (rx : RelV x v) (fy : fw y = true) (fx : fw x = true) : SeqAt.EqAt A s u v (eqV y x) := by
 cases y with
 | non =>
  cases ry
  cases x with
  | non => cases rx; exact SeqAt.EqAt.same _
  | bl b => cases rx; exact SeqAt.EqAt.none_bool b
  | int b => obtain ⟨t, rfl⟩ := rx; exact SeqAt.EqAt.none_int b t
  | str b => obtain ⟨t, rfl⟩ := rx; exact SeqAt.EqAt.none_str b t
  | _ => exact absurd (show false = true from fx) Bool.false_ne_true
 | bl a =>
  cases ry
  cases x with
  | non => cases rx; exact SeqAt.EqAt.bool_none a
  | bl b => cases rx; exact SeqAt.EqAt.bool_bool a b
  | int b => obtain ⟨t, rfl⟩ := rx; exact SeqAt.EqAt.bool_int a b t
  | str b => obtain ⟨t, rfl⟩ := rx; exact SeqAt.EqAt.bool_str a b t
  | _ => exact absurd (show false = true from fx) Bool.false_ne_true
 | int a =>
  obtain ⟨t', rfl⟩ := ry
  cases x with
  | non => cases rx; exact SeqAt.EqAt.int_none a t'
  | bl b => cases rx; exact SeqAt.EqAt.int_bool a t' b
  | int b => obtain ⟨t, rfl⟩ := rx; exact SeqAt.EqAt.int_int a t' b t
  | str b => obtain ⟨t, rfl⟩ := rx; exact SeqAt.EqAt.int_str a t' b t
  | _ => exact absurd (show false = true from fx) Bool.false_ne_true
 | str a =>
  obtain ⟨t', rfl⟩ := ry
  cases x with
  | non => cases rx; exact SeqAt.EqAt.str_none a t'
  | bl b => cases rx; exact SeqAt.EqAt.str_bool a t' b
  | int b => obtain ⟨t, rfl⟩ := rx; exact SeqAt.EqAt.str_int a t' b t
  | str b => obtain ⟨t, rfl⟩ := rx; exact SeqAt.EqAt.str_str a t' b t
  | _ => exact absurd (show false = true from fx) Bool.false_ne_true
 | _ => exact absurd (show false = true from fy) Bool.false_ne_true
def eqU (x : V) (u : Value) : Bool := match u with
 | .none => eqV .non x
 | .bool b => eqV (.bl b) x
 | .int i _ => eqV (.int i) x
 | .str z _ => eqV (.str z) x
 | _ => false
theorem Br {x y : V} {u : Value} (r : RelV y u) (f : fw y = true) : eqU x u = eqV y x := by
 cases y with
 | non => cases r; rfl
 | bl b => cases r; rfl
 | int i => obtain ⟨t, rfl⟩ := r; rfl
 | str z => obtain ⟨t, rfl⟩ := r; rfl
 | _ => exact absurd (show false = true from f) Bool.false_ne_true
theorem lE {x : V} : ∀ {xs : List V} {us : List Value}, Vals xs us -> xs.all fw = true -> us.any (eqU x) = xs.any fun y => eqV y x
 | _, _, .nil, _ => rfl
 | y :: xs, u :: us, .cons r t, f => by
  rw [List.all_cons, Bool.and_eq_true] at f
  rw [List.any_cons, List.any_cons, Br r f.1, lE t f.2]
theorem js {A : Around} {s : Shared} {x : V} {v : Value} (rx : RelV x v) (fx : fw x = true) : ∀ {xs : List V} {us : List Value}, Vals xs us -> xs.all fw = true -> ∀ u ∈ us, SeqAt.EqAt A s u v (eqU x u)
 | _, _, .nil, _ => fun u hu => by cases hu
 | y :: xs, u :: us, .cons r t, f => fun u' hu => by
  rw [List.all_cons, Bool.and_eq_true] at f
  rcases List.mem_cons.mp hu with rfl | hu
  ·rw [Br r f.1]; exact w8 r rx f.1 fx
  ·exact js rx fx t f.2 u' hu
def inV (x : V) (xs : List V) : Bool := xs.any fun y => eqV y x
def rIn (K : PySem.W.Frag) (neg : Bool) : R2 := fun x y H Q => ∃ p xs, y = .ref p /\ (SqL K H p xs \/ SqT K H p xs) /\ fw x = true /\ xs.all fw = true /\ Q (.bl (if neg then !inV x xs else inV x xs)) H
theorem y6 : OpR X (compareOp .In) (rIn X.K false) := by
 intro pins s σ H x y v u Q I rx ry h
 obtain ⟨p, xs, rfl, hq, fx, fs, q⟩ := h
 cases ry
 rcases hq with hq | hq
 ·obtain ⟨its, r, pl, hz⟩ := I.list hq
  refine SeqAt.in_listAt (eqU x) pl.isList (fun w hw => js rx fx r fs w (by simpa using hw)) ⟨.bl _, H, I, rfl, ?_⟩
  rw [show its.toArray.any (eqU x) = its.any (eqU x) by simp, lE r fs]
  exact q
 ·obtain ⟨its, r, pl, hz⟩ := I.tuple hq
  refine SeqAt.in_tupleAt (eqU x) pl (fun w hw => js rx fx r fs w (by simpa using hw)) ⟨.bl _, H, I, rfl, ?_⟩
  rw [show its.toArray.any (eqU x) = its.any (eqU x) by simp, lE r fs]
  exact q
theorem tW : OpR X (compareOp .NotIn) (rIn X.K true) := by
 intro pins s σ H x y v u Q I rx ry h
 obtain ⟨p, xs, rfl, hq, fx, fs, q⟩ := h
 cases ry
 rcases hq with hq | hq
 ·obtain ⟨its, r, pl, hz⟩ := I.list hq
  refine SeqAt.notIn_listAt (eqU x) pl.isList (fun w hw => js rx fx r fs w (by simpa using hw)) ⟨.bl _, H, I, rfl, ?_⟩
  rw [show its.toArray.any (eqU x) = its.any (eqU x) by simp, lE r fs]
  exact q
 ·obtain ⟨its, r, pl, hz⟩ := I.tuple hq
  refine SeqAt.notIn_tupleAt (eqU x) pl (fun w hw => js rx fx r fs w (by simpa using hw)) ⟨.bl _, H, I, rfl, ?_⟩
  rw [show its.toArray.any (eqU x) = its.any (eqU x) by simp, lE r fs]
  exact q
theorem CallR.or {f : Value} {r r' : List V -> Hp -> VK -> Prop} (h : CallR X f r) (h' : CallR X f r') : CallR X f (fun xs H Q => r xs H Q \/ r' xs H Q) := by
 intro pins s σ H xs us Q I rs q
 rcases q with q | q
 ·exact h pins s σ H xs us Q I rs q
 ·exact h' pins s σ H xs us Q I rs q
theorem ul : CallR X (.type "list") (fun xs H Q => ∃ p ys, xs = [.ref p] /\ (SqL X.K H p ys \/ SqT X.K H p ys) /\ ∀ l, H l = none -> Q (.ref l) (upd H l (.lst ys))) := by
 intro pins s σ H xs us Q I r h
 obtain ⟨p, ys, rfl, hq, q⟩ := h
 obtain ⟨u, rfl, rx⟩ := gs r
 cases rx
 have fin : ∀ (its : List Value), Vals ys its -> ys.length <= sizeLine -> ∀ (h' : Heap) (c' : Nat), (∀ b o', s.heap.get? b = some o' -> h'.get? b = some o') ->
  h'.get? s.heap.objs.size = some { cls := .type "list", dict := none, data := .seq its.toArray c', slots := #[] } -> EP X pins σ Q (.ref s.heap.objs.size) { s with heap := h' } := fun its r' hz h' c' kp e =>
  ⟨.ref s.heap.objs.size, _, I.laid (t' := s.toks) kp (Nat.le_refl _) (show ObjOk X.prog X.w _ h' _ (.lst ys) from ⟨hz, its, c', r', e⟩), rfl, q _ (I.hok.fresh (Nat.le_refl _))⟩
 rcases hq with hq | hq
 ·obtain ⟨its, r', pl, hz⟩ := I.list hq
  have hlen := r'.length
  obtain ⟨o, ho, hc, n, hd⟩ := pl.isList
  exact call_list_seq p (.inl rfl) ho hc hd (fun h' c' kp e => fin its r' hz h' c' kp e) (by simp only [List.size_toArray] <;> omega)
 ·obtain ⟨its, r', pl, hz⟩ := I.tuple hq
  have hlen := r'.length
  obtain ⟨o, ho, hc, n, hd⟩ := pl
  exact call_list_seq p (.inr rfl) ho hc hd (fun h' c' kp e => fin its r' hz h' c' kp e) (by simp only [List.size_toArray] <;> omega)
theorem rg : CallR X (.type "tuple") (fun xs H Q => ∃ p ys, xs = [.ref p] /\ ((SqL X.K H p ys /\ ∀ l, H l = none -> Q (.ref l) (upd H l (.tup ys))) \/ (SqT X.K H p ys /\ Q (.ref p) H))) := by
 intro pins s σ H xs us Q I r h
 obtain ⟨p, ys, rfl, h⟩ := h
 obtain ⟨u, rfl, rx⟩ := gs r
 cases rx
 rcases h with ⟨hq, q⟩ | ⟨hq, q⟩
 ·obtain ⟨its, r', pl, hz⟩ := I.list hq
  have hlen := r'.length
  refine call_tuple_list pl.isList (fun h' kp => ?_) (by simp only [List.size_toArray] <;> omega)
  have I1 : Inv X pins σ H { s with heap := h' } := I.kept (t' := s.toks) kp
  have I2 : Inv X pins σ (upd H h'.objs.size (.tup ys)) { s with heap := h'.push { cls := .type "tuple", data := .seq its.toArray } } :=
   I1.laid (t' := s.toks) (fun b o e => Heap.get?_push_of_some _ e) (Nat.le_refl _) (show ObjOk X.prog X.w _ _ _ (.tup ys) from ⟨hz, its, r', IsTup.new _ _⟩)
  exact ⟨.ref h'.objs.size, _, I2, rfl, q _ (I1.hok.fresh (Nat.le_refl _))⟩
 ·obtain ⟨its, r', pl, hz⟩ := I.tuple hq
  exact call_tuple_same pl ⟨.ref p, H, I, rfl, q⟩
def tyV (K : PySem.W.Frag) (T : String) (x : V) (H : Hp) : Prop := match x with
 | .str _ => T = "str"
 | .int _ => T = "int"
 | .ref p => (T = "list" /\ ∃ xs, SqL K H p xs) \/ (T = "tuple" /\ ∃ o, K.lookup p = some o /\ o.cls = .type "tuple" /\ o.dict = none) \/
  (T = "dict" /\ ((∃ kvs, H p = some (.dK kvs)) \/ ∃ kvs, H p = some (.dT kvs))) \/ (T = "set" /\ ∃ S n, H p = some (.set S n))
 | _ => False
theorem DX {pins : List (Addr × Obj)} {σ : St} {H : Hp} {s : Shared} {T : String} {x : V} {v : Value} (I : Inv X pins σ H s) (r : RelV x v) (ty : tyV X.K T x H) :
 s.TypeIs v T /\ ∀ a, v = .ref a -> ∃ ob, s.heap.get? a = some ob /\ ob.dict = none := by
 cases x with
 | str z =>
  obtain ⟨t, rfl⟩ := r
  cases (show T = "str" from ty)
  exact ⟨typeIs_str s z t, fun _ e => nomatch e⟩
 | int i =>
  obtain ⟨t, rfl⟩ := r
  cases (show T = "int" from ty)
  exact ⟨typeIs_int s i t, fun _ e => nomatch e⟩
 | ref p =>
  cases r
  rcases ty with ⟨rfl, xs, hq⟩ | ⟨rfl, o, hk, hc, hd⟩ | ⟨rfl, hk⟩ | ⟨rfl, S, n, hk⟩
  ·obtain ⟨its, _, pl, _⟩ := I.list hq
   refine ⟨pl.isList.typeIs, fun a e => ?_⟩
   cases e
   obtain ⟨o, n, e, c, hd, _⟩ := pl
   exact ⟨o, e, hd⟩
  ·refine ⟨⟨o, I.kIn p o hk, hc⟩, fun a e => ?_⟩
   cases e
   exact ⟨o, I.kIn _ o hk, hd⟩
  ·have z : ∃ o, s.heap.get? p = some o /\ o.ExactDict := by
    rcases hk with ⟨kvs, hk⟩ | ⟨kvs, hk⟩
    ·obtain ⟨_, _, _, _, o, _, _, e, ex, _⟩ := I.hok p _ hk
     exact ⟨o, e, ex⟩
    ·obtain ⟨_, _, _, _, o, _, _, e, ex, _⟩ := I.hok p _ hk
     exact ⟨o, e, ex⟩
   obtain ⟨o, e, ex⟩ := z
   refine ⟨⟨o, e, ex.1⟩, fun a e2 => ?_⟩
   cases e2
   exact ⟨o, e, ex.2.1⟩
  ·obtain ⟨o, _, _, _, e, ex, _⟩ := I.hok p _ hk
   refine ⟨⟨o, e, ex.1⟩, fun a e2 => ?_⟩
   cases e2
   exact ⟨o, e, ex.2.1⟩
 | _ => exact False.elim ty
def tBM (K : PySem.W.Frag) (T : String) (r : V -> List V -> Hp -> VK -> Prop) (to : TE) (t : TA) : TE := fun σ H Q => to σ H fun x H1 => tyV K T x H1 /\ t σ H1 fun xs H2 => r x xs H2 Q
variable {o e : Expr} {es : List Expr} {to : TE} {t : TA} {name : Str} {apos cpos : Pos} {T id : String} {r : V -> List V -> Hp -> VK -> Prop}
theorem FT (pa : PlainAttrs T) (slot : Slot T name id) (hty : typeOf (.builtin id) = pure (.type "method_descriptor")) (hm : MtR X id r) (ho : PE X o to) (ha : PA X (e :: es) t)
 (hbase : attributeBase o name X.env (eval o X.env) = eval o X.env := by rfl)
 (hfew : ((backTo cpos (starEach (e :: es) X.env)).all (fun x => !x.1) && (backToKw cpos (keywordEach [] X.env)).all (fun x => x.1.isSome)
  && decide ((e :: es).length + ([] : List Keyword).length + (if ([] : List Keyword).isEmpty then 0 else 1) < 30)) = true := by rfl)
 (hline : (apos.endLine == cpos.line) = true := by rfl) (hs : starEach (e :: es) X.env = (false, eval e X.env) :: starEach es X.env := by rfl) (hplain : (backTo cpos (starEach es X.env)).any (·.1) = false := by rfl) :
 PE X (.Call (.Attribute o name apos) (e :: es) [] cpos) (tBM X.K T r to t) := by
 intro pins s σ H Q I h
 refine wpAny_Call_method_late hbase hfew hline rfl (thn (ho pins s σ H _ I h) fun v s1 ⟨x, H1, I1, r1, ty, q1⟩ => ?_)
 obtain ⟨h1, h2⟩ := DX I1 r1 ty
 refine ⟨T, id, pa, slot, hty, h1, h2, ?_⟩
 have hA := ha cpos pins s1 σ H1 _ I1 q1
 rw [hs] at hA ⊢
 refine Calls.callWith_builtin (by show (false || (backTo cpos (starEach es X.env)).any (·.1)) = false; rw [hplain] <;> rfl) (Calls.evalArgs_plain ?_)
 exact thn hA fun us s2 ⟨vs, H2, I2, r2, q2⟩ => hm pins s2 σ H2 x vs v us Q I2 r1 r2 q2
end
end L2
namespace L2
open PySem PySem.Spec PyProof.Rows
def MtM (X : Cx) (id : String) (r : V -> List V -> Hp -> VK -> Prop) : Prop :=
 ∀ (pins : List (Addr × Obj)) (s : Shared) (σ : St) (H : Hp) (x : V) (xs : List V) (v : Value) (us : List Value) (Q : VK), Inv X pins σ H s -> RelV x v -> Vals xs us -> r x xs H Q ->
  wpAny (model X.prog X.w) X.A (call (.builtin id) (v :: us)) (EP X pins σ Q) X.xe s
theorem Vals.one : ∀ {x : V} {us : List Value}, Vals [x] us -> ∃ u, us = [u] /\ RelV x u
 | _, _, .cons r .nil => ⟨_, rfl, r⟩
section
variable {X : Cx} {pins : List (Addr × Obj)} {σ : St} {H : Hp} {s : Shared} {l b : Addr} {xs ys zs : List V}
theorem Inv.lset {its its' : List Value} {n : Nat} {f : Array Value -> Array Value} {t' : Nat} (I : Inv X pins σ H s) (hH : H l = some (.lst xs))
 (e : s.heap.get? l = some { cls := .type "list", data := .seq its.toArray n }) (hf : f its.toArray = its'.toArray) (hv : Vals ys its') (hz : ys.length <= sizeLine) :
 Inv X pins σ (upd H l (.lst ys)) { s with heap := s.heap.update l (Obj.mapSeq f), toks := t' } := by
 have q := PySem.IsL.update e f
 rw [hf] at q
 refine I.write (x := l) (e := l) (by rw [hH]; exact trivial) (.inl rfl) (fun b' u hb hu => (Heap.get?_update_other s.heap (Obj.mapSeq f) (Ne.symm hb)).trans hu) ⟨_, q⟩ ?_
 exact ⟨hz, its', _, hv, q⟩
theorem Inv.lnew {its : List Value} {t' : Nat} (I : Inv X pins σ H s) (hv : Vals ys its) (hz : ys.length <= sizeLine) :
 Inv X pins σ (upd H s.heap.objs.size (.lst ys)) { s with heap := s.heap.push { cls := .type "list", data := .seq its.toArray }, toks := t' } :=
 I.laid (fun _ _ q => Heap.get?_push_of_some _ q) (Nat.le_refl _) ⟨hz, its, 0, hv, Heap.get?_push_size _ rfl⟩
theorem Inv.fresh (I : Inv X pins σ H s) : H s.heap.objs.size = none := I.hok.fresh (Nat.le_refl _)
theorem Inv.lstM (I : Inv X pins σ H s) (hH : H l = some (.lst xs)) : xs.length <= sizeLine /\ ∃ (its : List Value) (n : Nat), Vals xs its /\ xs.length = its.length /\ s.heap.get? l = some { cls := .type "list", data := .seq its.toArray n } := by
 obtain ⟨z, its, n, r, e⟩ := I.hok l _ hH
 exact ⟨z, its, n, r, r.length, e⟩
theorem BG {n : Nat} (h : n <= sizeLine) : Builtin.List.listTooLong n = false := by
 unfold Builtin.List.listTooLong
 exact decide_eq_false (by omega)
end
section
variable {X : Cx}
def yn : V -> List V -> Hp -> VK -> Prop := fun x vs H Q => ∃ l xs y, x = .ref l /\ vs = [y] /\ H l = some (.lst xs) /\ xs.length < sizeLine /\ Q .non (upd H l (.lst (xs ++ [y])))
theorem d5 : MtM X "list.append" yn := by
 intro pins s σ H x vs v us Q I rx rv h
 obtain ⟨l, xs, y, rfl, rfl, hH, hz, q⟩ := h
 cases rx
 obtain ⟨u, rfl, ru⟩ := rv.one
 obtain ⟨z, its, n, r, hl, e⟩ := I.lstM hH
 refine call_meets F.slot_list_append ⟨_, e, rfl⟩ F.entry_list_append (F.args_list_append_2 _ _) (PySem.list_append l its.toArray n u (by rw [List.size_toArray]; omega)) ⟨e, ?_⟩
 refine ⟨.non, _, I.lset (its' := its ++ [u]) hH e (by simp) (r.append (.cons ru .nil)) ?_, rfl, q⟩
 rw [List.length_append, List.length_singleton]
 omega
end
section
variable {prog : Program} {w : World} {A : Around} {E : Value -> Shared -> Prop} {s : Shared}
end
section
variable {X : Cx}
end
end L2
namespace Att
open PySem PySem.W PySem.Calls PyProof.Rows
theorem oB {P : Params} {h : Heap} : ∀ (ns : List Int) (vs : List Value), WellAll P h vs (ns.map WData.int) -> IntsAre vs ns := by
 intro ns
 induction ns with
 | nil =>
  intro vs w
  rw [List.map_nil] at w
  cases w
  exact .nil
 | cons n ns ih =>
  intro vs w
  rw [List.map_cons] at w
  cases w with
  | cons a b =>
   cases a
   exact .cons _ _ (ih _ b)
theorem zj {l : OpenLaw} {n : Nat} (hn : l.most = some n) {P : Params} {h : Heap} {args : List WData} {vals : List Value}
 (hpre : l.row.toRowW.claim.pre args = true) (hwl : WellAll P h vals args) :
 ∃ a vs ns, vals = [Value.ref a] /\ args = [WData.list (ns.map WData.int)] /\ h.get? a = some { cls := .type "list", data := .seq vs.toArray } /\ IntsAre vs ns /\ ns.length <= n := by
 have hsh : WShape.hasAll [] args [.list .int] = true := (pre_splitW hpre).1
 have hc : l.pre.holds [] { args := args } = true := (pre_splitW hpre).2
 obtain ⟨d, r, rfl, h1, h2⟩ := hasAllW_cons hsh
 obtain rfl := hasAllW_nil h2
 obtain ⟨xs, rfl, h3⟩ := hasW_list h1
 obtain ⟨ns, rfl⟩ := items_int h3
 have hlen : ns.length <= n := by
  unfold OpenLaw.pre at hc
  have h4 : (WTm.not (.lt (.lit (.int (n : Int))) (.len (.arg 0)))).holds [] { args := [.list (ns.map .int)] } = true := by
   have h4 := (holds_andW hc).1
   rw [hn] at h4
   exact h4
  have h5 := condW_of h4 (w_not (w_lt w_lit (w_len_list (w_arg rfl))))
  rw [List.length_map] at h5
  refine Nat.le_of_not_lt fun q => ?_
  have q' : (n : Int) < ((ns.length : Nat) : Int) := by omega
  first
   | (rw [decide_eq_true q'] at h5; exact absurd h5 (by decide))
   | (simp at h5; omega)
 cases hwl with
 | cons w1 w2 =>
  cases w2
  cases w1 with
  | list ho hall => exact ⟨_, _, ns, rfl, rfl, ho, oB ns _ hall, hlen⟩
theorem zm (l : OpenLaw) (args : List WData) : l.row.toRowW.claim.post args (.bool true) args = true :=
 postW_of (r := l.row.toRowW) (X := (true == true))
  (show WShape.has [] (.bool true) .bool = true by first | rfl | decide | simp [WShape.has, WShape.arms, WShape.armsAll])
  (show (WTm.eq .res (.lit (.bool true))).value [] { args := args, res := some (.bool true), after := args } = some (.bool (true == true)) from w_eq_bool (w_res rfl) w_lit) rfl
theorem attach_call {l : OpenLaw} {n : Nat} {q : Program} {loose : List Str} {XP : (Str -> Option Value) -> Heap -> Prop} {YP : World -> Heap -> Prop} {d : DefRec}
 (hn : l.most = some n) (hdf : d.params.defaults = [])
 (call : ∀ (w : World) (s₀ s₁ : Shared) (mg mb : Str -> Option Value) (fa : Addr) (o : Obj) (pm cd doc : Value) (a : Addr) (vs : List Value) (ns : List Int),
  Ground q loose [] XP w s₀ mg mb s₁.heap -> YP w s₁.heap ->
  s₁.heap.get? fa = some o -> o.data = .func (docDef d.name d.params d.body d.scope pm cd doc) -> s₁.heap.CodeRec cd d.name -> mg d.name = some (.ref fa) ->
  s₁.heap.get? a = some { cls := .type "list", data := .seq vs.toArray } -> IntsAre vs ns -> ns.length <= n -> s₁.gens = #[] ->
  codeAny (model l.prog w) callerA (.call (.ref fa) ⟨[.ref a], []⟩) (fun r s' => r = .ok (.ret (.bool true)) /\ OldK s₁.heap s'.heap /\ s'.os = s₁.os /\ AllBare s'.gens) s₁) :
 WalkO q loose XP YP l.row.toRowW d [] (fun f vs => PySem.call f vs) := by
 intro w s₀ s₁ mg mb G Y fa o pm cd doc dV kV ho hd hcd hD hmg hg args vals as hpre hlay hrd hwl hlo
 obtain rfl : dV = .none := Dflts.none hD hdf
 obtain rfl : kV = .none := Dflts.noKw hD
 obtain ⟨a, vs, ns, rfl, rfl, hobj, hints, hlen⟩ := zj hn hpre hwl
 refine enter_call (codeAny_mono (call w s₀ s₁ mg mb fa o pm cd doc a vs ns G Y ho (fd_plain hd) hcd hmg hobj hints hlen hg) fun r s' hq => ?_)
 obtain ⟨rfl, h2, h3, h4⟩ := hq
 exact ⟨.inl ⟨.bool true, .bool true, [], rfl, fun _ => rfl, .bool true, zm l _, fun _ => ⟨List.Pairwise.nil, fun _ hm => (nomatch hm)⟩⟩, h2, h3, h4⟩
section
variable {prog : Program} {w : World} {A : Around} {E : Value -> Shared -> Prop} {s : Shared} {K : Frag}
end
end Att
namespace L2
open PySem PySem.Spec PyProof.Rows
theorem sJ : ∀ {vs : List Value} {ns : List Int}, IntsAre vs ns -> Vals (ns.map V.int) vs
 | _, _, .nil => .nil
 | _, _, .cons n t h => .cons ⟨t, rfl⟩ (sJ h)
def zL (H : Hp) : Prop := ∀ b, H b = none \/ ∃ o xs, H b = some (.frz o (.lst xs))
theorem Ag {P : Program} {w : World} {K : PySem.W.Frag} {mg mb : Str -> Option Value} {CX : CXT} {k : Nat} {fa a : Addr} {fd : FuncData} {x : Str} {sp : Sp} {s₁ : Shared} {vs : List Value} {ns : List Int}
 (KX : K.In s₁.heap) (hns : s₁.heap.Ns mainGlobals mg) (hb : s₁.heap.Ns builtinsNs mb) (hbb : ∀ x : Str, x ≠ "__name__" -> mb x = bootBuiltins x) (hlim : s₁.heap.NoLimit) (hg : s₁.gens = #[])
 (ha : s₁.heap.get? a = some { cls := .type "list", data := .seq vs.toArray }) (hi : IntsAre vs ns) (hl : ns.length <= sizeLine) (hr : Room k callerA)
 (F : ∀ base : Heap, K.In base -> base.Ns mainGlobals mg -> bd P w K mg base CX k fa fd [x] sp) (hbind : ∀ (s : Shared) (u : Value), BindsTo s fd ⟨[u], []⟩ [(x, u)])
 (hsp : ∀ H : Hp, zL H -> SqL K H a (ns.map V.int) -> sp [.ref a] H (fun v _ => v = .bl true) fun _ _ _ => False)
 (hCX : ∀ H e s', CX [] H s₁ (fun _ _ _ => False) e s' -> False) :
 codeAny (model P w) callerA (.call (.ref fa) ⟨[.ref a], []⟩) (fun r s' => r = .ok (.ret (.bool true)) /\ OldK s₁.heap s'.heap /\ s'.os = s₁.os /\ AllBare s'.gens) s₁ := by
 have rv := sJ hi
 have lenV := hi.length
 have core : ∀ H : Hp, zL H -> SqL K H a (ns.map V.int) -> HOk P w H s₁.heap -> (∀ b, H b ≠ none -> b = a) -> (H a ≠ none -> K.lookup a = none) ->
  codeAny (model P w) callerA (.call (.ref fa) ⟨[.ref a], []⟩) (fun r s' => r = .ok (.ret (.bool true)) /\ OldK s₁.heap s'.heap /\ s'.os = s₁.os /\ AllBare s'.gens) s₁ := by
  intro H hO hS hok hA hK
  have base_of : ∀ {b : Addr} {o : Obj}, s₁.heap.get? b = some o -> H b = none -> (sW s₁.heap H).get? b = some o := fun e n => An e n
  have noA : ∀ {b : Addr} {o : Obj} {es : Array DictEntry} {ep : Nat}, s₁.heap.get? b = some o -> o.data = .dict es ep -> H b = none := fun {b o es ep} e d => by
   cases q : H b with
   | none => rfl
   | some u =>
    have e' : b = a := hA b (by rw [q]; simp)
    subst e'
    rw [ha] at e; cases e
    have d' : Data.seq vs.toArray _ = Data.dict es ep := d
    cases d'
  have nsK : ∀ {b : Addr} {m : Str -> Option Value}, s₁.heap.Ns b m -> (sW s₁.heap H).Ns b m := fun {b m} ⟨o, es, ep, e, d, r⟩ => ⟨o, es, ep, base_of e (noA e d), d, r⟩
  have hKb : K.In (sW s₁.heap H) := fun b o e => base_of (KX b o e) (by
   cases q : H b with
   | none => rfl
   | some u =>
    have e' : b = a := hA b (by rw [q]; simp)
    subst e'
    rw [hK (by rw [q]; simp)] at e; cases e)
  have hM : Mod K mg (sW s₁.heap H) := ⟨hKb, nsK hns, ⟨mb, nsK hb, hbb⟩, let ⟨mc, h1, h2⟩ := hlim; ⟨mc, nsK h1, h2⟩⟩
  have e0 : Env0 P w K mg (sW s₁.heap H) callerA [] s₁ H := ⟨rfl, hM, fun b o e => B6 e, Nat.le_of_eq (zI _ _), trivial, fun b hb => absurd (show b ∈ ([] : List Addr) from hb) (by simp), hok, .of_eq hg⟩
  refine codeAny_mono ((F _ hKb (nsK hns)).run callerA [] s₁ H ⟨[.ref a], []⟩ [.ref a] [.ref a] _ _ hr e0 (hbind s₁ (.ref a)) (.cons rfl .nil) (hsp H hO hS)) fun r s' h => ?_
  cases r with
  | error e => exact (hCX H e s' h).elim
  | ok fl =>
   cases fl with
   | next => exact False.elim h
   | brk => exact False.elim h
   | cont => exact False.elim h
   | ret u =>
    obtain ⟨v, H', os, bare, un, hok', r', q⟩ := h
    have q' : v = .bl true := q
    subst q'
    obtain rfl : u = Value.bool true := r'
    refine ⟨rfl, OldK.of_keep fun b o e => ?_, os, bare⟩
    cases q : H b with
    | none => exact un.keep b o e q (by intro z; exact absurd (show b ∈ ([] : List Addr) from z) (by simp)) (by simp)
    | some u =>
     rcases hO b with z | ⟨ob, xs, z⟩
     ·rw [q] at z; cases z
     ·have z2 := un.frzs b ob _ z
      obtain ⟨e1, _⟩ := hok b _ z
      obtain ⟨e2, _⟩ := hok' b _ z2
      rw [e] at e1; cases e1
      exact e2
 cases hk : K.lookup a with
 | some o =>
  have e := KX a o hk
  rw [ha] at e
  cases e
  refine core (fun _ => none) (fun _ => .inl rfl) (.inr ⟨_, vs.toArray, _, hk, rfl, rfl, rfl, by rw [List.size_toArray, lenV]; exact hl, by simpa using rv⟩) (fun b u z => by have z' : (none : Option HO) = some u := z; cases z') (fun b z => absurd rfl z) fun z => absurd rfl z
 | none =>
  refine core (fun b => if b = a then some (.frz { cls := .type "list", data := .seq vs.toArray } (.lst (ns.map V.int))) else none) (fun b => ?_) (.inl (.inr ⟨{ cls := .type "list", data := .seq vs.toArray }, if_pos rfl⟩)) (fun b u z => ?_) (fun b z => ?_) fun _ => hk
  ·by_cases hb : b = a
   ·exact .inr ⟨_, _, if_pos hb⟩
   ·exact .inl (if_neg hb)
  ·by_cases hb : b = a
   ·have z' := (if_pos hb).symm.trans z
    cases z'
    subst hb
    exact ⟨ha, by rw [List.length_map]; exact hl, vs, _, rv, ha⟩
   ·have z' := (if_neg hb).symm.trans z
    cases z'
  ·by_cases hb : b = a
   ·exact hb
   ·exact absurd (if_neg hb) z
end L2
namespace L2
open PySem PySem.Spec PyProof.Rows
theorem Cu {l : PySem.W.OpenLaw} {n k : Nat} {q : Program} {loose : List Str} {XP : (Str -> Option Value) -> Heap -> Prop} {YP : World -> Heap -> Prop} {d : DefRec} {K : Params -> PySem.W.Frag} {CX : World -> CXT} {sp : World -> Sp} {x : Str}
 (hn : l.most = some n) (hn2 : n <= sizeLine) (hdf : d.params.defaults = []) (hr : Room k callerA)
 (hY : ∀ (w : World) (h : Heap), YP w h -> (K w.params).In h)
 (F : ∀ (w : World) (mg : Str -> Option Value) (fa : Addr) (h : Heap), (K w.params).In h -> h.Ns mainGlobals mg -> mg d.name = some (.ref fa) ->
  ∃ fd : FuncData, (∀ (s : Shared) (u : Value), BindsTo s fd ⟨[u], []⟩ [(x, u)]) /\
   ∀ base : Heap, (K w.params).In base -> base.Ns mainGlobals mg -> bd l.prog w (K w.params) mg base (CX w) k fa fd [x] (sp w))
 (hsp : ∀ (w : World) (H : Hp) (a : Addr) (ns : List Int), ns.length <= n -> zL H -> SqL (K w.params) H a (ns.map V.int) -> sp w [.ref a] H (fun v _ => v = .bl true) fun _ _ _ => False)
 (hCX : ∀ (w : World) (H : Hp) (s : Shared) (e : Value) (s' : Shared), CX w [] H s (fun _ _ _ => False) e s' -> False) :
 PySem.W.WalkO q loose XP YP l.row.toRowW d [] (fun f vs => PySem.call f vs) := by
 refine Att.attach_call hn hdf fun w s₀ s₁ mg mb fa o pm cd doc a vs ns G Y ho hd hcd hmg hobj hints hlen hg => ?_
 have KX := hY w _ Y
 obtain ⟨fd, hb, hF⟩ := F w mg fa _ KX G.T.g hmg
 exact Ag KX G.T.g G.T.b G.T.builtins G.T.nolimit hg hobj hints (Nat.le_trans hlen hn2) hr hF hb (fun H hO hS => hsp w H a ns hlen hO hS) fun H e s' => hCX w H s₁ e s'
end L2
namespace L2
open PySem PySem.Spec PyProof.Rows
abbrev CX0 : CXT := fun _ _ _ _ _ _ => False
structure Fun (K : PySem.W.Frag) (x qual : Str) (st : Stmt) (f : Addr) (fd : FuncData) : Prop where
 ex : ∃ (oc : Value) (od : Option Addr) (kV doc pm : Value) (an : Option Addr) (cdv ct : Value) (osl : Array (Option Value)),
  fd = PySem.W.fnOf x qual (aC st) (av st) (ad st) .none kV doc pm an cdv ct /\ K.lookup f = some ⟨oc, od, .func fd, osl⟩ /\ PySem.W.codeIn K cdv qual = true
 kp : PySem.W.keepIn K (.ref f) = true
section
variable {P : Program} {w : World} {K : PySem.W.Frag} {mg : Str -> Option Value} {base : Heap}
theorem Fun.binds {x qual : Str} {st : Stmt} {f : Addr} {fd : FuncData} {ps : List Str} (F : Fun K x qual st f fd)
 (h : ∀ (kV doc pm : Value) (an : Option Addr) (cdv ct : Value) (us : List Value), us.length = ps.length -> bindArgs (PySem.W.fnOf x qual (aC st) (av st) (ad st) .none kV doc pm an cdv ct) ⟨us, []⟩ = pure (ps.zip us)) : Binds K fd ps [] := by
 obtain ⟨oc, od, kV, doc, pm, an, cdv, ct, osl, rfl, lk, hcd⟩ := F.ex
 exact .all (h kV doc pm an cdv ct)
theorem wB {x qual : Str} {st : Stmt} {f : Addr} {oc : Value} {od an : Option Addr} {osl : Array (Option Value)} {kV doc pm cdv ct : Value} (l : K.lookup f = some ⟨oc, od, .func (PySem.W.fnOf x qual (aC st) (av st) (ad st) .none kV doc pm an cdv ct), osl⟩)
 (c : PySem.W.codeIn K cdv qual = true) (k : PySem.W.keepIn K (.ref f) = true) : Fun K x qual st f (PySem.W.fnOf x qual (aC st) (av st) (ad st) .none kV doc pm an cdv ct) := ⟨⟨oc, od, kV, doc, pm, an, cdv, ct, osl, rfl, l, c⟩, k⟩
end
section
variable {X : Cx}
end
theorem Fm {A B : Prop} (h : B) : if false = true then A else B := by
 rw [if_neg Bool.false_ne_true]
 exact h
theorem Ea {A B : Prop} (h : A) : if true = true then A else B := by
 rw [if_pos rfl]
 exact h
def Same (H H' : Hp) : Prop := ∀ b o, H b = some o -> H' b = some o
theorem Same.refl (H : Hp) : Same H H := fun _ _ h => h
theorem Same.trans {H H1 H2 : Hp} (a : Same H H1) (b : Same H1 H2) : Same H H2 := fun c o h => b c o (a c o h)
theorem Same.free {H H' : Hp} (e : Same H H') {l : Addr} (h : H' l = Option.none) : H l = Option.none := by
 cases q : H l with
 | none => rfl
 | some o =>
  rw [e l o q] at h
  cases h
end L2
namespace L2
open PySem PySem.Spec PyProof.Rows
def kl : HO -> Bool
 | .dT _ => false
 | .frz _ u => kl u
 | _ => true
def NoT (H : Hp) : Prop := ∀ a o, H a = some o -> kl o = true
def ll : HO -> Bool
 | .lst _ => true
 | .tup _ => true
 | .dK _ => true
 | .rng _ _ => true
 | _ => false
structure Gc (H G H' : Hp) : Prop where
 a : Same H G
 b : Same G H'
 c : ∀ p o, G p = some o -> H p = some o \/ ll o = true
section
variable {P : Program} {w : World} {H G H' : Hp} {h h' : Heap} {a : Addr} {o : HO}
theorem ObjOk.gc (n : kl o = true) (x0 : ObjOk P w H h a o) (x : ObjOk P w H' h' a o) : ObjOk P w H h' a o := by
 induction o with
 | ins C dx fs => exact ⟨x0.1, x.2⟩
 | dT kvs => cases n
 | frz ob u ih => exact ⟨x.1, ih n x0.2 x.2⟩
 | _ => exact x
theorem ObjOk.plain (n : ll o = true) (x : ObjOk P w H' h' a o) : ObjOk P w H h' a o := by
 cases o with
 | lst xs => exact x
 | tup xs => exact x
 | dK kvs => exact x
 | rng lo hi => exact x
 | _ => cases n
theorem HOk.gc (n : NoT H) (x0 : HOk P w H h) (x : HOk P w H' h') (g : Gc H G H') : HOk P w G h' := fun a o e => by
 rcases g.c a o e with q | q
 ·refine (((x0 a o q).gc (n a o q) (x a o (g.b a o e)))).stay (fun _ _ _ z => z) (fun b z => g.a _ _ z) fun b xs z => g.a _ _ z
 ·exact (x a o (g.b a o e)).plain q
theorem Un.gc {fs ex : List Addr} (u : Un fs ex H H' h h') (g : Gc H G H') : Un fs ex H G h h' :=
 ⟨u.keep, u.slot, fun b o q n hx => g.b.free (u.free b o q n hx), u.there, fun b xs q => g.a _ _ q, fun b o x q => g.a _ _ q, fun b ps q => ⟨#[], by rw [Array.append_empty]; exact g.a _ _ q⟩⟩
theorem Gc.refl : Gc H H H := ⟨Same.refl H, Same.refl H, fun _ _ e => .inl e⟩
theorem Gc.none (s : Same H H') : Gc H H H' := ⟨Same.refl H, s, fun _ _ e => .inl e⟩
theorem aq {p : Addr} (o : HO) (hp : H p = Option.none) : Same H (upd H p o) := fun b u e => by rw [aj (au e hp)]; exact e
theorem Gc.one {p : Addr} (s : Same H H') (hp : H p = Option.none) (e : H' p = some o) (n : ll o = true) : Gc H (upd H p o) H' :=
 ⟨aq o hp, fun b u z => by
  by_cases hb : b = p
  ·subst hb; rw [ag] at z; cases z; exact e
  ·rw [aj hb] at z; exact s b u z, fun b u z => by
  by_cases hb : b = p
  ·subst hb; rw [ag] at z; cases z; exact .inr n
  ·rw [aj hb] at z; exact .inl z⟩
theorem NoT.upd {p : Addr} (n : NoT H) (d : kl o = true) : NoT (upd H p o) := fun b u z => by
 by_cases hb : b = p
 ·subst hb; rw [ag] at z; cases z; exact d
 ·rw [aj hb] at z; exact n b u z
end
theorem Inv.gc {X : Cx} {pins pins' : List (Addr × Obj)} {σ σ' : St} {H G H' : Hp} {s s' : Shared} (n : NoT H) (I : Inv X pins σ H s) (J : Inv X pins' σ' H' s') (g : Gc H G H') : Inv X pins' σ' G s' :=
 ⟨J.ok, J.os, J.bare, ⟨J.base.keep, J.base.slot, fun b o q z hx => g.b.free (J.base.free b o q z hx), J.base.there, fun b xs q => g.a _ _ (I.base.tups b xs q), fun b o x q => g.a _ _ (I.base.frzs b o x q), fun b ps q => let ⟨m, e⟩ := I.base.tbls b ps q; ⟨m, g.a _ _ e⟩⟩,
  J.loc, J.cell, g.b.free J.free, fun x c e => g.b.free (J.freeC x c e), fun p hp => let ⟨e, z, r⟩ := J.pin p hp; ⟨e, g.b.free z, r⟩, HOk.gc n I.hok J.hok g, J.len⟩
def tGc (t : TE) : TE := fun σ H Q => NoT H /\ t σ H fun v H' => ∃ G, Gc H G H' /\ Q v G
theorem DB {X : Cx} {e : Expr} {t : TE} (h : PE X e t) : PE X e (tGc t) := fun pins s σ H Q I ⟨n, q⟩ =>
 thn (h pins s σ H _ I q) fun u s1 ⟨v, H1, I1, r, G, g, q1⟩ => ⟨v, G, I.gc n I1 g, r, q1⟩
def FY (t : TT) : TT := fun σ H Q => NoT H /\ t σ H fun v H' => ∃ G, Gc H G H' /\ Q v G
theorem rJ {X : Cx} {e : Expr} {t : TT} (h : PT X e t) : PT X e (FY t) := fun pins s σ H Q I ⟨n, q⟩ =>
 thn (h pins s σ H _ I q) fun u s1 ⟨H1, I1, G, g, q1⟩ => ⟨G, I.gc n I1 g, q1⟩
end L2
namespace L2
open PySem PySem.Spec PyProof.Rows
theorem ObjOk.at_ {P : Program} {w : World} {H : Hp} {h : Heap} {a : Addr} {o : HO} (x : ObjOk P w H h a o) : ∃ ob, h.get? a = some ob := by
 cases o with
 | lst xs => obtain ⟨_, _, _, _, e⟩ := x; exact ⟨_, e⟩
 | tup xs => obtain ⟨_, _, _, ob, e, _⟩ := x; exact ⟨_, e⟩
 | dK kvs => obtain ⟨_, _, _, _, o, _, _, e, _⟩ := x; exact ⟨_, e⟩
 | dT kvs => obtain ⟨_, _, _, _, o, _, _, e, _⟩ := x; exact ⟨_, e⟩
 | set S n => obtain ⟨o, _, _, _, e, _⟩ := x; exact ⟨_, e⟩
 | ins C dx fs => obtain ⟨_, _, _, e, _⟩ := x; exact ⟨_, e⟩
 | own y => obtain ⟨_, e⟩ := x; exact ⟨_, e⟩
 | xd fs => obtain ⟨_, ⟨_, _, _, e, _⟩, _⟩ := x; exact ⟨_, e⟩
 | rng lo hi => obtain ⟨_, _, _, e⟩ := x; exact ⟨_, e⟩
 | frz ob u => obtain ⟨e, _⟩ := x; exact ⟨_, e⟩
 | tbl ps => exact ⟨_, (show h.get? a = some _ from x)⟩
 | met f y => exact ⟨_, (show h.get? a = some _ from x)⟩
 | ext φ => obtain ⟨_, ⟨_, e⟩, _⟩ := x; exact ⟨_, e⟩
theorem HOk.none_of {P : Program} {w : World} {H : Hp} {h : Heap} {a : Addr} (x : HOk P w H h) (e : h.get? a = none) : H a = none := by
 cases q : H a with
 | none => rfl
 | some u =>
  obtain ⟨ob, z⟩ := (x a u q).at_
  rw [e] at z; cases z
def hid (h : Heap) (l : List Env) (rs : List Addr) : Heap := PySem.W.hideAll h (frs l ++ rs)
theorem mB {h : Heap} {l : List Env} {rs : List Addr} {b : Addr} {o : Obj} (e : h.get? b = some o) (h1 : b ∉ frs l) (h2 : b ∉ rs) : (hid h l rs).get? b = some o :=
 PySem.W.hideAll_get _ e fun z => (List.mem_append.mp z).elim h1 h2
theorem wD {h : Heap} {l : List Env} {rs : List Addr} {b : Addr} {o : Obj} (e : (hid h l rs).get? b = some o) : h.get? b = some o := PySem.W.of_hideAll _ e
theorem tY {h : Heap} {l : List Env} {rs : List Addr} {b : Addr} (e : b ∈ rs) : (hid h l rs).get? b = none := PySem.W.hideAll_none _ (List.mem_append_right _ e)
theorem kM {h base : Heap} {l : List Env} {rs : List Addr} (e : h.FunFrames base l) : h.FunFrames (hid h l rs) l :=
 PySem.W.funFrames_hide e fun _ he _ ha => List.mem_append_left _ (List.mem_filterMap.mpr ⟨_, he, ha⟩)
def Fly (l : List Env) (rs : List Addr) (e : Addr) (cls : Value) (h : Heap) : Prop := e ∈ rs /\ ∃ a0, Heap.FlyingW (hid h l rs) l e cls a0 h
def XE (P : Program) (w : World) : CXT := fun outer H s E ev s' => ∃ (e : Addr) (C : Value) (rs : List Addr) (H' : Hp), ev = .ref e /\ s'.os = s.os /\ AllBare s'.gens /\ Un (frs outer) [] H H' s.heap s'.heap /\
 HOk P w H' s'.heap /\ (∀ b ∈ rs, s.heap.get? b = none /\ H' b = none) /\ Fly outer rs e C s'.heap /\ E C none H'
section
variable {X : Cx} {pins : List (Addr × Obj)} {σ : St} {H : Hp} {s : Shared} {h' : Heap} {rs : List Addr}
theorem Inv.s0_none (I : Inv X pins σ H s) (hex : X.ex = []) {b : Addr} (e : s.heap.get? b = none) : X.s₀.heap.get? b = none := by
 cases q : X.s₀.heap.get? b with
 | none => rfl
 | some o =>
  obtain ⟨o', z⟩ := I.base.there b o q (by rw [hex]; simp)
  rw [e] at z; cases z
theorem Inv.noteUn (I : Inv X pins σ H s) (hex : X.ex = []) (hrs : ∀ b ∈ rs, X.s₀.heap.get? b = none)
 (stay : ∀ b o, s.heap.get? b = some o -> b ∉ frs X.stack -> b ∉ rs -> h'.get? b = some o) (up : s.heap.UpToSlots h') : Un X.fs [] X.H₀ H X.s₀.heap h' := by
 have B := I.base
 rw [hex] at B
 have nrs : ∀ b o, X.s₀.heap.get? b = some o -> b ∉ rs := fun b o e z => by rw [hrs b z] at e; cases e
 have nst : ∀ b o, X.s₀.heap.get? b = some o -> b ∉ X.fs -> b ∉ frs X.stack := fun b o e hb z => by
  rcases List.mem_cons.mp (I.stkSub b z) with q | q
  ·exact absurd (Nat.lt_of_lt_of_le (Heap.lt_size e) I.ok.above) (by rw [q]; exact Nat.lt_irrefl _)
  ·exact hb q
 refine ⟨fun b o q n hb hx => stay b o (B.keep b o q n hb hx) (nst b o q hb) (nrs b o q), fun b o q n hb hx => ?_, fun b o q n hx => B.free b o q n hx, fun b o q hx => ?_, B.tups, B.frzs, B.tbls⟩
 ·obtain ⟨sl, e1⟩ := B.slot b o q n hb hx
  obtain ⟨_, o', ho', hd⟩ := I.funs.mem hb
  rw [e1] at ho'; cases ho'
  obtain ⟨sl', e2⟩ := up b _ e1 hd
  exact ⟨sl', e2⟩
 ·obtain ⟨o', e1⟩ := B.there b o q hx
  by_cases hb : b ∈ frs X.stack
  ·obtain ⟨_, o2, ho2, hd⟩ := I.stack.mem hb
   obtain ⟨sl', e2⟩ := up b _ ho2 hd
   exact ⟨_, e2⟩
  ·exact ⟨o', stay b o' e1 hb (nrs b o q)⟩
theorem Inv.noteOk (I : Inv X pins σ H s) (hrs : ∀ b ∈ rs, H b = none) (stay : ∀ b o, s.heap.get? b = some o -> b ∉ frs X.stack -> b ∉ rs -> h'.get? b = some o) : HOk X.prog X.w H h' := fun a o e =>
 (I.hok a o e).stay (fun b u hb q => stay b u q (fun z => by
  have n := I.stkFree b z
  rcases hb with r | r
  ·rw [r, e] at n; cases n
  ·rw [r] at n; cases n) fun z => by
  have n := hrs b z
  rcases hb with r | r
  ·rw [r, e] at n; cases n
  ·rw [r] at n; cases n) (fun _ q => q) fun _ _ q => q
theorem yd {base : Heap} {l : List Env} {h h1 : Heap} {T : Addr} {oT : Obj} {ts : Array Value} (hl : h.FunFrames base l) (up : h.UpToSlots h1) (e : (hid h l rs).get? T = none) (hT : h1.get? T = some oT) (hd : oT.data = .fields ts) : h.get? T = none \/ T ∈ rs := by
 by_cases hr : T ∈ rs
 ·exact .inr hr
 ·refine .inl ?_
  cases q : h.get? T with
  | none => rfl
  | some o =>
   by_cases hf : T ∈ frs l
   ·obtain ⟨_, o2, ho2, hnf⟩ := hl.mem hf
    rw [q] at ho2; cases ho2
    obtain ⟨sl, e2⟩ := up T o q hnf
    rw [hT] at e2; cases e2
    exact absurd hd (hnf ts)
   ·rw [mB q hf hr] at e; cases e
end
section
variable {P : Program} {w : World} {K : PySem.W.Frag} {mg : Str -> Option Value} {base : Heap} {N : List Str} {qual : Str} {scope : Scope} {f : Addr} {cd : Value} {A : Around} {outer : List Env} {s₀ : Shared} {H₀ : Hp} {E : XK}
theorem wI {pins : List (Addr × Obj)} {σ : St} {H : Hp} {s : Shared} {h' : Heap} {e : Addr} {cls : Value} {args : List Value}
 (I : Inv (cW (XE P w) P w K mg base N qual scope f cd A outer s₀ H₀ E) pins σ H s) (hx : Heap.MadeExcOf s.heap h' e cls args) (q : E cls none H) :
 (cW (XE P w) P w K mg base N qual scope f cd A outer s₀ H₀ E).xe (.ref e) { s with heap := h' } := by
 show wpAny (model P w) (A.deeper (envOfC qual scope s₀.heap.objs.size f cd)) (leaving (envOfC qual scope s₀.heap.objs.size f cd) (.ref e)) (fun _ s'' => XE P w outer H₀ s₀ E (.ref e) s'') (fun e' s'' => XE P w outer H₀ s₀ E e' s'') { s with heap := h' }
 have hst : s.heap.FunFrames base (envOfC qual scope s₀.heap.objs.size f cd :: outer) := I.stack
 refine wpAny_leaves_madeW (base := hid s.heap (envOfC qual scope s₀.heap.objs.size f cd :: outer) []) (h := s.heap) I.ok.frames rfl (fun b o z => wD z) (kM hst) hx fun h'' t fl tup tn up => ?_
 obtain ⟨f1, f2, f3, oe, vs, T, oT, ts, he, hc, hd, h1, hnT, hTe, hT, hdT, h3⟩ := fl
 have up' : s.heap.UpToSlots h'' := (Heap.UpToSlots.of_keeps hx.keeps).trans up
 have nT : s.heap.get? T = none := (yd hst up' hnT hT hdT).elim id fun z => nomatch z
 have stay : ∀ b o, s.heap.get? b = some o -> b ∉ frs (envOfC qual scope s₀.heap.objs.size f cd :: outer) -> b ∉ [e, T] -> h''.get? b = some o := fun b o z hb _ => f1 b o (mB z hb fun y => nomatch y)
 have n0 : ∀ b ∈ [e, T], s.heap.get? b = none := fun b hb => by
  rcases List.mem_cons.mp hb with r | r
  ·rw [r]; exact hx.new
  ·rw [List.mem_singleton.mp r]; exact nT
 have n1 : ∀ b ∈ [e, T], s₀.heap.get? b = none := fun b hb => I.s0_none rfl (n0 b hb)
 have n2 : ∀ b ∈ [e, T], H b = none := fun b hb => I.hok.none_of (n0 b hb)
 refine ⟨e, cls, [e, T], H, rfl, I.os, I.bare, I.noteUn rfl n1 stay up', I.noteOk n2 stay, fun b hb => ⟨n1 b hb, n2 b hb⟩, ⟨.head _, .ref t, ?_⟩, q⟩
 exact ⟨fun b o z => wD z, tY (.head _), kM f3, oe, vs, T, oT, ts, he, hc, hd, h1, tY (.tail _ (.head _)), hTe, hT, hdT, h3⟩
abbrev XKs := St -> XK
def eW (CX : CXT) (X : Cx) (E : XKs) : Prop := ∀ (pins : List (Addr × Obj)) (σ : St) (H : Hp) (s : Shared) (e : Value) (s' : Shared), Inv X pins σ H s -> CX X.stack H s (E σ) e s' -> X.xe e s'
def zY (X : Cx) (E : XKs) : Prop := ∀ (pins : List (Addr × Obj)) (σ : St) (H : Hp) (s : Shared) (h' : Heap) (e : Addr) (cls : Value) (args : List Value), Inv X pins σ H s -> Heap.MadeExcOf s.heap h' e cls args -> E σ cls none H -> X.xe (.ref e) { s with heap := h' }
theorem cz : zY (cW (XE P w) P w K mg base N qual scope f cd A outer s₀ H₀ E) (fun _ => E) := fun _ _ _ _ _ _ _ _ I hx q => wI I hx q
theorem aD : eW (XE P w) (cW (XE P w) P w K mg base N qual scope f cd A outer s₀ H₀ E) (fun _ => E) := by
 intro pins σ H s ev s' I hq
 obtain ⟨e, C, rs, H', rfl, os, bare, un, hok, hrs, ⟨her, a0, fl⟩, q⟩ := hq
 have J : Inv (cW (XE P w) P w K mg base N qual scope f cd A outer s₀ H₀ E) pins σ H' s' := I.call' os un hok bare (fun b z => nomatch z)
 show wpAny (model P w) (A.deeper (envOfC qual scope s₀.heap.objs.size f cd)) (leaving (envOfC qual scope s₀.heap.objs.size f cd) (.ref e)) (fun _ s'' => XE P w outer H₀ s₀ E (.ref e) s'') (fun e' s'' => XE P w outer H₀ s₀ E e' s'') s'
 have hst : s'.heap.FunFrames base (envOfC qual scope s₀.heap.objs.size f cd :: outer) := J.stack
 refine wpAny_leaves_onW (base := hid s'.heap (envOfC qual scope s₀.heap.objs.size f cd :: outer) rs) I.ok.frames rfl fl fun h'' fl' up => ?_
 obtain ⟨f1, f2, f3, oe, vs, T, oT, ts, he, hc, hd, h1, hnT, hTe, hT, hdT, h3⟩ := fl'
 have nT := yd hst up hnT hT hdT
 have stay : ∀ b o, s'.heap.get? b = some o -> b ∉ frs (envOfC qual scope s₀.heap.objs.size f cd :: outer) -> b ∉ T :: rs -> h''.get? b = some o := fun b o z hb hr => f1 b o (mB z hb fun y => hr (.tail _ y))
 have n1 : ∀ b ∈ T :: rs, s₀.heap.get? b = none := fun b hb => by
  rcases List.mem_cons.mp hb with r | r
  ·rw [r]
   rcases nT with z | z
   ·exact J.s0_none rfl z
   ·exact I.s0_none rfl (hrs T z).1
  ·exact I.s0_none rfl (hrs b r).1
 have n2 : ∀ b ∈ T :: rs, H' b = none := fun b hb => by
  rcases List.mem_cons.mp hb with r | r
  ·rw [r]
   rcases nT with z | z
   ·exact hok.none_of z
   ·exact (hrs T z).2
  ·exact (hrs b r).2
 refine ⟨e, C, T :: rs, H', rfl, J.os, J.bare, J.noteUn rfl n1 stay up, J.noteOk n2 stay, fun b hb => ⟨n1 b hb, n2 b hb⟩, ⟨.tail _ her, a0, ?_⟩, q⟩
 exact ⟨fun b o z => wD z, tY (.tail _ her), kM f3, oe, vs, T, oT, ts, he, hc, hd, h1, tY (.head _), hTe, hT, hdT, h3⟩
end
def Bi (sp : Sp) (dvs : List V) (E : XKs) (t : TA) : TE := fun σ H Q => t σ H fun vs H1 => sp (vs ++ dvs) H1 Q (E σ)
section
variable {X : Cx} {CX : CXT} {k : Nat} {f C : Addr} {fd : FuncData} {ps : List Str} {sp : Sp} {dvs : List V} {ds : List Value} {E : XKs} {x m : Str} {p pos apos : Pos} {e o : Expr} {es : List Expr} {ta : TE} {t : TA}
theorem tJ {pins : List (Addr × Obj)} {σ : St} {H : Hp} {s : Shared} {Q : VK} {us : List Value} {vs : List V} (F : bd X.prog X.w X.K X.mg X.base CX k f fd ps sp) (hr : Room k X.A) (hb : Binds X.K fd ps ds) (hd : Vals dvs ds) (hx : eW CX X E)
 (I : Inv X pins σ H s) (r : Vals vs us) (h : sp (vs ++ dvs) H Q (E σ)) : wpAny (model X.prog X.w) X.A (call (.ref f) us) (EP X pins σ Q) X.xe s := by
 have r2 : Vals (vs ++ dvs) (us ++ ds) := r.append hd
 have hl : (us ++ ds).length = ps.length := by rw [<- r2.length]; exact F.len _ _ _ _ h
 refine wpAny_call (codeAny_mono (F.run X.A X.stack s H ⟨us, []⟩ (us ++ ds) (vs ++ dvs) Q (E σ) hr I.env0 (hb s us I.kIn hl) r2 h) fun r s' hq => ?_)
 cases r with
 | error e => exact hx pins σ H s e s' I hq
 | ok fl =>
  cases fl with
  | ret u => exact I.after hq
  | next => exact False.elim hq
  | brk => exact False.elim hq
  | cont => exact False.elim hq
theorem al (F : bd X.prog X.w X.K X.mg X.base CX k f fd ps sp) (hr : Room k X.A) (hg : Gl X x) (hm : X.mg x = some (.ref f)) (hk : PySem.W.keepIn X.K (.ref f) = true) (hb : Binds X.K fd ps ds) (hd : Vals dvs ds) (hx : eW CX X E)
 (ha : PA X (e :: es) t) (hdb : (x == ("__debug__" : Str)) = false := by decide) (he : starEach (e :: es) X.env = (false, eval e X.env) :: starEach es X.env := by rfl) (hpl : (backTo pos (starEach es X.env)).any (·.1) = false := by rfl) :
 PE X (.Call (.Name x p) (e :: es) [] pos) (Bi sp dvs E t) := by
 intro pins s σ H Q I h
 refine wpAny_Call_Name_kw (jQ I hg hm ?_ hdb)
 refine PySem.W.callWith_K (h₀ := X.base) I.ok.mod.kin hk (thn (ha pos pins s σ H _ I h) fun us s1 ⟨vs, H1, I1, r, q⟩ => ⟨I1.kIn, ?_⟩) he hpl
 exact tJ F hr hb hd hx I1 r q
end
section
variable {P : Program} {w : World} {K : PySem.W.Frag} {mg : Str -> Option Value} {base : Heap}
theorem Fun.okX {x qual : Str} {st : Stmt} {f : Addr} {fd : FuncData} {N ps : List Str} {k : Nat} {sp : Sp} (F : Fun K x qual st f fd) (S : aF N ps (ad st)) (len : ∀ vs H Q E, sp vs H Q E -> vs.length = ps.length)
 (hbody : ∀ (cdv : Value) (A : Around) (outer : List Env) (s : Shared) (H : Hp) (vs : List V) (Q : VK) (E : XK), Room k (A.deeper (envOfC qual (ad st) s.heap.objs.size f cdv)) -> sp vs H Q E ->
  ∃ t, PSs (cW (XE P w) P w K mg base N qual (ad st) f cdv A outer s H E) (av st) t /\ t { nx := fun _ H' => Q .non H', rt := Q } (iQ N vs) H) : bd P w K mg base (XE P w) (k + 1) f fd ps sp := by
 obtain ⟨oc, od, kV, doc, pm, an, cdv, ct, osl, rfl, lk, hcd⟩ := F.ex
 exact FX lk hcd S len fun A outer s H vs Q E hr hsp => hbody cdv A outer s H vs Q E hr hsp
end
theorem B_ {K : PySem.W.Frag} {h : Heap} {C : Addr} {bmB : List Value} {newId : String} (X : K.In h) (q : PySem.W.excIn K C bmB newId = true) :
 ∃ bm N nm qn bs hdct sn sub ab col dd k0 k1 k2 k3 k5 mN, h.get? C = some (excClassObj nm qn C N bs bm hdct sn sub ab col dd k0 k1 k2 k3 k5 newId) /\ h.Ns N mN /\ mN "__init__" = none /\ OwnTail h bmB bm := by
 unfold PySem.W.excIn at q
 split at q
 ·rename_i dd cd sl ho
  split at q
  ·rename_i C' bm k0 k1 k2 k3 n k5 hm hs
   simp only [Bool.and_eq_true, beq_iff_eq, Bool.not_eq_true'] at q
   obtain ⟨⟨⟨⟨⟨rfl, rfl⟩, hdel⟩, ht⟩, hok⟩, hni⟩ := q
   obtain ⟨nm, bs, mro, ns, qn, hd, sn, sub, ab, col, del⟩ := cd
   dsimp only at hm hdel hok hni
   subst hm hdel
   have hsl : sl = #[k0, k1, k2, k3, some (.builtin n), k5] := by
    obtain ⟨l⟩ := sl
    simp only at hs
    rw [hs]
   subst hsl
   exact ⟨bm, ns, nm, qn, bs, hd, sn, sub, ab, col, dd, k0, k1, k2, k3, k5, _, X _ _ ho, .of_isNs (PySem.W.isNs_of_in X hok), PySem.W.nsMap_none_of_in X hok hni, PySem.W.tail_of_in X ht⟩
  ·cases q
 ·cases q
def BE (C : Addr) (E : XKs) (t : TA) : TS := fun _ σ H => t σ H fun vs H1 => vs.length <= sizeLine /\ E σ (.ref C) none H1
theorem bO {X : Cx} {x : Str} {C : Addr} {bmB : List Value} {B newId initId : String} {E : XKs} {e : Expr} {es : List Expr} {t : TA} {np cpos pos : Pos} (O : PySem.W.excIn X.K C bmB newId = true) (FB : ExcBaseFacts B newId initId bmB)
 (hc : X.calm = true) (hg : Gl X x) (hm : X.mg x = some (.ref C)) (hx : zY X E) (ha : PA X (e :: es) t) (hdb : (x == ("__debug__" : Str)) = false := by decide)
 (he : starEach (e :: es) X.env = (false, eval e X.env) :: starEach es X.env := by rfl) (hpl : (backTo cpos (starEach es X.env)).any (·.1) = false := by rfl) :
 PS X (.Raise (some (.Call (.Name x np) (e :: es) [] cpos)) none pos) (BE C E t) := by
 intro pins s σ H D I h
 obtain ⟨tl, N, nm, q, bs, hdct, sn, sub, ab, col, dd, k0, k1, k2, k3, k5, mN, hC, hN, hni, T⟩ := B_ I.mod.kin O
 refine wpAny_Raise_call_subT (C := C) (nm := nm) (q := q) (N := N) (bs := bs) (bm := tl) (hdct := hdct) (sn := sn) (sub := sub) (ab := ab) (col := col) (dd := dd) (k0 := k0) (k1 := k1) (k2 := k2) (k3 := k3) (k5 := k5)
  FB (mN := mN) (T.hasType FB.hasBase) (I.ok.hd hc) (by rw [he]; show (false || (backTo cpos (starEach es X.env)).any (·.1)) = false; rw [hpl]; rfl) hni (jQ I hg hm ⟨rfl, ?_⟩ hdb)
 have hA := ha cpos pins s σ H _ I h
 rw [he] at hA ⊢
 refine Calls.evalArgs_plain (thn hA fun us s1 ⟨vs, H1, I1, r, hz, q1⟩ => ⟨rfl, by rw [<- r.length]; exact hz, I1.bk _ _ hC, hN.keeps I1.bk, T.keeps I1.bk, fun h' e' hm' => ?_⟩)
 exact hx pins σ H1 s1 h' e' (.ref C) us I1 hm' q1
end L2
namespace L2
open PySem PySem.Spec PyProof.Rows
section
variable {X : Cx} {pins : List (Addr × Obj)} {σ : St} {H : Hp} {s : Shared} {h' : Heap} {rs : List Addr}
theorem Inv.noted {t' : Nat} (I : Inv X pins σ H s) (hrs : ∀ b ∈ rs, X.s₀.heap.get? b = none /\ H b = none) (hpin : ∀ p ∈ X.pn ++ pins, p.1 ∉ rs)
 (stay : ∀ b o, s.heap.get? b = some o -> b ∉ frs X.stack -> b ∉ rs -> h'.get? b = some o) (up : s.heap.UpToSlots h') : Inv X pins σ H { s with heap := h', toks := t' } := by
 have B := I.base
 have cellK : ∀ c v, s.heap.IsCell c v -> h'.IsCell c v := fun c v ⟨o, ho, hd⟩ => by
  obtain ⟨sl, e⟩ := up c o ho fun vs q => by rw [hd] at q; cases q
  exact ⟨_, e, hd⟩
 have nrs : ∀ b o, X.s₀.heap.get? b = some o -> b ∉ rs := fun b o e z => by rw [(hrs b z).1] at e; cases e
 have nst : ∀ b o, X.s₀.heap.get? b = some o -> b ∉ X.fs -> b ∉ frs X.stack := fun b o e hb z => by
  rcases List.mem_cons.mp (I.stkSub b z) with q | q
  ·exact absurd (Nat.lt_of_lt_of_le (Heap.lt_size e) I.ok.above) (by rw [q]; exact Nat.lt_irrefl _)
  ·exact hb q
 refine ⟨I.ok, I.os, I.bare, ⟨fun b o q n hb hx => stay b o (B.keep b o q n hb hx) (nst b o q hb) (nrs b o q), fun b o q n hb hx => ?_, fun b o q n hx => B.free b o q n hx, fun b o q hx => ?_, B.tups, B.frzs, B.tbls⟩, ?_, fun x c e => ?_, I.free, I.freeC, fun p hp => ?_, I.noteOk (fun b hb => (hrs b hb).2) stay, I.len⟩
 ·obtain ⟨sl, e1⟩ := B.slot b o q n hb hx
  obtain ⟨_, o', ho', hd⟩ := I.funs.mem hb
  rw [e1] at ho'; cases ho'
  obtain ⟨sl', e2⟩ := up b _ e1 hd
  exact ⟨sl', e2⟩
 ·obtain ⟨o', e1⟩ := B.there b o q hx
  by_cases hb : b ∈ frs X.stack
  ·obtain ⟨_, o2, ho2, hd⟩ := I.stack.mem hb
   obtain ⟨sl', e2⟩ := up b _ ho2 hd
   exact ⟨_, e2⟩
  ·exact ⟨o', stay b o' e1 hb (nrs b o q)⟩
 ·obtain ⟨m, hn, hl⟩ := I.loc
  refine ⟨m, up.ns hn, fun i x v e1 e2 e3 => ?_⟩
  obtain ⟨u, r, l⟩ := hl i x v e1 e2 e3
  refine ⟨u, r, ?_⟩
  rcases l with l | ⟨k, c, e, z⟩
  ·exact .inl l
  ·exact .inr ⟨k, c, e, cellK c _ z⟩
 ·obtain ⟨v, z⟩ := I.cell x c e
  exact ⟨v, cellK c v z⟩
 ·obtain ⟨e, n, ne, nf, d⟩ := I.pin p hp
  exact ⟨stay p.1 p.2 e (fun z => (List.mem_cons.mp (I.stkSub _ z)).elim ne nf) (hpin p hp), n, ne, nf, d⟩
theorem Inv.track {a : Addr} {o : HO} (I : Inv X pins σ H s) (hn : H a = none) (h0 : X.s₀.heap.get? a = none) (hL : a ≠ X.env.locals) (hc : ∀ x c, X.env.cells.lookup x = some c -> c ≠ a) (hp : ∀ p ∈ X.pn ++ pins, p.1 ≠ a)
 (new : ObjOk X.prog X.w (upd H a o) s.heap a o) : Inv X pins σ (upd H a o) s := by
 have B := I.base
 refine ⟨I.ok, I.os, I.bare, ⟨B.keep, B.slot, fun b ob q n hx => ?_, B.there, fun b xs q => ?_, fun b ob xs q => ?_, fun b ps q => ?_⟩, I.loc, I.cell, ?_, fun x c e => ?_, fun p hp' => ?_, fun b u e => ?_, I.len⟩
 ·have : b ≠ a := fun z => by rw [z, h0] at q; cases q
  rw [aj this]; exact B.free b ob q n hx
 ·have e := B.tups b xs q
  rw [aj (au e hn)]; exact e
 ·have e := B.frzs b ob xs q
  rw [aj (au e hn)]; exact e
 ·obtain ⟨m, e⟩ := B.tbls b ps q
  exact ⟨m, by rw [aj (au e hn)]; exact e⟩
 ·rw [aj (Ne.symm hL)]; exact I.free
 ·rw [aj (hc x c e)]; exact I.freeC x c e
 ·obtain ⟨e, n, ne, nf, d⟩ := I.pin p hp'
  exact ⟨e, by rw [aj (hp p hp')]; exact n, ne, nf, d⟩
 ·by_cases hb : b = a
  ·subst hb
   rw [ag] at e
   cases e
   exact new
  ·rw [aj hb] at e
   refine (I.hok b u e).stay (fun c v _ q => q) (fun c q => ?_) fun c xs q => ?_
   ·rw [aj (au q hn)]; exact q
   ·rw [aj (au q hn)]; exact q
theorem Cx.Ok.re (ok : X.Ok) (A' : Around) (hf : A'.frames = X.A.frames) (cm : Bool) (hh : cm = true -> A'.handled = none) (pn : List (Addr × Obj)) (xe : Value -> Shared -> Prop) : ({ X with A := A', calm := cm, pn := pn, xe := xe } : Cx).Ok :=
 ⟨ok.mod, ok.kind, ok.glob, ok.blt, ok.above, ok.inj, ok.has, ok.cab, hh, hf.trans ok.frames, ok.stk, ok.exf, ok.bs, ok.bsz, ok.noex, ok.exfs, ok.funs, ok.frf⟩
theorem Inv.toPn (I : Inv X pins σ H s) (xe : Value -> Shared -> Prop) : Inv { X with pn := X.pn ++ pins, xe := xe } [] σ H s :=
 ⟨I.ok.re X.A rfl X.calm I.ok.hd _ _, I.os, I.bare, I.base, I.loc, I.cell, I.free, I.freeC, fun p hp => I.pin p (by rw [List.append_nil] at hp; exact hp), I.hok, I.len⟩
theorem Inv.ofPn {xe : Value -> Shared -> Prop} {pins' : List (Addr × Obj)} (ok : X.Ok) (I : Inv { X with pn := X.pn ++ pins, xe := xe } pins' σ H s) : Inv X pins σ H s :=
 ⟨ok, I.os, I.bare, I.base, I.loc, I.cell, I.free, I.freeC, fun p hp => I.pin p (List.mem_append_left _ hp), I.hok, I.len⟩
abbrev Cx.caught (X : Cx) (e : Addr) : Cx := { X with A := X.A.mark (some (.ref e)), calm := false, pn := X.pn, xe := fun _ _ => False }
theorem Inv.toCaught (I : Inv X pins σ H s) (e : Addr) : Inv (X.caught e) pins σ H s :=
 ⟨I.ok.re (X.A.mark (some (.ref e))) rfl false (fun z => nomatch z) _ _, I.os, I.bare, I.base, I.loc, I.cell, I.free, I.freeC, I.pin, I.hok, I.len⟩
theorem Inv.ofCaught {e : Addr} (ok : X.Ok) (I : Inv (X.caught e) pins σ H s) : Inv X pins σ H s :=
 ⟨ok, I.os, I.bare, I.base, I.loc, I.cell, I.free, I.freeC, I.pin, I.hok, I.len⟩
theorem jM {M : Model} {A : Around} {E : Value -> Shared -> Prop} {i : Nat} {n : Str} {pos : Pos} {Q : Unit -> Shared -> Prop} (I : Inv X pins σ H s) (hN : X.N.Nodup) (hi : X.N[i]? = some n) (hk : X.env.kindOf n = some .local)
 (h : ∀ s', Inv X pins (σ.set i none) H s' -> Q () s') : wpAny M A (do bindName X.env n .none; unbindBehindTheSuite X.env n pos) Q E s := by
 obtain ⟨m, hn, hl⟩ := id I.loc
 have hcls : (X.env.scope.kind == .class || (X.env.scope.kind == .module && X.env.locals != X.env.globals)) = false := by rw [I.ok.kind]; rfl
 have cne := I.cne
 refine wpAny_nameGoes_keeps hk hn hcls fun h' v hn' hs => ?_
 obtain ⟨oL, _, _, hoL, _⟩ := id hn
 refine h _ ⟨I.ok, I.os, I.bare, ⟨fun b o e n hb hx => ?_, fun b o e n hb hx => ?_, I.base.free, fun b o e hx => ?_, I.base.tups, I.base.frzs, I.base.tbls⟩, ⟨_, hn', fun j y v' e1 e2 e3 => ?_⟩, fun y c e => ?_, I.free, I.freeC, fun p hp => ?_, fun b ob e => ?_, by simpa using I.len⟩
 ·exact (hs.2 b (Nat.ne_of_lt (Nat.lt_of_lt_of_le (Heap.lt_size e) I.ok.above))).trans (I.base.keep b o e n hb hx)
 ·obtain ⟨sl, e1⟩ := I.base.slot b o e n hb hx
  exact ⟨sl, (hs.2 b (Nat.ne_of_lt (Nat.lt_of_lt_of_le (Heap.lt_size e) I.ok.above))).trans e1⟩
 ·obtain ⟨o', e1⟩ := I.base.there b o e hx
  exact ⟨o', (hs.2 b (Nat.ne_of_lt (Nat.lt_of_lt_of_le (Heap.lt_size e) I.ok.above))).trans e1⟩
 ·by_cases hj : j = i
  ·subst hj
   rw [List.getElem?_set] at e2
   simp at e2
  ·rw [List.getElem?_set_ne (Ne.symm hj)] at e2
   obtain ⟨u', r', q⟩ := hl j y v' e1 e2 e3
   refine ⟨u', r', ?_⟩
   rcases q with ⟨k, e⟩ | ⟨k, c, e, z⟩
   ·refine .inl ⟨k, ?_⟩
    have : y ≠ n := fun e => hj (oX hN e1 (e ▸ hi))
    simp [this, e]
   ·exact .inr ⟨k, c, e, z.sameBut hs (cne y c e)⟩
 ·obtain ⟨w', z⟩ := I.cell y c e
  exact ⟨w', z.sameBut hs (cne y c e)⟩
 ·obtain ⟨e, n, ne, nf, d⟩ := I.pin p hp
  exact ⟨(hs.2 p.1 ne).trans e, n, ne, nf, d⟩
 ·refine (I.hok b ob e).stay (fun c w' hc q => (hs.2 c ?_).trans q) (fun _ q => q) fun _ _ q => q
  rintro rfl
  rcases hc with rfl | hc
  ·rw [I.free] at e; cases e
  ·rw [I.free] at hc; cases hc
end
theorem tL {M : Model} {A : Around} {E : Value -> Shared -> Prop} {s : Shared} {K : PySem.W.Frag} {e C D : Addr} {oe : Obj} {Q : Bool -> Shared -> Prop} (X : K.In s.heap) (he : s.heap.get? e = some oe) (hcls : oe.cls = .ref C)
 (hx : PySem.W.exmOne K (.ref C) (.ref D) = some true) (h : Q true s) : wpAny M A (excMatches (.ref e) (.ref D)) Q E s :=
 (PySem.W.exm_one (M := M) X (hcls ▸ (PySem.W.Looks.ld he).andThen .now) hx).here h
def mE (C : Value) (e : Addr) : HO := HO.ext fun h => ∃ o vs, h.get? e = some o /\ o.cls = C /\ o.data = .fields vs
def FW (K : PySem.W.Frag) (CH : Addr) (i : Nat) (tb : XKs -> TS) (th : TS) : TS := fun D σ H =>
 tb (fun σ' C _ H' => ∃ Ce, C = .ref Ce /\ PySem.W.exmOne K (.ref Ce) (.ref CH) = some true /\ ∀ e, H' e = none ->
  th { nx := fun σ2 H2 => D.nx (σ2.set i none) H2, rt := D.rt, bk := fun σ2 H2 => D.bk (σ2.set i none) H2, ct := fun σ2 H2 => D.ct (σ2.set i none) H2 } (σ'.set i (some (.ref e))) (upd H' e (mE (.ref Ce) e))) D σ H
theorem E7 {X : Cx} {CH : Addr} {i : Nat} {n x : Str} {np hpos pos : Pos} {body suite : List Stmt} {b₀ : Stmt} {tb : XKs -> TS} {th : TS} (hN : X.N.Nodup) (hi : X.N[i]? = some n) (hk : X.env.kindOf n = some .local)
 (hg : Gl X x) (hm : X.mg x = some (.ref CH))
 (hex : X.ex = []) (hst : X.stack = X.env :: X.outer) (hfr : X.env.frame = some X.env.locals)
 (hb : ∀ (pn : List (Addr × Obj)) (Ee : Value -> Shared -> Prop) (Ex : XKs), eW (XE X.prog X.w) { X with pn := pn, xe := Ee } Ex -> PSs { X with pn := pn, xe := Ee } body (tb Ex))
 (hh : ∀ e : Addr, PSs (X.caught e) (b₀ :: suite) th) (hdb : (x == ("__debug__" : Str)) = false := by decide) :
 PS X (.Try body [.ExceptHandler (some (.Name x np)) (some n) (b₀ :: suite) hpos] [] [] pos) (FW X.K CH i tb th) := by
 intro pins s σ H D I h
 refine wpAny_Try_except ?_
 have ok := I.ok
 refine wpAny_mono (hb (X.pn ++ pins) _ _ ?hP [] s σ H D (I.toPn _) h) (fun f s1 hf => ?_) (fun _ _ z => z)
 case hP =>
  intro pins' σ' H1 s1 ev s1' I1 hq
  obtain ⟨e, C, rs, H', rfl, os, bare, un, hok, hrs, ⟨her, a0, fl⟩, ⟨Ce, rfl, hmro, hth⟩⟩ := hq
  have J1 := I1.call' os un hok bare (fun b z => nomatch z)
  have J : Inv X pins σ' H' s1' := J1.ofPn ok
  have I0 : Inv X pins σ' H1 s1 := I1.ofPn ok
  have hn0 : ∀ b ∈ rs, X.s₀.heap.get? b = none /\ H' b = none := fun b hb => by
   refine ⟨?_, (hrs b hb).2⟩
   cases q : X.s₀.heap.get? b with
   | none => rfl
   | some o =>
    obtain ⟨o', z⟩ := I0.base.there b o q (by rw [hex]; simp)
    rw [(hrs b hb).1] at z; cases z
  have hpin : ∀ p ∈ X.pn ++ pins, p.1 ∉ rs := fun p hp z => by
   have := (I0.pin p hp).1
   rw [(hrs _ z).1] at this; cases this
  have hstk : s1'.heap.FunFrames X.base (X.env :: X.outer) := by rw [<- hst]; exact J.stack
  rw [show X.stack = X.env :: X.outer from hst] at fl
  have hfrm : X.A.frames = some (X.env :: X.outer) := by rw [<- hst]; exact ok.frames
  show wpAny (model X.prog X.w) X.A (noteFrame (.ref e) X.env) _ _ s1'
  refine wpAny_looks_onW (base := hid s1'.heap (X.env :: X.outer) rs) hfrm hfr fl fun h₄ held up4 => ?_
  refine wpAny_landsW held fun h₅ fl5 up5 => ?_
  have nin : ∀ b, b ∉ frs X.stack -> b ∉ frs (X.env :: X.outer) := fun b hb => by rw [<- hst]; exact hb
  have stay5 : ∀ b o, s1'.heap.get? b = some o -> b ∉ frs X.stack -> b ∉ rs -> h₅.get? b = some o := fun b o z hb hr => fl5.1 b o (mB z (nin b hb) hr)
  have I5 : Inv X pins σ' H' { s1' with heap := h₅, toks := s1'.toks } := J.noted hn0 hpin stay5 (up4.trans up5)
  obtain ⟨ob, hob, hobc⟩ := fl5.there
  refine wpAny_handleBy_cons (codeAny_handlers_test (jQ (X := X.caught e) (I5.toCaught e) hg hm (tL I5.kIn hob hobc hmro ?_) hdb)) (by intro q; cases q)
  refine codeAny_handlers_suite_as (lands_againW fl5 fun h₆ fl6 up6 => ?_)
  have stay6 : ∀ b o, s1'.heap.get? b = some o -> b ∉ frs X.stack -> b ∉ rs -> h₆.get? b = some o := fun b o z hb hr => fl6.1 b o (mB z (nin b hb) hr)
  have I6 : Inv X pins σ' H' { s1' with heap := h₆, toks := s1'.toks } := J.noted hn0 hpin stay6 ((up4.trans up5).trans up6)
  have e1 : s1.heap.get? e = none := (hrs e her).1
  obtain ⟨oe, vs, hoe, hoec, hoed, _⟩ := fl6.first
  have I6' : Inv X pins σ' (upd H' e (mE (.ref Ce) e)) { s1' with heap := h₆, toks := s1'.toks } := by
   refine I6.track (hrs e her).2 (hn0 e her).1 ?_ ?_ (fun p hp z => hpin p hp (by rw [z]; exact her)) ?_
   ·intro z
    obtain ⟨m, ⟨oL, _, _, hoL, _⟩, _⟩ := I0.loc
    rw [<- z, e1] at hoL; cases hoL
   ·intro x c hc z
    obtain ⟨v, o, ho, _⟩ := I0.cell x c hc
    rw [z, e1] at ho; cases ho
   ·exact ⟨⟨oe, vs, hoe, hoec, hoed⟩, ⟨oe, hoe⟩, fun h1 h2 ⟨o, ws, a1, a2, a3⟩ k => ⟨o, ws, k o a1, a2, a3⟩⟩
  refine qx (X := X.caught e) (I6'.toCaught e) hN hi (Or.inl hk) (v := .ref e) rfl (fun s7 I7 => ?_) (.inr hk)
  refine wpAny_mono (hh e pins s7 _ _ _ I7 (hth e (hrs e her).2)) (fun f s8 hf => ?_) (fun _ _ z => z.elim)
  show wpAny (model X.prog X.w) X.A (do bindName X.env n .none; unbindBehindTheSuite X.env n hpos) (fun _ s₃ => SP X pins D f s₃) X.xe s8
  cases f with
  | next =>
   obtain ⟨σ2, H2, J2, q⟩ := hf
   exact jM (J2.ofCaught ok) hN hi hk fun s9 I9 => ⟨_, _, I9, q⟩
  | brk =>
   obtain ⟨σ2, H2, J2, q⟩ := hf
   exact jM (J2.ofCaught ok) hN hi hk fun s9 I9 => ⟨_, _, I9, q⟩
  | cont =>
   obtain ⟨σ2, H2, J2, q⟩ := hf
   exact jM (J2.ofCaught ok) hN hi hk fun s9 I9 => ⟨_, _, I9, q⟩
  | ret u =>
   obtain ⟨v, σ2, H2, J2, r, q⟩ := hf
   exact jM (J2.ofCaught ok) hN hi hk fun s9 I9 => ⟨v, _, _, I9, r, q⟩
 cases f with
 | next =>
  obtain ⟨σ', H', J, q⟩ := hf
  exact wpAny_execs_nil ⟨σ', H', J.ofPn ok, q⟩
 | brk =>
  obtain ⟨σ', H', J, q⟩ := hf
  exact ⟨σ', H', J.ofPn ok, q⟩
 | cont =>
  obtain ⟨σ', H', J, q⟩ := hf
  exact ⟨σ', H', J.ofPn ok, q⟩
 | ret u =>
  obtain ⟨v, σ', H', J, r, q⟩ := hf
  exact ⟨v, σ', H', J.ofPn ok, r, q⟩
end L2
namespace L2
open PySem PySem.Spec PyProof.Rows PySem.W
inductive zp : V -> Value -> Prop where
 | ty (n : String) : zp (.ty n) (.type n)
 | own (a : Addr) : zp (.ref a) (.ref a)
section
variable {X : Cx}
theorem uM : CallR X (.builtin "isinstance") (fun xs H Q => ∃ x c t u b, xs = [x, c] /\ zp c u /\ kg X.K H x t /\ PySem.W.kitOne X.K t u = some b /\ Q (.bl b) H) := by
 intro pins s σ H xs us Q I r h
 obtain ⟨x, c, t, u, b, rfl, rc, ty, e, q⟩ := h
 obtain ⟨ux, uc, rfl, rx, rc'⟩ := x_ r
 have ec : uc = u := by
  cases rc with
  | ty n => exact rc'
  | own a => exact rc'
 subst ec
 exact zJ I rx ty e fun tk => ⟨.bl b, H, I.tok _, rfl, q⟩
end
structure gH (K : Frag) (C : Addr) : Prop where
 l1 : findIn K (.ref C) "__getattribute__" = some (some (.builtin "BaseException.__getattribute__"))
 l2 : findIn K (.ref C) "__getattr__" = some none
 l3 : findIn K (.ref C) "__class__" = some (some (.builtin "object.__class__"))
 c1 : (clsIn K C).isSome = true
 m1 : mroIn K C (.type "object") = some true
 m2 : mroIn K C (.type "BaseException") = some true
section
variable {prog : Program} {w : World} {A : Around} {E : Value -> Shared -> Prop} {K : Frag} {e C : Addr} {o : Obj} {s : Shared}
open Builtin Builtin.ObjectAttr Builtin.Getset_descriptor PySem.Calls in
theorem ro {R : Result -> Shared -> Prop} {tp : Value} (X : K.In s.heap) (Z : gH K C) (hx : s.heap.get? e = some o) (hc : o.cls = .ref C)
 (h : R (.ok (.ret (.ref C))) s) : codeAny (model prog w) A (.call (.builtin "getset_descriptor.__get__") ⟨[.builtin "object.__class__", .ref e, tp], []⟩) R s := by
 obtain ⟨hh, g, dr, t, os⟩ := s
 have L0 : Looks (model prog w) hh (typeOf (.ref e)) (.ref C) := hc ▸ (Looks.ld hx).andThen .now
 have L1 := looks_mroIn (M := model prog w) X Z.m1
 refine codeAny_call_builtin KF.slot_gs.plain KF.entry_gs (KF.slot_gs.check _ _ _ _ _ _ _ _ KF.type_class (KF.args_gs _ _ _) ?_)
 unfold Builtin.«getset_descriptor.__get__» descrGet
 rw [dga_obj]
 refine wpAny_bind (wpAny_pure ?_)
 unfold descrGetter descrCheckInstance descrNameAndClass isInstance
 simp only [KF.owner_class]
 repeat lk
 refine ⟨Code.quiet_builtin _ (by decide +kernel), codeAny_builtin KF.entry_class ?_⟩
 unfold Builtin.«object.__class__» shownTypeOf
 repeat lk
 exact h
theorem tQ {M : Model} {nameV : Value} {Q : Unit -> Shared -> Prop} (X : K.In s.heap) (Z : gH K C) (hx : s.heap.get? e = some o) (hc : o.cls = .ref C) (hq : Q () s) :
 wpAny M A (checkBuiltinCall "BaseException.__getattribute__" ⟨[.ref e, nameV], []⟩) Q E s := by
 have hk : builtinKind "BaseException.__getattribute__" = some .slot := by decide +kernel
 have hsplit : splitId "BaseException.__getattribute__" = some ("BaseException", "__getattribute__") := by decide +kernel
 have ha := F.args_bexc_ga (.ref e) nameV
 obtain ⟨hh, g, dr, t, os⟩ := s
 have L0 : Looks M hh (typeOf (.ref e)) (.ref C) := hc ▸ (Looks.ld hx).andThen .now
 have L1 := looks_mroIn (M := M) X Z.m2
 have LI : Looks M hh (isInstance (.ref e) (.type "BaseException")) true := L0.andThen L1
 simp only [checkBuiltinCall, hk, hsplit]
 refine wpAny_bind (LI.at ?_)
 repeat (first | assumption | wp_step)
theorem sT {tk : Tok} {Q : Fin -> Shared -> Prop} (X : K.In s.heap) (Z : gH K C) (hx : s.heap.get? e = some o) (hc : o.cls = .ref C) (hq : Q (.done (.ret (.ref C))) s) :
 wpAny (model prog w) A (Builtin.«object.__getattribute__» ⟨[.ref e, .str "__class__" tk], []⟩) Q E s := by
 obtain ⟨hh, g, dr, t, os⟩ := s
 have L0 : Looks (model prog w) hh (typeOf (.ref e)) (.ref C) := hc ▸ (Looks.ld hx).andThen .now
 have L3 := looks_findIn (M := model prog w) X Z.l3
 have f5 := KF.type_class
 have f6 := F.slot_gs_get.lookup
 have f7 := F.slot_gs_set.lookup
 repeat (any_goals (first | assumption | with_reducible refine L0.at ?_ | with_reducible refine L3.at ?_ | wp_step))
 refine ro X Z hx hc ?_
 repeat (any_goals (first | assumption | wp_step))
theorem qI {Q : Option Value -> Shared -> Prop} (X : K.In s.heap) (Z : gH K C) (hx : s.heap.get? e = some o) (hc : o.cls = .ref C) (h : Q (some (.ref C)) { s with toks := s.toks + 1 }) :
 wpAny (model prog w) A (getAttr? (.ref e) "__class__") Q E s := by
 obtain ⟨hh, g, dr, t, os⟩ := s
 have L0 : Looks (model prog w) hh (typeOf (.ref e)) (.ref C) := hc ▸ (Looks.ld hx).andThen .now
 have L1 := looks_findIn (M := model prog w) X Z.l1
 have L2 := looks_findIn (M := model prog w) X Z.l2
 have f3 := F.excAttr_ValueError.ga.bind (.ref e)
 have hx2 : (Value.builtin "BaseException.__getattribute__" == Value.builtin "object.__getattribute__") = false := by decide +kernel
 have hx0 : ∀ ex : Bool, (ex && onTheHeap (Value.builtin "BaseException.__getattribute__")) = false := fun ex => by cases ex <;> rfl
 have hx1 : (onTheHeap (Value.ref C) && Value.builtin "BaseException.__getattribute__" == Value.builtin "object.__getattribute__") = false := by rw [hx2]; rfl
 unfold getAttr?
 repeat (any_goals (first | assumption | with_reducible refine L0.at ?_ | with_reducible refine L1.at ?_ | with_reducible refine L2.at ?_ | wp_step))
 refine codeAny_call_builtin F.excAttr_ValueError.ga.plain F.entry_bexc_ga (tQ X Z hx hc (sT X Z hx hc ?_))
 repeat (any_goals (first | assumption | wp_step))
theorem At (Z : gH K C) : KitX K (.ref e) (.ref C) (fun h => ∃ o, h.get? e = some o /\ o.cls = .ref C) where
 ty := fun M h _ ⟨o, h1, h2⟩ => h2 ▸ (Looks.ld h1).andThen .now
 it := fun M h X _ => by
  have c1 := Z.c1
  unfold clsIn at c1
  split at c1
  ·rename_i c' d' cd' sl' ho
   intro A' Q' E' s' k q
   unfold isType loadHead
   exact wpAny_bind (wpAny_loadPart (k _ _ (X _ _ ho)) (wpAny_pure q))
  ·cases c1
 ne := fun h tp dd its n sl X htp => by
  refine Bool.eq_false_iff.mpr fun q => ?_
  have e' : C = tp := Value.ref.inj (beq_iff_eq.mp q)
  subst e'
  have c1 := Z.c1
  unfold clsIn at c1
  split at c1
  ·rename_i c' d' cd' sl' ho
   have z := (X _ _ ho).symm.trans htp
   cases z
  ·cases c1
 ca := fun X ⟨o, h1, h2⟩ k => qI X Z h1 h2 k
end
section
variable {X : Cx}
theorem tM : CallR X (.builtin "isinstance") (fun xs H Q => ∃ e c C u b, xs = [.ref e, c] /\ zp c u /\ H e = some (mE (.ref C) e) /\ gH X.K C /\ PySem.W.kitOne X.K (.ref C) u = some b /\ Q (.bl b) H) := by
 intro pins s σ H xs us Q I r h
 obtain ⟨e, c, C, u, b, rfl, rc, he, Z, k, q⟩ := h
 obtain ⟨ux, uc, rfl, rx, rc'⟩ := x_ r
 have ec : uc = u := by
  cases rc with
  | ty n => exact rc'
  | own a => exact rc'
 subst ec
 cases (show ux = Value.ref e from rx)
 obtain ⟨⟨o, vs, h1, h2, _⟩, _, _⟩ := (show ObjOk X.prog X.w H s.heap e (mE (.ref C) e) from I.hok e _ he)
 exact kia_one (At Z) I.kIn ⟨o, h1, h2⟩ k (fun z => nomatch z) fun tk => ⟨.bl b, H, I.tok _, rfl, q⟩
theorem sP (hc : X.calm = true) : CallR X (.builtin "sum") (fun xs H Q => ∃ (p : Addr) (ns : List Int), xs = [.ref p] /\ SqT X.K H p (ns.map V.int) /\ Q (.int ns.sum) H) := by
 intro pins s σ H xs us Q I r h
 obtain ⟨p, ns, rfl, hq, q⟩ := h
 obtain ⟨u, rfl, rx⟩ := gs r
 cases (show u = Value.ref p from rx)
 obtain ⟨its, r', pl, hz⟩ := I.tuple hq
 have hi := pe r'
 obtain ⟨ys, hy⟩ := hi.allInts.items
 have hn : numsOf its.toArray.toList = ns := by rw [show its.toArray.toList = its from rfl, hi.numsOf]
 rw [hy] at pl hn
 rw [nums_intItems] at hn
 refine ktm_sumG (I.ok.hd hc) pl fun h' tk t' hk => ?_
 rw [preSum_eq, List.take_of_length_le (by simp), hn]
 exact ⟨.int ns.sum, H, I.kept hk, ⟨_, rfl⟩, q⟩
end
end L2
namespace L2
open PySem PySem.Spec PyProof.Rows
section
variable {X : Cx} {a b : Expr} {ta : TE}
def Fb (xs ys : List V) : Bool := (List.range (min xs.length ys.length)).all (fun j => eqV (xs.getD j .non) (ys.getD j .non)) && xs.length == ys.length
def Cb (K : PySem.W.Frag) (neg : Bool) : R2 := fun x y H Q => ∃ p p' xs ys, x = .ref p /\ y = .ref p' /\ SqT K H p xs /\ SqT K H p' ys /\ xs.all fw = true /\ ys.all fw = true /\ Q (.bl (neg ^^ Fb xs ys)) H
theorem pH {A : Around} {s : Shared} {xs ys : List V} {us vs : List Value} (r : Vals xs us) (r' : Vals ys vs) (fx : xs.all fw = true) (fy : ys.all fw = true) (j : Nat) (h1 : j < us.toArray.size) (h2 : j < vs.toArray.size) :
 SeqAt.EqAt A s us.toArray[j] vs.toArray[j] (eqV (xs.getD j .non) (ys.getD j .non)) := by
 have e1 : us[j]? = some us.toArray[j] := by simp at h1; simp [h1]
 have e2 : vs[j]? = some vs.toArray[j] := by simp at h2; simp [h2]
 have l1 : j < xs.length := by rw [r.length]; simpa using h1
 have l2 : j < ys.length := by rw [r'.length]; simpa using h2
 have g1 : xs[j]? = some (xs.getD j .non) := by simp [List.getD, l1]
 have g2 : ys[j]? = some (ys.getD j .non) := by simp [List.getD, l2]
 obtain ⟨u, hu, ru⟩ := r.get g1
 obtain ⟨v, hv, rv⟩ := r'.get g2
 rw [e1] at hu
 rw [e2] at hv
 rw [Option.some.inj hu, Option.some.inj hv]
 exact w8 ru rv (List.all_eq_true.mp fx _ (List.mem_of_getElem? g1)) (List.all_eq_true.mp fy _ (List.mem_of_getElem? g2))
theorem Ec (hu : X.A.units < cLine) : OpR X (compareOp .Eq) (Cb X.K false) := by
 intro pins s σ H x y v u Q I rx ry h
 obtain ⟨p, p', xs, ys, rfl, rfl, hx, hy, fx, fy, q⟩ := h
 cases (show v = Value.ref p from rx)
 cases (show u = Value.ref p' from ry)
 obtain ⟨its, r, pl, hz⟩ := I.tuple hx
 obtain ⟨its', r', pl', hz'⟩ := I.tuple hy
 refine SeqAt.eq_tupleAt pl pl' hu (fun j h1 h2 => pH r r' fx fy j h1 h2) ⟨.bl _, H, I, rfl, ?_⟩
 rw [List.size_toArray, List.size_toArray, <- r.length, <- r'.length]
 simpa [Fb] using q
theorem EJ (hu : X.A.units < cLine) : OpR X (compareOp .NotEq) (Cb X.K true) := by
 intro pins s σ H x y v u Q I rx ry h
 obtain ⟨p, p', xs, ys, rfl, rfl, hx, hy, fx, fy, q⟩ := h
 cases (show v = Value.ref p from rx)
 cases (show u = Value.ref p' from ry)
 obtain ⟨its, r, pl, hz⟩ := I.tuple hx
 obtain ⟨its', r', pl', hz'⟩ := I.tuple hy
 refine SeqAt.RcNeAt.tuples pl pl' hu (fun j h1 h2 => pH r r' fx fy j h1 h2) X.prog X.w X.xe _ ⟨.bl _, H, I, rfl, ?_⟩
 rw [List.size_toArray, List.size_toArray, <- r.length, <- r'.length]
 simpa [Fb] using q
theorem D2 (hu : X.A.units < cLine) : OpR X (compareOp .Eq) (fun x y H Q => rEq x y H Q \/ Cb X.K false x y H Q) := F3.or (Ec hu)
theorem ER (hu : X.A.units < cLine) : OpR X (compareOp .NotEq) (fun x y H Q => rNe x y H Q \/ Cb X.K true x y H Q) := Fs.or (EJ hu)
theorem zG : CallR X (.builtin "isinstance") (fun xs H Q => (∃ x c t u b, xs = [x, c] /\ zp c u /\ kg X.K H x t /\ PySem.W.kitOne X.K t u = some b /\ Q (.bl b) H) \/
 ∃ e c C u b, xs = [.ref e, c] /\ zp c u /\ H e = some (mE (.ref C) e) /\ gH X.K C /\ PySem.W.kitOne X.K (.ref C) u = some b /\ Q (.bl b) H) := uM.or tM
theorem RelV.bool_iff {x : V} {v : Value} {k : Bool} (r : RelV x v) : (v == Value.bool k) = decide (x = .bl k) := by
 cases x with
 | non => cases (show v = Value.none from r); rfl
 | bl c => cases (show v = Value.bool c from r); cases c <;> cases k <;> rfl
 | int _ => obtain ⟨t, rfl⟩ := r; rfl
 | str _ => obtain ⟨t, rfl⟩ := r; rfl
 | byt _ => obtain ⟨t, rfl⟩ := r; rfl
 | flt _ => obtain ⟨t, rfl⟩ := r; rfl
 | ref p => cases (show v = Value.ref p from r); rfl
 | ty n => cases (show v = Value.type n from r); rfl
theorem u6 {x : V} {v : Value} {k : Bool} (r : RelV x v) : plainIs v (.bool k) = true := by
 cases x with
 | non => cases (show v = Value.none from r); rfl
 | bl c => cases (show v = Value.bool c from r); rfl
 | int _ => obtain ⟨t, rfl⟩ := r; rfl
 | str _ => obtain ⟨t, rfl⟩ := r; rfl
 | byt _ => obtain ⟨t, rfl⟩ := r; rfl
 | flt _ => obtain ⟨t, rfl⟩ := r; rfl
 | ref p => cases (show v = Value.ref p from r); rfl
 | ty n => cases (show v = Value.type n from r); rfl
def F9 (neg k : Bool) (ta : TE) : TE := fun σ H Q => ta σ H fun x H1 => Q (.bl (neg ^^ decide (x = .bl k))) H1
theorem CL {k : Bool} {j pos'} (ha : PE X a ta) : PC X .IsNot a (.Constant (.bool k) j pos') (F9 true k ta) := by
 intro pins s σ H Q I h
 refine thn (ha pins s σ H _ I h) fun v s1 ⟨x, H1, I1, r1, q1⟩ => ?_
 exact Constant_bool (wpAny_isNot_plain (u6 r1) ⟨.bl _, H1, I1, by rw [r1.bool_iff, Bool.true_xor]; rfl, q1⟩)
end
end L2
namespace L2
open PySem PySem.Spec PyProof.Rows
abbrev T (l : List Nat) : V := .str ⟨⟨l⟩⟩
def cs (x : Str) : List Nat := x.cps.toList
theorem GJ (x : Str) : V.str x = T (cs x) := rfl
section
variable {X : Cx} {e a b c : Expr} {pos : Pos}
theorem PE.imp {t t' : TE} (h : PE X e t) (i : ∀ σ H Q, t' σ H Q -> t σ H Q) : PE X e t' := fun pins s σ H Q I q => h pins s σ H Q I (i σ H Q q)
theorem OpR.imp {f : Value -> Value -> Sem Value} {r r' : R2} (h : OpR X f r) (i : ∀ x y H Q, r' x y H Q -> r x y H Q) : OpR X f r' := fun pins s σ H x y v u Q I rx ry q => h pins s σ H x y v u Q I rx ry (i _ _ _ _ q)
theorem UnR.imp {f : Value -> Sem Value} {r r' : V -> Hp -> VK -> Prop} (h : UnR X f r) (i : ∀ x H Q, r' x H Q -> r x H Q) : UnR X f r' := fun pins s σ H x v Q I rx q => h pins s σ H x v Q I rx (i _ _ _ q)
theorem CallR.imp {f : Value} {r r' : List V -> Hp -> VK -> Prop} (h : CallR X f r) (i : ∀ x H Q, r' x H Q -> r x H Q) : CallR X f r' := fun pins s σ H x v Q I rx q => h pins s σ H x v Q I rx (i _ _ _ q)
theorem IxR.imp {r r' : R2} (h : IxR X r) (i : ∀ x y H Q, r' x y H Q -> r x y H Q) : IxR X r' := fun va sl pins s σ H x y v u Q I rx ry q hs => h va sl pins s σ H x y v u Q I rx ry (i _ _ _ _ q) hs
def o6 (i : Nat) : TE := fun σ H Q => match σ[i]? with
 | some (some v) => Q v H
 | _ => False
theorem fv (i : Nat) {x : Str} (hN : X.N[i]? = some x := by rfl) (hv : Vis X.env.scope x := by first | exact Or.inl rfl | exact Or.inr (Or.inl rfl) | exact Or.inr (Or.inr rfl)) (hd : (x == ("__debug__" : Str)) = false := by decide)
 (hcd : (x == ("__classdict__" : Str)) = false := by decide) : PE X (.Name x pos) (o6 i) := (DP hN hv hd hcd).imp fun σ H Q h => by
 unfold o6 at h
 split at h
 ·exact ⟨_, by assumption, h⟩
 ·exact h.elim
theorem aK {x : Str} {j} (l : List Nat) (h : x = ⟨⟨l⟩⟩ := by decide +kernel) : PE X (.Constant (.str x) j pos) (tC (T l)) := h ▸ DW
def Dc : R2
 | .int i, .int j, H, Q => Q (.int (i + j)) H
 | .str i, .str j, H, Q => (cs i).length + (cs j).length <= sizeLine /\ Q (T (cs i ++ cs j)) H
 | _, _, _, _ => False
theorem Fl (i j : Str) : V.str (i ++ j) = T (cs i ++ cs j) := by
 show V.str ⟨i.cps ++ j.cps⟩ = V.str ⟨⟨i.cps.toList ++ j.cps.toList⟩⟩
 congr 1
 congr 1
 exact (Array.ext' (by simp))
theorem aI : OpR X (binaryOp .Add) Dc := (Em.or wP).imp fun x y H Q h => by
 unfold Dc at h
 split at h
 ·exact .inl ⟨_, _, rfl, rfl, h⟩
 ·refine .inr ⟨_, _, rfl, rfl, by simpa [cs, Str.length] using h.1, ?_⟩
  rw [Fl]; exact h.2
 ·exact h.elim
def gI (g : Int -> Int -> V) : R2
 | .int i, .int j, H, Q => Q (g i j) H
 | _, _, _, _ => False
def gIC (C : Int -> Int -> Prop) (g : Int -> Int -> V) : R2
 | .int i, .int j, H, Q => C i j /\ Q (g i j) H
 | _, _, _, _ => False
theorem Dk {g : Int -> Int -> V} : ∀ x y H Q, gI g x y H Q -> rI0 g x y H Q := fun x y H Q h => by
 unfold gI at h; split at h
 ·exact ⟨_, _, rfl, rfl, h⟩
 ·exact h.elim
theorem uj {C : Int -> Int -> Prop} {g : Int -> Int -> V} : ∀ x y H Q, gIC C g x y H Q -> rI C g x y H Q := fun x y H Q h => by
 unfold gIC at h; split at h
 ·exact ⟨_, _, rfl, rfl, h.1, h.2⟩
 ·exact h.elim
theorem dP : OpR X (binaryOp .Sub) (gI fun i j => .int (i - j)) := Fg.imp Dk
theorem iE : OpR X (binaryOp .Mult) (gIC CMul fun i j => .int (i * j)) := Fi.imp uj
theorem aV : OpR X (binaryOp .Mod) (gIC (fun _ j => 0 < j) fun i j => .int (i % j)) := Ed.imp uj
theorem a9 : OpR X (binaryOp .FloorDiv) (gIC E9 fun i j => .int (i / j)) := Db.imp uj
theorem Bv : OpR X (binaryOp .Pow) (gIC D9 fun i j => .int (i ^ j.toNat)) := EQ.imp uj
def E1 : V -> Hp -> VK -> Prop
 | .int i, H, Q => Q (.int (-i)) H
 | _, _, _ => False
theorem xf : UnR X (unaryOp .USub) E1 := DQ.imp fun x H Q h => by
 unfold E1 at h; split at h
 ·exact ⟨_, rfl, h⟩
 ·exact h.elim
def leN (a b : List Nat) : Bool := !decide (b < a)
theorem zv : OpR X (compareOp .LtE) (fun x y H Q => ∃ i j, x = .str i /\ y = .str j /\ Q (.bl (leN (cs i) (cs j))) H) := by
 intro pins s σ H x y v u Q I rx ry h
 obtain ⟨i, j, rfl, rfl, q⟩ := h
 obtain ⟨t, rfl⟩ := rx
 obtain ⟨t', rfl⟩ := ry
 exact PySem.P.le_str ⟨.bl _, H, I, rfl, q⟩
def gLe : R2
 | .int i, .int j, H, Q => Q (.bl (decide (i <= j))) H
 | .str i, .str j, H, Q => Q (.bl (leN (cs i) (cs j))) H
 | _, _, _, _ => False
theorem fQ : OpR X (compareOp .LtE) gLe := (FM.or zv).imp fun x y H Q h => by
 unfold gLe at h; split at h
 ·exact .inl ⟨_, _, rfl, rfl, h⟩
 ·exact .inr ⟨_, _, rfl, rfl, h⟩
 ·exact h.elim
def gLt : R2
 | .int i, .int j, H, Q => Q (.bl (decide (i < j))) H
 | .str i, .str j, H, Q => Q (.bl (decide (cs i < cs j))) H
 | _, _, _, _ => False
theorem yi : OpR X (compareOp .Lt) gLt := (FC.or zC).imp fun x y H Q h => by
 unfold gLt at h; split at h
 ·exact .inl ⟨_, _, rfl, rfl, h⟩
 ·exact .inr ⟨_, _, rfl, rfl, h⟩
 ·exact h.elim
theorem xW : OpR X (compareOp .Gt) (gI fun i j => .bl (decide (j < i))) := Fw.imp Dk
def eqS : V -> V -> Option Bool
 | .int i, .int j => some (decide (i = j))
 | .bl i, .bl j => some (decide (i = j))
 | .str i, .str j => some (decide (cs i = cs j))
 | .non, .non => some true
 | .non, .int _ => some false | .int _, .non => some false | .non, .bl _ => some false | .bl _, .non => some false | .non, .str _ => some false | .str _, .non => some false
 | .int _, .str _ => some false | .str _, .int _ => some false | .bl _, .str _ => some false | .str _, .bl _ => some false
 | _, _ => none
theorem wZ (i j : Str) : V.str i = V.str j ↔ cs i = cs j := by
 constructor
 ·intro h; injection h with h; rw [h]
 ·intro h
  congr 1
  obtain ⟨⟨a⟩⟩ := i
  obtain ⟨⟨b⟩⟩ := j
  have h' : a = b := h
  rw [h']
theorem vE {x y : V} {k : Bool} (h : eqS x y = some k) : E4 x y = true /\ decide (x = y) = k := by
 unfold eqS at h
 split at h <;> (first | cases h) <;> refine ⟨rfl, ?_⟩
 case h_1 i j => exact decide_eq_decide.mpr (by simp)
 case h_2 i j => exact decide_eq_decide.mpr (by simp)
 case h_3 i j => exact decide_eq_decide.mpr (wZ i j)
 all_goals simp
variable {ta tb tc : TE} {rest : List Expr}
def kB (Q : Bool -> Hp -> Prop) : VK := fun x H => match x with
 | .bl k => Q k H
 | _ => False
def xT (t : TE) : TT := fun σ H Q => t σ H (kB Q)
theorem pq {Q : Bool -> Hp -> Prop} {x : V} {H : Hp} (h : kB Q x H) : ∃ k, x = .bl k /\ Q k H := by
 unfold kB at h
 split at h
 ·exact ⟨_, rfl, h⟩
 ·exact h.elim
theorem bo {op : CmpOp} {r : R2} (ho : OpR X (compareOp op) r) (ha : PE X a ta) (hb : PE X b tb) (hm : behindInMarks op b = false) : PT X (.Compare a [op] [b] pos) (xT (tOp r ta tb)) := by
 intro pins s σ H Q I h
 refine wpAny_isTrue_Compare1 (thn (ha pins s σ H _ I h) fun v s1 ⟨x, H1, I1, r1, q1⟩ => thn (hb pins s1 σ H1 _ I1 q1) fun u s2 ⟨y, H2, I2, r2, q2⟩ =>
  thn (ho pins s2 σ H2 x y v u _ I2 r1 r2 q2) fun c s3 ⟨z, H3, I3, r3, q3⟩ => ?_) hm
 obtain ⟨k, e, q3⟩ := pq q3
 subst e
 cases r3
 exact wpAny_truthy_bool ⟨H3, I3, q3⟩
theorem nX {op : CmpOp} {t : TE} (h : PC X op a b t) (h1 : behindInMarks op b = false := by first | exact vT _ (by decide) (by decide) | rfl) : PT X (.Compare a [op] [b] pos) (xT t) := by
 intro pins s σ H Q I hw
 refine wpAny_isTrue_Compare1 (thn (h pins s σ H _ I hw) fun v s1 h1 => thn h1 fun u s2 h2 => thn h2 fun c s3 ⟨x, H1, I1, r1, q1⟩ => ?_) h1
 obtain ⟨d, rfl, q⟩ := pq q1
 cases r1
 exact wpAny_truthy_bool ⟨H1, I1, q⟩
theorem cT {t : TE} (h : PE X e t) (he : ∀ whole, isTrue e X.env whole = (do let v <- whole; standAt e.pos; holding [v] (truthy v)) := by intro _; rfl) : PT X e (xT t) := by
 intro pins s σ H Q I hw
 refine isTrue_plain (thn (h pins s σ H _ I hw) fun v s1 ⟨x, H1, I1, r1, q1⟩ => ?_) (he _)
 obtain ⟨d, rfl, q⟩ := pq q1
 cases r1
 exact wpAny_truthy_bool ⟨H1, I1, q⟩
def BM (r r' : R2) (ta tb tc : TE) : TE := fun σ H Q => ta σ H fun x H1 => tb σ H1 fun y H2 => r x y H2 (kB fun k H3 => if k = true then tc σ H3 fun w' H4 => r' y w' H4 Q else Q (.bl false) H3)
theorem lG {op op' : CmpOp} {r r' : R2} (ho : OpR X (compareOp op) r) (ho' : OpR X (compareOp op') r') (ha : PE X a ta) (hb : PE X b tb) (hc : PE X c tc)
 (hm : lastMarks [op, op'] [b, c] = false := by with_unfolding_all rfl) : PE X (.Compare a [op, op'] [b, c] pos) (BM r r' ta tb tc) := by
 intro pins s σ H Q I h
 refine Compare_chain (thn (ha pins s σ H _ I h) fun v s1 ⟨x, H1, I1, r1, q1⟩ => chain_link (thn (hb pins s1 σ H1 _ I1 q1) fun u s2 ⟨y, H2, I2, r2, q2⟩ =>
  thn (ho pins s2 σ H2 x y v u _ I2 r1 r2 q2) fun d s3 ⟨z, H3, I3, r3, q3⟩ => ?_)) hm
 obtain ⟨k, e, q3⟩ := pq q3
 subst e
 cases r3
 refine wpAny_truthy_bool ?_
 cases k with
 | false => exact ite_ff ⟨.bl false, H3, I3, rfl, q3⟩
 | true => exact ite_tt (chain_last (thn (hc pins s3 σ H3 _ I3 q3) fun w' s4 ⟨z', H4, I4, r4, q4⟩ => ho' pins s4 σ H4 y z' u w' Q I4 r2 r4 q4))
def Fx (ta tb : TE) : TE := fun σ H Q => ta σ H (kB fun c H1 => if c = true then tb σ H1 Q else Q (.bl false) H1)
def fOr (ta tb : TE) : TE := fun σ H Q => ta σ H (kB fun c H1 => if c = true then Q (.bl true) H1 else tb σ H1 Q)
def Gi (ta : TE) : TE := fun σ H Q => ta σ H (kB fun c H1 => Q (.bl (!c)) H1)
theorem cV (ha : PE X a ta) (hb : PE X (.BoolOp .And (b :: rest) pos) tb) : PE X (.BoolOp .And (a :: b :: rest) pos) (Fx ta tb) := by
 intro pins s σ H Q I h
 refine BoolOp_and (thn (ha pins s σ H _ I h) fun v s1 ⟨x, H1, I1, r1, q1⟩ => ?_)
 obtain ⟨c, rfl, q1⟩ := pq q1
 cases r1
 refine wpAny_truthy_bool ?_
 cases c with
 | true => exact hb pins s1 σ H1 Q I1 q1
 | false => exact ⟨.bl false, H1, I1, rfl, q1⟩
theorem Dj (ha : PE X a ta) (hb : PE X (.BoolOp .Or (b :: rest) pos) tb) : PE X (.BoolOp .Or (a :: b :: rest) pos) (fOr ta tb) := by
 intro pins s σ H Q I h
 refine BoolOp_or (thn (ha pins s σ H _ I h) fun v s1 ⟨x, H1, I1, r1, q1⟩ => ?_)
 obtain ⟨c, rfl, q1⟩ := pq q1
 cases r1
 refine wpAny_truthy_bool ?_
 cases c with
 | false => exact hb pins s1 σ H1 Q I1 q1
 | true => exact ⟨.bl true, H1, I1, rfl, q1⟩
theorem xz (ha : PE X a ta) : PE X (.UnaryOp .Not a pos) (Gi ta) := by
 intro pins s σ H Q I h
 refine UnaryOp_ (thn (ha pins s σ H _ I h) fun v s1 ⟨x, H1, I1, r1, q1⟩ => ?_)
 obtain ⟨c, rfl, q1⟩ := pq q1
 cases r1
 exact not_of (wpAny_truthy_bool ⟨.bl (!c), H1, I1, rfl, q1⟩)
def GH : List V -> Hp -> VK -> Prop
 | [.int i], H, Q => Q (.int (if i < 0 then -i else i)) H
 | _, _, _ => False
def DU : List V -> Hp -> VK -> Prop
 | [.int i, .int j], H, Q => Q (.int (if j < i then j else i)) H
 | _, _, _ => False
theorem BO (hc : X.calm = true) : CallR X (.builtin "min") DU := (y9 hc).imp fun x H Q h => by
 unfold DU at h; split at h
 ·exact ⟨_, _, rfl, h⟩
 ·exact h.elim
def EO : List V -> Hp -> VK -> Prop
 | [.int i, .int j], H, Q => Q (.int (if j > i then j else i)) H
 | _, _, _ => False
theorem uB (hc : X.calm = true) : CallR X (.builtin "max") EO := (zh hc).imp fun x H Q h => by
 unfold EO at h; split at h
 ·exact ⟨_, _, rfl, h⟩
 ·exact h.elim
def CW (K : PySem.W.Frag) : List V -> Hp -> VK -> Prop
 | [.str y], H, Q => (cs y).length <= sizeLine /\ Q (.int (cs y).length) H
 | [.ref p], H, Q => ∃ xs, (SqL K H p xs \/ SqT K H p xs) /\ Q (.int xs.length) H
 | _, _, _ => False
theorem D7 : CallR X (.builtin "len") (CW X.K) := zU.imp fun x H Q h => by
 unfold CW at h; split at h
 ·exact ⟨_, _, rfl, ⟨by simpa [cs, Str.length] using h.1, rfl⟩, by simpa [cs, Str.length] using h.2⟩
 ·obtain ⟨xs, hx, q⟩ := h
  rcases hx with hx | hx
  ·exact ⟨_, _, rfl, .inl ⟨xs, hx, rfl⟩, q⟩
  ·exact ⟨_, _, rfl, .inr ⟨xs, hx, rfl⟩, q⟩
 ·exact h.elim
def er (H : Hp) : V -> Option String
 | .non => some "NoneType"
 | .bl _ => some "bool"
 | .int _ => some "int"
 | .str _ => some "str"
 | .ref p => match H p with
  | some (.lst _) => some "list"
  | some (.frz _ (.lst _)) => some "list"
  | some (.tup _) => some "tuple"
  | some (.dK _) => some "dict"
  | _ => none
 | _ => none
def bY (t n : String) : Bool := t == n || (t == "bool" && n == "int")
def jv (t : String) : Prop := t = "NoneType" \/ t = "bool" \/ t = "int" \/ t = "str" \/ t = "list" \/ t = "tuple" \/ t = "dict"
theorem Fp {K : PySem.W.Frag} {t n : String} (h : jv t) (hn : n = "int" \/ n = "bool" \/ n = "str" \/ n = "list" \/ n = "tuple" \/ n = "dict") : PySem.W.kitOne K (.type t) (.type n) = some (bY t n) := by
 rcases h with rfl | rfl | rfl | rfl | rfl | rfl | rfl <;> rcases hn with rfl | rfl | rfl | rfl | rfl | rfl <;> kernel_rfl
theorem uN {K : PySem.W.Frag} {H : Hp} {x : V} {t : String} (h : er H x = some t) : kg K H x (.type t) /\ jv t := by
 unfold er at h
 split at h
 ·cases h; exact ⟨.non, by simp [jv]⟩
 ·cases h; exact ⟨.bl _, by simp [jv]⟩
 ·cases h; exact ⟨.int _, by simp [jv]⟩
 ·cases h; exact ⟨.str _, by simp [jv]⟩
 ·split at h
  ·rename_i e; cases h; exact ⟨.lst e, by simp [jv]⟩
  ·rename_i e; cases h; exact ⟨.frz e, by simp [jv]⟩
  ·rename_i e; cases h; exact ⟨.tup e, by simp [jv]⟩
  ·rename_i e; cases h; exact ⟨.dK e, by simp [jv]⟩
  ·cases h
 ·cases h
def wa (n : String) : Bool := n == "int" || n == "bool" || n == "str" || n == "list" || n == "tuple" || n == "dict"
def Da (K : PySem.W.Frag) : List V -> Hp -> VK -> Prop
 | [x, .ty n], H, Q => (match er H x with
  | some t => wa n = true /\ Q (.bl (bY t n)) H
  | none => ∃ e C b, x = .ref e /\ H e = some (mE (.ref C) e) /\ gH K C /\ PySem.W.kitOne K (.ref C) (.type n) = some b /\ Q (.bl b) H)
 | [.ref e, .ref D], H, Q => ∃ C b, H e = some (mE (.ref C) e) /\ gH K C /\ PySem.W.kitOne K (.ref C) (.ref D) = some b /\ Q (.bl b) H
 | _, _, _ => False
theorem EW : CallR X (.builtin "isinstance") (Da X.K) := zG.imp fun xs H Q h => by
 unfold Da at h
 split at h
 ·rename_i x n
  split at h
  ·rename_i t ht
   obtain ⟨ty, hb⟩ := uN (K := X.K) ht
   obtain ⟨hn, q⟩ := h
   refine .inl ⟨x, _, _, _, _, rfl, .ty n, ty, Fp hb ?_, q⟩
   simpa [wa, or_assoc] using hn
  ·obtain ⟨e, C, b, rfl, he, Z, k, q⟩ := h
   exact .inr ⟨e, _, C, _, b, rfl, .ty n, he, Z, k, q⟩
 ·rename_i e D
  obtain ⟨C, b, he, Z, k, q⟩ := h
  exact .inr ⟨e, _, C, _, b, rfl, .own D, he, Z, k, q⟩
 ·exact h.elim
end
section
variable {X : Cx} {a b : Expr} {ta tb : TE} {pos pos' : Pos}
def gIx (K : PySem.W.Frag) : R2
 | .str z, .int i, H, Q => (cs z).length <= sizeLine /\ (match atI (cs z) i with
  | some c => Q (T [c]) H
  | none => False)
 | .ref p, .int i, H, Q => ∃ xs v, (SqL K H p xs \/ SqT K H p xs) /\ atI xs i = some v /\ Q v H
 | _, _, _, _ => False
theorem Fd : IxR X (gIx X.K) := Ep.imp fun x y H Q h => by
 unfold gIx at h
 split at h
 ·obtain ⟨hz, h⟩ := h
  split at h
  ·rename_i c hc
   exact .inr (.inr ⟨_, _, c, rfl, rfl, by simpa [cs, Str.length] using hz, hc, h⟩)
  ·exact h.elim
 ·obtain ⟨xs, v, hs | hs, hv, q⟩ := h
  ·exact .inl ⟨_, xs, _, v, rfl, rfl, hs, hv, q⟩
  ·exact .inr (.inl ⟨_, xs, _, v, rfl, rfl, hs, hv, q⟩)
 ·exact h.elim
def jD (xs : List V) (H H1 : Hp) (Q : VK) : V -> Prop
 | .int i => (match atI xs i with
  | some (.ref q) => H q = none /\ (match H1 q with
   | some o => ll o = true /\ Q (.ref q) (upd H q o)
   | none => False)
  | some v => Q v H
  | none => False)
 | _ => False
def AU (ta : TA) (ti : TE) : TE := fun σ H Q => NoT H /\ ta σ H fun xs H1 => Same H H1 /\ xs.length <= sizeLine /\ ∀ p, H1 p = none -> ti σ (upd H1 p (.lst xs)) fun y H2 => H2 = upd H1 p (.lst xs) /\ jD xs H H1 Q y
theorem Bc {xs : List V} {H H1 : Hp} {Q : VK} {y : V} {p : Addr} {o : HO} (s : Same H H1) (hp : H1 p = none) (h : jD xs H H1 Q y) : ∃ i v G, y = .int i /\ atI xs i = some v /\ Gc H G (upd H1 p o) /\ Q v G := by
 unfold jD at h
 have s2 : Same H (upd H1 p o) := s.trans (aq o hp)
 split at h
 ·rename_i i
  split at h
  ·rename_i q hq
   obtain ⟨hn, h⟩ := h
   split at h
   ·rename_i o' ho'
    exact ⟨i, _, _, rfl, hq, Gc.one s2 hn (by rw [aj (au ho' hp)]; exact ho') h.1, h.2⟩
   ·exact h.elim
  ·rename_i v _ hv
   exact ⟨i, v, H, rfl, hv, Gc.none s2, h⟩
  ·exact h.elim
 ·exact h.elim
theorem fS {es : List Expr} {t : TA} (ha : PA X es t) (hb : PE X b tb) (hs : xZ b) : PE X (.Subscript (.List es pos') b pos) (AU t tb) := by
 intro pins s σ H Q I h
 obtain ⟨n, h⟩ := h
 refine Subscript_ (wpAny_List_spliced (thn (ha pos' pins s σ H _ I h) fun us s1 ⟨xs, H1, I1, r, sm, z, q⟩ => ⟨by rw [<- r.length]; exact z, ?_⟩))
 have hf : H1 s1.heap.objs.size = none := I1.hok.fresh (Nat.le_refl _)
 refine thn (hb pins _ σ (upd H1 s1.heap.objs.size (.lst xs)) _ (I1.laid (t' := s1.toks) (fun b u e => Heap.get?_push_of_some _ e) (Nat.le_refl _) ⟨z, us, 0, r, Heap.get?_push_size _ rfl⟩) (q _ hf)) fun u s3 ⟨y, H3, I3, ry, e, k⟩ => ?_
 subst e
 obtain ⟨i, v, G, rfl, hv, g, hq⟩ := Bc (o := .lst xs) sm hf k
 exact thn (yM (.List es pos') b pins s3 σ _ (.ref _) (.int i) _ u (fun v' H' => v' = v /\ H' = upd H1 s1.heap.objs.size (.lst xs)) I3 rfl ry ⟨_, xs, i, v, rfl, rfl, SqL.of ag, hv, rfl, rfl⟩ (hs _ _))
  fun u' s4 ⟨v', H4, I4, r4, e1, e2⟩ => ⟨v, G, I.gc n (e2 ▸ I4) g, e1 ▸ r4, hq⟩
end
def sp0 (f : Hp -> VK -> XK -> Prop) : Sp := fun vs H Q E => match vs with
 | [] => f H Q E
 | _ => False
def sp1 (f : V -> Hp -> VK -> XK -> Prop) : Sp := fun vs H Q E => match vs with
 | [x] => f x H Q E
 | _ => False
def sp2 (f : V -> V -> Hp -> VK -> XK -> Prop) : Sp := fun vs H Q E => match vs with
 | [x, y] => f x y H Q E
 | _ => False
def sp3 (f : V -> V -> V -> Hp -> VK -> XK -> Prop) : Sp := fun vs H Q E => match vs with
 | [x, y, z] => f x y z H Q E
 | _ => False
def sp4 (f : V -> V -> V -> V -> Hp -> VK -> XK -> Prop) : Sp := fun vs H Q E => match vs with
 | [x, y, z, u] => f x y z u H Q E
 | _ => False
section
variable {vs : List V} {H : Hp} {Q : VK} {E : XK}
theorem sp1.inv {f} (h : sp1 f vs H Q E) : ∃ x, vs = [x] /\ f x H Q E := by
 unfold sp1 at h; split at h
 ·exact ⟨_, rfl, h⟩
 ·exact h.elim
theorem sp2.inv {f} (h : sp2 f vs H Q E) : ∃ x y, vs = [x, y] /\ f x y H Q E := by
 unfold sp2 at h; split at h
 ·exact ⟨_, _, rfl, h⟩
 ·exact h.elim
theorem sp3.inv {f} (h : sp3 f vs H Q E) : ∃ x y z, vs = [x, y, z] /\ f x y z H Q E := by
 unfold sp3 at h; split at h
 ·exact ⟨_, _, _, rfl, h⟩
 ·exact h.elim
theorem sp4.inv {f} (h : sp4 f vs H Q E) : ∃ x y z u, vs = [x, y, z, u] /\ f x y z u H Q E := by
 unfold sp4 at h; split at h
 ·exact ⟨_, _, _, _, rfl, h⟩
 ·exact h.elim
theorem sp1.len {f} (h : sp1 f vs H Q E) : vs.length = 1 := by obtain ⟨_, rfl, _⟩ := sp1.inv h; rfl
theorem sp2.len {f} (h : sp2 f vs H Q E) : vs.length = 2 := by obtain ⟨_, _, rfl, _⟩ := sp2.inv h; rfl
theorem sp3.len {f} (h : sp3 f vs H Q E) : vs.length = 3 := by obtain ⟨_, _, _, rfl, _⟩ := sp3.inv h; rfl
theorem sp4.len {f} (h : sp4 f vs H Q E) : vs.length = 4 := by obtain ⟨_, _, _, _, rfl, _⟩ := sp4.inv h; rfl
end
def asI (x : V) (f : Int -> Prop) : Prop := match x with
 | .int i => f i
 | _ => False
def asT (x : V) (f : List Nat -> Prop) : Prop := match x with
 | .str y => f (cs y)
 | _ => False
def asB (x : V) (f : Bool -> Prop) : Prop := match x with
 | .bl y => f y
 | _ => False
def asR (x : V) (f : Addr -> Prop) : Prop := match x with
 | .ref y => f y
 | _ => False
theorem asI.inv {x : V} {f : Int -> Prop} (h : asI x f) : ∃ i, x = .int i /\ f i := by
 unfold asI at h; split at h
 ·exact ⟨_, rfl, h⟩
 ·exact h.elim
theorem asT.inv {x : V} {f : List Nat -> Prop} (h : asT x f) : ∃ l, x = T l /\ f l := by
 unfold asT at h; split at h
 ·exact ⟨_, rfl, h⟩
 ·exact h.elim
theorem asR.inv {x : V} {f : Addr -> Prop} (h : asR x f) : ∃ i, x = .ref i /\ f i := by
 unfold asR at h; split at h
 ·exact ⟨_, rfl, h⟩
 ·exact h.elim
def asK (H : Hp) (x : V) (f : String -> Prop) : Prop := match er H x with
 | some t => f t
 | none => False
theorem asK.inv {H : Hp} {x : V} {f : String -> Prop} (h : asK H x f) : ∃ t, er H x = some t /\ jv t /\ f t := by
 unfold asK at h; split at h
 ·rename_i t ht
  exact ⟨t, ht, (uN (K := default) ht).2, h⟩
 ·exact h.elim
theorem asK.of {H : Hp} {x : V} {f : String -> Prop} {t : String} (e : er H x = some t) (h : f t) : asK H x f := by unfold asK; rw [e]; exact h
theorem E6 {ns : List Int} {k : Int} (h0 : 0 <= k) (h1 : k < ns.length) : atI (ns.map V.int) k = some (.int (ns.getD k.toNat 0)) := by
 obtain ⟨j, rfl⟩ : ∃ j : Nat, k = j := ⟨k.toNat, by omega⟩
 refine aB ?_
 have l : j < ns.length := by omega
 simp [List.getD, l]
theorem ng {ns : List Int} {H H1 : Hp} {Q : VK} {i : Int} (h0 : 0 <= i) (h1 : i < ns.length) (q : Q (.int (ns.getD i.toNat 0)) H) : jD (ns.map V.int) H H1 Q (.int i) := by
 unfold jD
 simp only [E6 h0 h1]
 exact q
section
variable {X : Cx} (K : PySem.W.Frag)
theorem cN (h : X.K = K := by rfl) : CallR X (.builtin "isinstance") (Da K) := h ▸ EW
theorem cF (h : X.K = K := by rfl) : CallR X (.builtin "len") (CW K) := h ▸ D7
theorem aA (h : X.K = K := by rfl) : IxR X (gIx K) := h ▸ Fd
theorem CM (h : X.K = K := by rfl) : SlR X (F2 K) := h ▸ Bh
theorem xU {tg l : Expr} {tl : TE} (hl : PE X l tl) (h : X.K = K := by rfl) : PI X tg l (zc K tl) := h ▸ EK hl
theorem dl {tg l : Expr} {tl : TE} (hl : PE X l tl) (h : X.K = K := by rfl) : PI X tg l (qD K tl) := h ▸ CT hl
end
theorem A4 {H : Hp} {e : Addr} {C : Value} : er (upd H e (mE C e)) (.ref e) = none := by simp [er, ag, mE]
theorem F_ {H : Hp} {b : Bool} : er H (.bl b) = some "bool" := rfl
theorem Ek {H : Hp} {i : Int} : er H (.int i) = some "int" := rfl
theorem D6 {H : Hp} {s : Str} : er H (.str s) = some "str" := rfl
theorem Ez {H : Hp} : er H .non = some "NoneType" := rfl
theorem DT : wa "int" = true := by decide
theorem on : bY "NoneType" "int" = false := by decide
theorem vk : bY "bool" "int" = true := by decide
theorem wS : bY "int" "int" = true := by decide
theorem wG : bY "str" "int" = false := by decide
theorem wo : bY "list" "int" = false := by decide
theorem ue : bY "tuple" "int" = false := by decide
theorem wx : bY "dict" "int" = false := by decide
theorem Ca : wa "bool" = true := by decide
theorem nr : bY "NoneType" "bool" = false := by decide
theorem uq : bY "bool" "bool" = true := by decide
theorem wv : bY "int" "bool" = false := by decide
theorem vc : bY "str" "bool" = false := by decide
theorem uF : bY "list" "bool" = false := by decide
theorem ri : bY "tuple" "bool" = false := by decide
theorem sX : bY "dict" "bool" = false := by decide
theorem Fj : wa "str" = true := by decide
theorem oG : bY "NoneType" "str" = false := by decide
theorem vP : bY "bool" "str" = false := by decide
theorem xm : bY "int" "str" = false := by decide
theorem xi : bY "str" "str" = true := by decide
theorem vF : bY "list" "str" = false := by decide
theorem t0 : bY "tuple" "str" = false := by decide
theorem vY : bY "dict" "str" = false := by decide
theorem B0 : wa "list" = true := by decide
theorem mO : bY "NoneType" "list" = false := by decide
theorem tX : bY "bool" "list" = false := by decide
theorem vg : bY "int" "list" = false := by decide
theorem vV : bY "str" "list" = false := by decide
theorem tF : bY "list" "list" = true := by decide
theorem qJ : bY "tuple" "list" = false := by decide
theorem t_ : bY "dict" "list" = false := by decide
theorem Ae : wa "tuple" = true := by decide
theorem mf : bY "NoneType" "tuple" = false := by decide
theorem rq : bY "bool" "tuple" = false := by decide
theorem uH : bY "int" "tuple" = false := by decide
theorem uy : bY "str" "tuple" = false := by decide
theorem qW : bY "list" "tuple" = false := by decide
theorem qe : bY "tuple" "tuple" = true := by decide
theorem rn : bY "dict" "tuple" = false := by decide
theorem CA : wa "dict" = true := by decide
theorem ni : bY "NoneType" "dict" = false := by decide
theorem uA : bY "bool" "dict" = false := by decide
theorem wb : bY "int" "dict" = false := by decide
theorem wg : bY "str" "dict" = false := by decide
theorem sS : bY "list" "dict" = false := by decide
theorem qT : bY "tuple" "dict" = false := by decide
theorem tB : bY "dict" "dict" = true := by decide
theorem FZ {H : Hp} {b : Bool} {f : String -> Prop} : asK H (.bl b) f = f "bool" := rfl
theorem E_ {H : Hp} {i : Int} {f : String -> Prop} : asK H (.int i) f = f "int" := rfl
theorem Eh {H : Hp} {i : Str} {f : String -> Prop} : asK H (.str i) f = f "str" := rfl
theorem Es {H : Hp} {f : String -> Prop} : asK H .non f = f "NoneType" := rfl
def AS : Expr -> Bool
 | .Starred _ _ => false
 | _ => true
theorem zn {e : Expr} {es : List Expr} {env : Env} (h : AS e = true) : starEach (e :: es) env = (false, eval e env) :: starEach es env := by
 cases e <;> first | rfl | cases h
structure FA (X : Cx) (es : List Expr) (t : TA) : Prop where
 pa : PA X es t
theorem ae {X : Cx} : FA X [] vt := ⟨Ey⟩
theorem aa {X : Cx} {e : Expr} {es : List Expr} {te : TE} {t : TA} (ha : PE X e te) (hr : FA X es t) (h : AS e = true := by rfl) : FA X (e :: es) (nC te t) := ⟨CG ha hr.pa (zn h)⟩
theorem CK {H : Hp} {P : Hp -> Prop} : (∃ G, Gc H G H /\ P G) ↔ P H := by
 constructor
 ·rintro ⟨G, g, p⟩
  have e : G = H := by
   funext b
   cases h : H b with
   | none => exact g.b.free h
   | some o => exact g.a b o h
  rw [<- e]; exact p
 ·exact fun p => ⟨H, Gc.refl, p⟩
theorem Gk {CX : CXT} {P : Program} {w : World} {K : PySem.W.Frag} {mg : Str -> Option Value} {base : Heap} {N : List Str} {qual : Str} {scope : Scope} {f : Addr} {cd : Value} {A : Around} {outer : List Env} {s : Shared} {H : Hp} {E : XK} :
 (cW CX P w K mg base N qual scope f cd A outer s H E).K = K := rfl
def isI : V -> Bool
 | .int _ => true
 | _ => false
def isS : V -> Bool
 | .str _ => true
 | _ => false
theorem AT {H : Hp} {x : V} {t : String} (h : er H x = some t) : (t == "int") = isI x := by
 unfold er at h
 split at h
 case h_5 => split at h <;> cases h <;> simp [isI]
 all_goals (cases h <;> simp [isI])
theorem zH {H : Hp} : Same H H ↔ True := ⟨fun _ => trivial, fun _ => Same.refl H⟩
theorem az {H : Hp} {p : Addr} {o : HO} (hN : NoT H) (d : kl o = true) : NoT (upd H p o) := hN.upd d
theorem Cd {i : Int} : isI (.int i) = true := rfl
theorem El {i : Bool} : isI (.bl i) = false := rfl
theorem Cf {i : Str} : isI (.str i) = false := rfl
theorem CV {i : Addr} : isI (.ref i) = false := rfl
theorem Cc  : isI (.non) = false := rfl
theorem CJ {i : Int} : isS (.int i) = false := rfl
theorem EA {i : Bool} : isS (.bl i) = false := rfl
theorem CO {i : Str} : isS (.str i) = true := rfl
theorem C_ {i : Addr} : isS (.ref i) = false := rfl
theorem B3  : isS (.non) = false := rfl
theorem BH {H : Hp} (h : zL H) : NoT H := fun b o e => by
 rcases h b with z | ⟨ob, xs, z⟩
 ·rw [e] at z; cases z
 ·rw [e] at z; cases z; rfl
def gcE (H : Hp) (E : XK) : XK := fun C d H' => ∃ G, Gc H G H' /\ E C d G
theorem Fun.okG {P : Program} {w : World} {K : PySem.W.Frag} {mg : Str -> Option Value} {base : Heap} {x qual : Str} {st : Stmt} {f : Addr} {fd : FuncData} {N ps : List Str} {k : Nat} {sp : Sp} (F : Fun K x qual st f fd) (S : aF N ps (ad st))
 (len : ∀ vs H Q E, sp vs H Q E -> vs.length = ps.length)
 (hbody : ∀ (cdv : Value) (A : Around) (outer : List Env) (s : Shared) (H : Hp) (vs : List V) (Q : VK) (E : XK), Room k (A.deeper (envOfC qual (ad st) s.heap.objs.size f cdv)) -> sp vs H Q E ->
  NoT H /\ ∃ t, PSs (cW (XE P w) P w K mg base N qual (ad st) f cdv A outer s H (gcE H E)) (av st) t /\ t { nx := fun _ H' => ∃ G, Gc H G H' /\ Q .non G, rt := fun v H' => ∃ G, Gc H G H' /\ Q v G } (iQ N vs) H) : bd P w K mg base (XE P w) (k + 1) f fd ps sp := by
 have F' : bd P w K mg base (XE P w) (k + 1) f fd ps (fun vs H Q' E' => ∃ Q E, sp vs H Q E /\ Q' = (fun v H' => ∃ G, Gc H G H' /\ Q v G) /\ E' = gcE H E) := by
  refine F.okX S (fun vs H Q' E' ⟨Q, E, h, _⟩ => len vs H Q E h) (fun cdv A outer s H vs Q' E' hr h => ?_)
  obtain ⟨Q, E, h, rfl, rfl⟩ := h
  exact (hbody cdv A outer s H vs Q E hr h).2
 refine ⟨len, fun A outer s H args us vs Q E hr e0 hb r hsp => ?_⟩
 have nT : NoT H := by
  obtain ⟨oc, od, kV, doc, pm, an, cdv, ct, osl, rfl, lk, hcd⟩ := F.ex
  exact (hbody cdv A outer s H vs Q E (hr.deeper _) hsp).1
 refine codeAny_mono (F'.run A outer s H args us vs _ _ hr e0 hb r ⟨Q, E, hsp, rfl, rfl⟩) fun res s' h => ?_
 cases res with
 | error e =>
  obtain ⟨ea, C, rs, H', h1, h2, h3, un, hok, hrs, fly, G, g, q⟩ := h
  exact ⟨ea, C, rs, G, h1, h2, h3, un.gc g, HOk.gc nT e0.hok hok g, fun b hb => ⟨(hrs b hb).1, g.b.free (hrs b hb).2⟩, fly, q⟩
 | ok fl =>
  cases fl with
  | ret u =>
   obtain ⟨v, H', h1, h2, un, hok, rv, G, g, q⟩ := h
   exact ⟨v, G, h1, h2, un.gc g, HOk.gc nT e0.hok hok g, rv, q⟩
  | next => exact h
  | brk => exact h
  | cont => exact h
section
variable {K : PySem.W.Frag} {C D : Addr} {b : Bool} {cl : ClassData}
theorem rS (o : PySem.W.clsIn K D = some cl) (t : PySem.W.typeIn K (.ref D) = some (.type "type")) (m : PySem.W.mroIn K C (.ref D) = some b) : PySem.W.kitCls K (.ref C) (.ref D) = some b := by
 unfold PySem.W.kitCls
 simp only [o, t, Option.isSome_some, beq_self_eq_true, Bool.and_self, if_true]
 exact m
theorem zA (o : PySem.W.clsIn K D = some cl) (t : PySem.W.typeIn K (.ref D) = some (.type "type")) (s : PySem.W.mroIn K D (.type "BaseException") = some true) (m : PySem.W.mroIn K C (.ref D) = some b) : PySem.W.exmOne K (.ref C) (.ref D) = some b := by
 unfold PySem.W.exmOne
 have e : PySem.W.subIn K (.ref D) (.type "BaseException") = some true := s
 rw [e, if_pos (by rfl)]
 exact rS o t m
theorem sq (o : PySem.W.clsIn K D = some cl) (t : PySem.W.typeIn K (.ref D) = some (.type "type")) (s : PySem.W.mroIn K C (.ref C) = some true) (m : PySem.W.mroIn K C (.ref D) = some b) : PySem.W.kitOne K (.ref C) (.ref D) = some b := by
 unfold PySem.W.kitOne
 by_cases e : ((Value.ref C == Value.ref D) = true)
 ·rw [if_pos e]
  have e' : C = D := Value.ref.inj (beq_iff_eq.mp e)
  subst e'
  rw [s] at m; exact m
 ·rw [if_neg e]; exact rS o t m
theorem wC : PySem.W.kitMeta "ValueError" = true := by kernel_rfl
theorem zo (m : PySem.W.mroIn K C (.type "ValueError") = some b) : PySem.W.kitOne K (.ref C) (.type "ValueError") = some b := by
 unfold PySem.W.kitOne
 rw [if_neg (by intro z; cases (beq_iff_eq.mp z))]
 unfold PySem.W.kitCls
 simp only [wC, if_true]
 exact m
end
theorem AQ {l : PySem.W.OpenLaw} {n k : Nat} {q : Program} {loose : List Str} {XP : (Str -> Option Value) -> Heap -> Prop} {YP : World -> Heap -> Prop} {d : DefRec} {K : Params -> PySem.W.Frag} {sp : PySem.W.Frag -> Sp} {x : Str}
 (hn : l.most = some n) (hn2 : n <= sizeLine) (hdf : d.params.defaults = []) (hr : Room k callerA)
 (hY : ∀ (w : World) (h : Heap), YP w h -> (K w.params).In h)
 (F : ∀ (w : World) (mg : Str -> Option Value) (fa : Addr) (h : Heap), (K w.params).In h -> h.Ns mainGlobals mg -> mg d.name = some (.ref fa) ->
  ∃ fd : FuncData, (∀ (s : Shared) (u : Value), BindsTo s fd ⟨[u], []⟩ [(x, u)]) /\
   ∀ base : Heap, (K w.params).In base -> base.Ns mainGlobals mg -> bd l.prog w (K w.params) mg base (XE l.prog w) k fa fd [x] (sp (K w.params)))
 (hsp : ∀ (K : PySem.W.Frag) (H : Hp) (a : Addr) (ns : List Int), ns.length <= n -> zL H -> SqL K H a (ns.map V.int) -> sp K [.ref a] H (fun v _ => v = .bl true) fun _ _ _ => False) :
 PySem.W.WalkO q loose XP YP l.row.toRowW d [] (fun f vs => PySem.call f vs) :=
 Cu (K := K) (CX := fun w => XE l.prog w) (sp := fun w => sp (K w.params)) hn hn2 hdf hr hY F (fun w H a ns h1 h2 h3 => hsp (K w.params) H a ns h1 h2 h3) fun w H s e s' ⟨_, _, _, _, _, _, _, _, _, _, _, z⟩ => z
end L2
namespace L2
open PySem PySem.Spec PyProof.Rows
section
variable {prog : Program} {w : World} {A : Around} {R : Result -> Shared -> Prop} {s : Shared}
theorem tf {elt target iter : Expr} {ifs : List Expr} {scope : Scope} {pos : Pos} {it acc : Value} {env : Env} (I : Nat -> Shared -> Prop)
 (turn : ∀ n s, I n s -> wpAny (model prog w) A (pyNext it) (fun r s₁ => match r with
  | none => R (.ok .next) s₁
  | some v => wpAny (model prog w) A (letOwnedTupleGo target it v) (fun _ s₁' => wpAny (model prog w) A (assign target env v) (fun _ s₂ =>
   wpAny (model prog w) A (forIn ifs true fun c r => if r = true then do let ok <- isTrue c env (eval c env); pure (ForInStep.yield ok) else pure (ForInStep.yield r)) (fun ok s₃ =>
    if ok = true then wpAny (model prog w) A (eval elt env) (fun x s₄ =>
     wpAny (model prog w) A (call (.builtin "list.append") [acc, x]) (fun _ s₅ => ∃ m, m < n /\ I m s₅) (notedBy (model prog w) A env fun e s' => R (.error e) s') s₄) (notedBy (model prog w) A env fun e s' => R (.error e) s') s₃
    else ∃ m, m < n /\ I m s₃) (notedBy (model prog w) A env fun e s' => R (.error e) s') s₂) (notedBy (model prog w) A env fun e s' => R (.error e) s') s₁') (notedBy (model prog w) A env fun e s' => R (.error e) s') s₁) (notedBy (model prog w) A env fun e s' => R (.error e) s') s)
 (n : Nat) (h : I n s) :
 codeAny (model prog w) A (.compLoop (.ListComp elt [⟨target, iter, ifs, 0⟩] scope pos) 0 it acc env) R s := by
 refine codeAny_loop rfl I (fun n s hI => ?_) n h
 show wpAny _ A ((compTurn (.ListComp elt [⟨target, iter, ifs, 0⟩] scope pos) 0 it acc env).onRaise (fun x => do noteFrame x env; theTreesLotGoes x)) _ _ s
 refine wpAny_noted ?_
 rw [compTurn_list]
 refine wpAny_bind (wpAny_standAt (wpAny_bind (wpAny_mono (turn n s hI) (fun r s₁ h₁ => ?_) fun _ _ h' => h')))
 cases r with
 | none => exact wpAny_pure h₁
 | some v =>
  refine wpAny_bind (wpAny_mono h₁ (fun _ s₁' h₁' => ?_) fun _ _ h' => h')
  refine wpAny_bind (wpAny_mono h₁' (fun _ s₂ h₂ => wpAny_bind (wpAny_mono h₂ (fun ok s₃ h₃ => ?_) fun _ _ h' => h')) fun _ _ h' => h')
  cases ok with
  | false => exact wpAny_pure ⟨rfl, h₃⟩
  | true =>
   exact wpAny_bind (wpAny_bind (wpAny_mono h₃ (fun x s₄ h₄ => wpAny_bind (wpAny_mono h₄ (fun _ s₅ h₅ => wpAny_pure (wpAny_pure ⟨rfl, h₅⟩)) fun _ _ h' => h')) fun _ _ h' => h'))
end
def cD (X : Cx) (N : List Str) (scope : Scope) (cl : List (Str × Addr)) (C : Addr) (s₂ : Shared) (H₂ : Hp) (ex : List Addr) (pn : List (Addr × Obj)) : Cx :=
 { X with N := N, s₀ := s₂, H₀ := H₂, env := compEnvC scope cl C X.env, outer := X.stack, stack := X.stack, ex := ex, fn := fun _ => false, pn := pn, xe := fun _ _ => False }
structure CompScope (X : Cx) (scope : Scope) (cl : List (Str × Addr)) (x : Str) (fr : List Str) : Prop where
 clos : closureFor scope X.env = pure cl
 nocell : ∀ y ∈ scope.names, y.2 ≠ .cell
 kind : scope.kind = .function
 names : ∀ y ∈ scope.names, y.2 = .local -> scope.names.lookup y.1 = some .local
 own : scope.names.lookup x = some .local
 keys : ∀ y ∈ cl, y.1 ∈ fr
 cells : fr.map (fun y => cl.lookup y) = fr.map (fun y => X.env.cells.lookup y)
 kinds : ∀ y ∈ fr, X.env.kindOf y = some .cell \/ X.env.kindOf y = some .free
 kin : ∀ y ∈ fr, (relabel scope X.env).names.lookup y = some .cell \/ (relabel scope X.env).names.lookup y = some .free
 only : ∀ y, ((relabel scope X.env).names.lookup y = some .cell \/ (relabel scope X.env).names.lookup y = some .free) -> y ∈ fr
theorem w6 {α : Type} {l : List (Str × α)} {y : Str} {c : α} (h : l.lookup y = some c) : (y, c) ∈ l := PySem.mem_of_lookup h
theorem CompScope.cell {X : Cx} {scope : Scope} {cl : List (Str × Addr)} {x : Str} {fr : List Str} (S : CompScope X scope cl x fr) {y : Str} (h : y ∈ fr) : cl.lookup y = X.env.cells.lookup y := by
 have e := S.cells
 obtain ⟨i, hi, rfl⟩ := List.getElem_of_mem h
 have := congrArg (fun l => l[i]?) e
 simpa [hi] using this
theorem CompScope.sub {X : Cx} {scope : Scope} {cl : List (Str × Addr)} {x : Str} {fr : List Str} (S : CompScope X scope cl x fr) {y : Str} {c : Addr} (h : cl.lookup y = some c) : X.env.cells.lookup y = some c := by
 rw [<- S.cell (S.keys _ (w6 h))]; exact h
def PTs (X : Cx) (ifs : List Expr) (t : TT) : Prop :=
 ∀ (pins : List (Addr × Obj)) (s : Shared) (σ : St) (H : Hp) (Q : Bool -> Hp -> Prop), Inv X pins σ H s -> t σ H Q ->
  wpAny (model X.prog X.w) X.A (forIn ifs true fun c r => if r = true then do let ok <- isTrue c X.env (eval c X.env); pure (ForInStep.yield ok) else pure (ForInStep.yield r)) (TP X pins σ Q) X.xe s
theorem iA {X : Cx} : PTs X [] (fun _ H Q => Q true H) := fun pins s σ H Q I h => wpAny_tests_nil ⟨H, I, h⟩
theorem lW {X : Cx} {c : Expr} {t : TT} (h : PT X c t) : PTs X [c] t := fun pins s σ H Q I hw => wpAny_tests_one (h pins s σ H Q I hw)
end L2
set_option maxHeartbeats 4000000
namespace MT
def dg (n : Nat) : List Nat := (Nat.toDigits 10 n).map Char.toNat
def isD (c : Nat) : Bool := decide (48 <= c) && decide (c <= 57)
def vl (t : List Nat) : Nat := t.foldl (fun n c => 10 * n + (c - 48)) 0
def nin (t : List Nat) : Nat := t.foldl (fun n c => if isD c then 10 * n + (c - 48) else n) 0
def fg (t : List Nat) : List Nat := if t.take 1 = [45] then t.drop 1 else t
def good (t : List Nat) : Prop := fg t ≠ [] /\ (∀ c ∈ fg t, isD c = true) /\ ((fg t).head? = some 48 -> t = [48])
def pd : Nat -> Nat -> List Nat
 | 0, _ => []
 | k + 1, m => pd k (m / 10) ++ [48 + m % 10]
end MT
namespace L2
open PySem PySem.Spec PyProof.Rows Builtin Builtin.Str
section
variable {X : Cx} {e a b c : Expr} {pos : Pos}
def gIn (neg : Bool) : R2
 | .str i, .str j, H, Q => (match cs i with
  | [c] => Q (.bl (neg ^^ decide (c ∈ cs j))) H
  | _ => False)
 | _, _, _, _ => False
theorem BK {i : Str} {c : Nat} (h : cs i = [c]) : i = ⟨#[c]⟩ := by
 obtain ⟨⟨l⟩⟩ := i
 have h' : l = [c] := h
 rw [h']
theorem Fr : OpR X (compareOp .In) (gIn false) := zN.imp fun x y H Q h => by
 unfold gIn at h; split at h
 ·split at h
  ·rename_i i j c hc
   refine ⟨_, _, rfl, rfl, ?_⟩
   rw [BK hc, PySem.StrLaws.found_one]
   simpa [cs] using h
  ·exact h.elim
 ·exact h.elim
def h8 (l : List Nat) (lo hi : Option Int) : List Nat := (l.drop (HT.sIx l.length 0 lo)).take (HT.sIx l.length l.length hi - HT.sIx l.length 0 lo)
def gSl : V -> Option Int -> Option Int -> Hp -> VK -> Prop
 | .str y, lo, hi, H, Q => (cs y).length <= sizeLine /\ Q (T (h8 (cs y) lo hi)) H
 | _, _, _, _, _ => False
theorem Fe (lo hi : Option Int) (n : Nat) : Builtin.Str.strSliceIndices lo hi 1 n = (List.range (HT.sIx n n hi - HT.sIx n 0 lo)).map (HT.sIx n 0 lo + ·) := by
 obtain ⟨h1, h2, h3⟩ := lH lo hi n
 have e : Builtin.Str.strSliceIndices lo hi 1 n = sliceRange (sliceBounds lo hi none n).1 (sliceBounds lo hi none n).2.1 1 := by
  unfold Builtin.Str.strSliceIndices sliceBounds
  cases lo <;> cases hi <;> rfl
 rw [e, h1, h2, sliceRange_one]
theorem yY (y : Str) (lo hi : Option Int) : V.str (Txt.slice y lo hi) = T (h8 (cs y) lo hi) := by
 have hl : y.length = (cs y).length := by simp [cs, Str.length]
 have ha : HT.sIx y.length 0 lo <= y.length := HT.sIx_le _ _ (Nat.zero_le _) lo
 have hb : HT.sIx y.length y.length hi <= y.length := HT.sIx_le _ _ (Nat.le_refl _) hi
 unfold Txt.slice
 rw [Fe]
 split
 ·rename_i h
  simp only [beq_self_eq_true, Bool.true_and, List.length_map, List.length_range, beq_iff_eq] at h
  have e1 : HT.sIx y.length 0 lo = 0 := by omega
  have e2 : HT.sIx y.length y.length hi = y.length := by omega
  rw [GJ]
  congr 3
  unfold h8
  rw [<- hl, e1, e2, List.drop_zero, Nat.sub_zero, hl, List.take_length]
 ·rw [pick_run]
  show V.str ⟨_⟩ = V.str ⟨⟨_⟩⟩
  unfold h8 cs
  rw [Array.length_toList]
  rfl
theorem ql : SlR X gSl := by
 intro pins s σ H x v vl vu lo hi sl Q I rx hs pl pu h
 unfold gSl at h
 split at h
 ·rename_i y
  obtain ⟨hz, q⟩ := h
  obtain ⟨t, rfl⟩ := rx
  have hz' : y.length <= sizeLine := by simpa [cs, Str.length] using hz
  refine ⟨"str", _, F.slot_str_getitem.lookup, typeIs_str _ _ _, ?_⟩
  have fin : ∀ t' k, EP X pins σ Q (.str (Txt.slice y lo hi) t') { s with toks := k } := fun t' k => ⟨.str (Txt.slice y lo hi), H, I.tok _, ⟨_, rfl⟩, by rw [yY]; exact q⟩
  cases pl with
  | none => cases pu with
   | none => exact wpAny_getItem_str_slice (l := none) (u := none) (st := none) hs rfl (post_val_or_str ⟨Nat.le_trans (Txt.slice_le y _ _) hz', fin⟩)
   | int j u => exact wpAny_getItem_str_slice (l := none) (u := some (j, u)) (st := none) hs rfl (post_val_or_str ⟨Nat.le_trans (Txt.slice_le y _ _) hz', fin⟩)
  | int i u' => cases pu with
   | none => exact wpAny_getItem_str_slice (l := some (i, u')) (u := none) (st := none) hs rfl (post_val_or_str ⟨Nat.le_trans (Txt.slice_le y _ _) hz', fin⟩)
   | int j u => exact wpAny_getItem_str_slice (l := some (i, u')) (u := some (j, u)) (st := none) hs rfl (post_val_or_str ⟨Nat.le_trans (Txt.slice_le y _ _) hz', fin⟩)
 ·exact h.elim
def GB : V -> List V -> Hp -> VK -> Prop
 | .str x, [.str y], H, Q => (match cs y with
  | [c] => c ∈ cs x /\ ∀ i : Nat, (cs x)[i]? = some c -> Q (.int i) H
  | _ => False)
 | _, _, _, _ => False
def AI : List V -> Hp -> VK -> Prop
 | [.int i], H, Q => Q (.int i) H
 | [.bl k], H, Q => Q (.int (if k then 1 else 0)) H
 | [.str x], H, Q => ((cs x) ≠ [] /\ (∀ c ∈ cs x, MT.isD c = true) /\ (cs x).length <= 640) /\ Q (.int (MT.vl (cs x))) H
 | _, _, _ => False
theorem qO : CallR X (.type "int") (fun xs H Q => ∃ x, xs = [.str x] /\ ((cs x) ≠ [] /\ (∀ c ∈ cs x, MT.isD c = true) /\ (cs x).length <= 640) /\ Q (.int (MT.vl (cs x))) H) := by
 intro pins s σ H xs us Q I r h
 obtain ⟨x, rfl, ⟨h0, hd, hl⟩, q⟩ := h
 obtain ⟨u, rfl, t, rfl⟩ := gs r
 have hl' : x.length <= 640 := by simpa [cs, Str.length] using hl
 have e : PySem.NumText.digitsVal x.cps.toList = MT.vl (cs x) := by
  unfold PySem.NumText.digitsVal MT.vl cs
  congr 1
  funext a c; omega
 have hn : intText? x = some ((MT.vl (cs x) : Nat) : Int) := by
  rw [PySem.intText_digits (fun c hc => by have := hd c hc; simpa [MT.isD] using this) h0 (by omega), e]
 exact PySem.W.KIN.call_text hn hl' ⟨.int _, H, I.tok _, ⟨_, rfl⟩, q⟩
theorem Cw : CallR X (.type "int") AI := (zl.or qO).imp fun xs H Q h => by
 unfold AI at h; split at h
 ·exact .inl (.inl ⟨_, rfl, h⟩)
 ·exact .inl (.inr ⟨_, rfl, h⟩)
 ·exact .inr ⟨_, rfl, h.1, h.2⟩
 ·exact h.elim
end
end L2
namespace L2
open PySem PySem.Spec PyProof.Rows
def Its (x : Str) : It := ⟨fun i _ => i < x.cps.size, fun i H v H' => H' = H /\ ∃ c, x.cps[i]? = some c /\ v = .str ⟨#[c]⟩, fun i _ => x.cps.size <= i⟩
theorem Ap {P : Program} {w : World} {K : PySem.W.Frag} {tg : Expr} (x : Str) (t : Tok) (it : Addr) : wH P w K tg (Its x) [it] it (fun i h => h.IsStrIter it "str_ascii_iterator" x t i) where
 mem := by simp
 obj := fun i h st b hb => by
  have e : b = it := by simpa using hb
  subst e
  obtain ⟨o, e, c, d⟩ := st
  exact ⟨o, e, fun v z => by rw [d] at z; cases z⟩
 keep := fun i h h' st k => by
  obtain ⟨o, e, c, d⟩ := st
  exact ⟨o, k it (by simp) o e, c, d⟩
 item := by
  intro X hP hw hK hc i pins s σ H E I hf st hg
  subst hP hw hK
  have hg' : i < x.cps.size := hg
  obtain ⟨f0, f1, f2, f3, f4, f5⟩ := hf it (by simp)
  have hx : x.cps[i]? = some x.cps[i] := by simp [hg']
  refine wpAny_pyNext_ascii_item st hx fun h' st' sb => ?_
  have I1 : Inv X pins σ H { s with heap := h', toks := s.toks + 1 } := I.turned (fun b o hb e => (sb.2 b hb).trans e) f0 f1 f3 f4 f5
  obtain ⟨o, e, c, d⟩ := id st'
  exact ⟨_, rfl, qq (s := { s with heap := h', toks := s.toks + 1 }) e c d (by decide) ⟨.str ⟨#[x.cps[i]]⟩, H, I1, ⟨_, rfl⟩, ⟨rfl, _, hx, rfl⟩, st', fun b hb => (hf b hb).1⟩⟩
 done := by
  intro X hP hw hK hc i pins s σ H E I hf st hg
  subst hP hw hK
  have hg' : x.cps.size <= i := hg
  obtain ⟨f0, f1, f2, f3, f4, f5⟩ := hf it (by simp)
  have hx : x.cps[i]? = none := by simp [hg']
  exact wpAny_pyNext_ascii_end (I.ok.hd hc) st hx fun h' eb => ⟨rfl, I.turned (fun b o hb e => eb b o hb e) f0 f1 f3 f4 f5⟩
 self := fun _ _ _ _ _ st h => wpAny_pyIter_striter_ascii st h
def FH (tl : TE) : TI := fun σ H R => tl σ H fun v H1 => match v with
 | .str x => (∀ c ∈ cs x, c < 128) /\ R (Its x) H1
 | _ => False
theorem AL {X : Cx} {tg l : Expr} {tl : TE} (hl : PE X l tl) : PI X tg l (FH tl) := by
 intro pins s σ H R I h
 refine thn (hl pins s σ H _ I h) fun v s1 ⟨y, H1, I1, r1, q⟩ => ?_
 dsimp only at q
 split at q
 ·rename_i x
  obtain ⟨ha, q⟩ := q
  obtain ⟨t, rfl⟩ := r1
  have ha' : x.cps.all (· < 128) = true := by
   rw [Array.all_eq_true]
   intro i hi
   exact decide_eq_true (ha _ (by unfold cs; rw [Array.mem_toList_iff]; exact Array.getElem_mem hi))
  refine wpAny_pyIter_ascii ha' ?_
  refine ⟨s1.heap.objs.size, [s1.heap.objs.size], _, _, H1, rfl, I1.kept (t' := s1.toks) fun b o e => Heap.get?_push_of_some _ e, Ap x t _, ⟨_, Heap.get?_push_size _ rfl, rfl, rfl⟩, fun b hb => ?_, q⟩
  have e : b = s1.heap.objs.size := by simpa using hb
  subst e
  exact I1.fpOk (Nat.le_refl _) (I1.hok.fresh (Nat.le_refl _))
 ·exact q.elim
section
variable {X : Cx}
theorem pO : ∀ {bs : List Bool} {us : List Value}, Vals (bs.map V.bl) us -> LSm.BoolsAre us bs
 | [], _, .nil => .nil
 | b :: r, _, .cons e t => by
  cases (show _ = Value.bool b from e)
  exact .cons b (pO t)
def EX (K : PySem.W.Frag) : List V -> Hp -> VK -> Prop
 | [.ref p], H, Q => ∃ bs : List Bool, SqL K H p (bs.map V.bl) /\ Q (.bl (bs.all id)) H
 | _, _, _ => False
theorem uE (K : PySem.W.Frag) (hc : X.calm = true) (hK : X.K = K := by rfl) : CallR X (.builtin "all") (EX K) := by
 subst hK
 intro pins s σ H xs us Q I r h
 unfold EX at h
 split at h
 ·rename_i p
  obtain ⟨bs, hq, q⟩ := h
  obtain ⟨u, rfl, rx⟩ := gs r
  cases (show u = Value.ref p from rx)
  obtain ⟨its, rv, pl, hz⟩ := I.list hq
  have hne : p ≠ s.heap.objs.size := Nat.ne_of_lt (by obtain ⟨_, e, _⟩ := pl.isList; exact Heap.lt_size e)
  have hb : LSm.BoolsAre its bs := pO rv
  refine call_all_walk (wpAny_pyIter_list pl.isList ?_)
  refine ⟨s.heap.objs.size, [s.heap.objs.size, p], [s.heap.objs.size], its.toArray.size, _, _, fun i => (bs[i]?).getD true, rfl, Walks.list (A := X.A.in1) (I.ok.hd hc) _ p hne its.toArray,
   ⟨⟨_, Heap.get?_push_size _ rfl, rfl, rfl⟩, pl.isList.push _⟩, fun i v s' Q' E' hP hQ => ?_, fun h' tk hk => ?_⟩
  ·obtain ⟨b, e, rfl⟩ := hb.get i v (by simpa using hP)
   simp only [e, Option.getD_some] at hQ
   exact wpAny_truthy_bool hQ
  ·have e : ((List.range its.toArray.size).all fun i => (bs[i]?).getD true) = bs.all id := by
    rw [List.size_toArray, hb.length]; exact LSm.range_all bs
   rw [e]
   exact ⟨.bl (bs.all id), H, I.kept (LSm.kept_iter hk), rfl, q⟩
 ·exact h.elim
end
end L2
namespace L2
open PySem PySem.Spec PyProof.Rows Builtin Builtin.Str
def cM (sep : List Nat) : List (List Nat) -> List Nat
 | [] => []
 | [x] => x
 | x :: y :: r => x ++ sep ++ cM sep (y :: r)
def S (l : List Nat) : Str := ⟨⟨l⟩⟩
theorem rY (sep : List Nat) : ∀ (r : List (List Nat)) (x : List Nat), ((r.map S).foldl (fun acc p => acc ++ (S sep).cps ++ p.cps) (S x).cps) = (S (cM sep (x :: r))).cps
 | [], x => rfl
 | y :: r, x => by
  rw [List.map_cons, List.foldl_cons]
  have e : (S x).cps ++ (S sep).cps ++ (S y).cps = (S (x ++ sep ++ y)).cps := by
   apply Array.ext'; simp [S]
  rw [e, rY sep r]
  congr 1
  cases r with
  | nil => rfl
  | cons z r' => unfold cM; simp [cM, List.append_assoc]
theorem yy (sep : List Nat) (ls : List (List Nat)) : Txt.join (S sep) (ls.map S) = S (cM sep ls) := by
 unfold Txt.join glued
 cases ls with
 | nil => rfl
 | cons x r =>
  show (⟨((x :: r).map S).drop 1 |>.foldl _ _⟩ : Str) = _
  rw [List.map_cons, List.drop_one, List.tail_cons, List.headD_cons, rY]
theorem xO : ∀ {ls : List (List Nat)} {us : List Value}, Vals (ls.map T) us -> StrsAre us (ls.map S)
 | [], _, .nil => .nil
 | l :: r, _, .cons e t => by
  obtain ⟨k, rfl⟩ := e
  exact .cons _ k (xO t)
def BW (sep : List Nat) (ls : List (List Nat)) : Prop := (ls.map List.length).sum + ls.length * sep.length <= 16777216
theorem Dh {sep : List Nat} {ls : List (List Nat)} (h : BW sep ls) : (((ls.map S).map (·.length)).sum + (ls.map S).length * (S sep).length <= 16777216) := by
 have e : (ls.map S).map (·.length) = ls.map List.length := by rw [List.map_map]; apply List.map_congr_left; intro l _; rfl
 rw [e, List.length_map]; exact h
section
variable {X : Cx}
def DJ (K : PySem.W.Frag) : V -> List V -> Hp -> VK -> Prop
 | .str x, [.ref p], H, Q => ∃ ls : List (List Nat), SqL K H p (ls.map T) /\ BW (cs x) ls /\ Q (T (cM (cs x) ls)) H
 | _, _, _, _ => False
theorem Ax (K : PySem.W.Frag) (hK : X.K = K := by rfl) : MtR X "str.join" (DJ K) := by
 subst hK
 intro pins s σ H x xs v us Q I rx rs h
 unfold DJ at h
 split at h
 ·rename_i y p
  obtain ⟨ls, hq, hf, q⟩ := h
  obtain ⟨t, rfl⟩ := rx
  obtain ⟨u, rfl, ru⟩ := gs rs
  cases (show u = Value.ref p from ru)
  obtain ⟨its, rv, pl, hz⟩ := I.list hq
  refine join_list pl.isList (xO rv) (Dh hf) fun t' k => ?_
  exact ⟨.str (Txt.join y (ls.map S)), H, I.tok _, ⟨_, rfl⟩, by rw [show y = S (cs y) from rfl, yy]; exact q⟩
 ·exact h.elim
end
end L2
namespace PySem
open Sem (wp)
open Builtin Builtin.Str Builtin.Int
namespace F
end F
section
variable {prog : Program} {w : World} {A : Around} {E : Value -> Shared -> Prop} {s : Shared} {I : Addr} {fp wr : List Addr} {G : Array GenState -> Array GenState -> Prop} {n : Nat} {P : Nat -> Value -> Prop} {St : Nat -> Shared -> Prop}
end
end PySem
namespace L2
open PySem PySem.Spec PyProof.Rows Builtin Builtin.Str
section
variable {X : Cx} {o e : Expr} {to te : TE} {apos cpos p pos : Pos}
end
end L2
namespace L2
open PySem PySem.Spec PyProof.Rows Builtin Builtin.Str
section
variable {X : Cx}
structure Ef (J : It) (vs : List V) : Prop where
 go : ∀ i H, i < vs.length -> J.go i H
 yld : ∀ i H x H', i < vs.length -> J.yld i H x H' -> H' = H /\ vs[i]? = some x
 stop : ∀ H, J.stop vs.length H
theorem Bs (l : List Nat) : Ef (Its ⟨⟨l⟩⟩) (l.map fun c => T [c]) := by
 refine ⟨fun i H h => by simpa [Its] using h, fun i H x H' _ y => ?_, fun H => by simp [Its]⟩
 obtain ⟨e, c, hc, rfl⟩ := y
 refine ⟨e, ?_⟩
 have : l[i]? = some c := by simpa using hc
 rw [List.getElem?_map, this]; rfl
theorem rD {J : It} {vs : List V} (E : Ef J vs) {σ' : St} {H1 : Hp} {Q : VK} {tt : TT} {te : TE} (C : Hp -> Prop) (p : V -> Bool) (f : V -> V) (hlen : vs.length <= sizeLine)
 (hp : ∀ x ∈ vs, ∀ H (R : Bool -> Hp -> Prop), C H -> R (p x) H -> tt (some x :: σ') H R) (hf : ∀ x ∈ vs, p x = true -> ∀ H (R : VK), C H -> R (f x) H -> te (some x :: σ') H R)
 (D : Addr) (hD : H1 D = none) (hC : ∀ ys, C (upd H1 D (.lst ys))) (q : Q (.ref D) (upd H1 D (.lst ((vs.filter p).map f)))) :
 ∃ W : Nat -> Nat -> List V -> Hp -> Prop, (∃ m, W 0 m [] (upd H1 D (.lst []))) /\
  ∀ i m ys H2, W i m ys H2 -> H2 D = some (.lst ys) /\ ((J.stop i H2 /\ Q (.ref D) H2) \/ (J.go i H2 /\ ∀ x H3, J.yld i H2 x H3 ->
   tt (some x :: σ') H3 fun b H4 => if b = true then te (some x :: σ') H4 fun y H5 => H5 D = some (.lst ys) /\ ys.length < sizeLine /\ ∃ m', m' < m /\ W (i + 1) m' (ys ++ [y]) (upd H5 D (.lst (ys ++ [y])))
    else ∃ m', m' < m /\ W (i + 1) m' ys H4)) := by
 refine ⟨fun i m ys H2 => m = vs.length - i /\ i <= vs.length /\ ys = ((vs.take i).filter p).map f /\ H2 = upd H1 D (.lst ys), ⟨vs.length, by simp, Nat.zero_le _, by simp, rfl⟩, ?_⟩
 rintro i m ys H2 ⟨rfl, hi, hys, rfl⟩
 refine ⟨ag, ?_⟩
 by_cases hlt : i < vs.length
 ·refine .inr ⟨E.go i _ hlt, fun x H3 y => ?_⟩
  obtain ⟨e, hx⟩ := E.yld i _ x H3 hlt y
  subst e
  have hm : x ∈ vs := List.mem_of_getElem? hx
  have htk : vs.take (i + 1) = vs.take i ++ [x] := by
   rw [List.take_succ, hx]; rfl
  have hyl : ys.length <= i := by
   rw [hys, List.length_map]
   exact Nat.le_trans (List.length_filter_le _ _) (by simp [List.length_take]; omega)
  refine hp x hm _ _ (hC _) ?_
  cases hb : p x with
  | true =>
   rw [if_pos rfl]
   refine hf x hm hb _ _ (hC _) ⟨ag, by omega, vs.length - (i + 1), by omega, rfl, hlt, ?_, ?_⟩
   ·rw [htk, List.filter_append, List.map_append, <- hys]
    simp [hb]
   ·funext z
    by_cases hz : z = D
    ·subst hz; rw [ag, ag]
    ·rw [aj hz, aj hz, aj hz]
  | false =>
   rw [if_neg Bool.false_ne_true]
   refine ⟨vs.length - (i + 1), by omega, rfl, hlt, ?_, rfl⟩
   rw [htk, List.filter_append, List.map_append, <- hys]
   simp [hb]
 ·have e : i = vs.length := by omega
  subst e
  refine .inl ⟨E.stop _, ?_⟩
  rw [List.take_length] at hys
  rw [hys]; exact q
end
theorem SqL.same {K : PySem.W.Frag} {H H' : Hp} {a : Addr} {xs : List V} (s : Same H H') (h : SqL K H a xs) : SqL K H' a xs := by
 rcases h with (h | ⟨o, h⟩) | h
 ·exact .inl (.inl (s _ _ h))
 ·exact .inl (.inr ⟨o, s _ _ h⟩)
 ·exact .inr h
theorem yR {P : Program} {w : World} {X : Cx} : eW (XE P w) X (fun _ _ _ _ => False) := fun _ _ _ _ _ _ _ ⟨_, _, _, _, _, _, _, _, _, _, _, q⟩ => q.elim
def BA : Option NameKind -> Bool
 | some .cell => true
 | some .free => true
 | _ => false
theorem vQ {k : Option NameKind} : BA k = true ↔ (k = some .cell \/ k = some .free) := by
 cases k with
 | none => simp [BA]
 | some k => cases k <;> simp [BA]
theorem dw {cl : List (Str × Addr)} {fr : List Str} (h : (cl.map (·.1)).all (fun y => fr.elem y) = true) : ∀ y ∈ cl, y.1 ∈ fr := fun y hy => by
 have := List.all_eq_true.mp h y.1 (List.mem_map_of_mem hy)
 simpa using this
theorem a7 {fr : List Str} {k : Str -> Option NameKind} (h : fr.all (fun y => BA (k y)) = true) : ∀ y ∈ fr, k y = some .cell \/ k y = some .free := fun y hy => vQ.mp (List.all_eq_true.mp h y hy)
theorem dA {names : List (Str × NameKind)} {fr : List Str} (h : names.all (fun p => !BA (some p.2) || fr.elem p.1) = true) : ∀ y, (names.lookup y = some .cell \/ names.lookup y = some .free) -> y ∈ fr := fun y hy => by
 have hy' := vQ.mpr hy
 cases e : names.lookup y with
 | none => rw [e] at hy'; cases hy'
 | some k =>
  rw [e] at hy'
  have := List.all_eq_true.mp h (y, k) (PySem.mem_of_lookup e)
  simpa [hy'] using this
end L2
namespace L2
open PySem PySem.Spec PyProof.Rows Builtin Builtin.Str
section
variable {X : Cx} {pos : Pos}
theorem Er {pins : List (Addr × Obj)} {σ : St} {H : Hp} {s : Shared} (I : Inv X pins σ H s) : sysModules < s.heap.objs.size :=
 Nat.lt_trans (by decide) (show mainGlobals < s.heap.objs.size from (I.mod.glob.keeps I.bk).lt)
def DN : TE := fun _ H Q => ∀ p, H p = none -> Q (.ref p) (upd H p (.dK []))
theorem tm : PE X (.Dict [] [] pos) DN := by
 intro pins s σ H Q I h
 have new : ObjOk X.prog X.w (upd H s.heap.objs.size (.dK [])) (s.heap.push { cls := .type "dict", data := .dict #[] }) s.heap.objs.size (.dK []) :=
  ⟨Nat.zero_le _, beq_eq_false_iff_ne.mpr (Ne.symm (Nat.ne_of_lt (Er I))), [], .nil, Heap.DictOf.new s.heap⟩
 exact wpAny_Dict_empty ⟨.ref s.heap.objs.size, _, I.laid (t' := s.toks) (fun _ _ q => Heap.get?_push_of_some _ q) (Nat.le_refl _) new, rfl, h _ (I.hok.fresh (Nat.le_refl _))⟩
end
end L2
namespace L2
open PySem PySem.Spec PyProof.Rows Builtin Builtin.Str
section
variable {X : Cx}
structure AO (C : Hp -> Prop) (J : It) (vs : List V) : Prop where
 go : ∀ i H, C H -> i < vs.length -> J.go i H
 yld : ∀ i H x H', C H -> i < vs.length -> J.yld i H x H' -> H' = H /\ vs[i]? = some x
 stop : ∀ H, C H -> J.stop vs.length H
theorem pZ {J : It} {vs : List V} {σ' : St} {H1 : Hp} {Q : VK} {tt : TT} {te : TE} (C : Hp -> Prop) (E : AO C J vs) (p : V -> Bool) (f : V -> V) (hlen : vs.length <= sizeLine)
 (hp : ∀ x ∈ vs, ∀ H (R : Bool -> Hp -> Prop), C H -> R (p x) H -> tt (some x :: σ') H R) (hf : ∀ x ∈ vs, p x = true -> ∀ H (R : VK), C H -> R (f x) H -> te (some x :: σ') H R)
 (D : Addr) (hD : H1 D = none) (hC : ∀ ys, C (upd H1 D (.lst ys))) (q : Q (.ref D) (upd H1 D (.lst ((vs.filter p).map f)))) :
 ∃ W : Nat -> Nat -> List V -> Hp -> Prop, (∃ m, W 0 m [] (upd H1 D (.lst []))) /\
  ∀ i m ys H2, W i m ys H2 -> H2 D = some (.lst ys) /\ ((J.stop i H2 /\ Q (.ref D) H2) \/ (J.go i H2 /\ ∀ x H3, J.yld i H2 x H3 ->
   tt (some x :: σ') H3 fun b H4 => if b = true then te (some x :: σ') H4 fun y H5 => H5 D = some (.lst ys) /\ ys.length < sizeLine /\ ∃ m', m' < m /\ W (i + 1) m' (ys ++ [y]) (upd H5 D (.lst (ys ++ [y])))
    else ∃ m', m' < m /\ W (i + 1) m' ys H4)) := by
 refine ⟨fun i m ys H2 => m = vs.length - i /\ i <= vs.length /\ ys = ((vs.take i).filter p).map f /\ H2 = upd H1 D (.lst ys), ⟨vs.length, by simp, Nat.zero_le _, by simp, rfl⟩, ?_⟩
 rintro i m ys H2 ⟨rfl, hi, hys, rfl⟩
 refine ⟨ag, ?_⟩
 by_cases hlt : i < vs.length
 ·refine .inr ⟨E.go i _ (hC _) hlt, fun x H3 y => ?_⟩
  obtain ⟨e, hx⟩ := E.yld i _ x H3 (hC _) hlt y
  subst e
  have hm : x ∈ vs := List.mem_of_getElem? hx
  have htk : vs.take (i + 1) = vs.take i ++ [x] := by
   rw [List.take_succ, hx]; rfl
  have hyl : ys.length <= i := by
   rw [hys, List.length_map]
   exact Nat.le_trans (List.length_filter_le _ _) (by simp [List.length_take]; omega)
  refine hp x hm _ _ (hC _) ?_
  cases hb : p x with
  | true =>
   rw [if_pos rfl]
   refine hf x hm hb _ _ (hC _) ⟨ag, by omega, vs.length - (i + 1), by omega, rfl, hlt, ?_, ?_⟩
   ·rw [htk, List.filter_append, List.map_append, <- hys]
    simp [hb]
   ·funext z
    by_cases hz : z = D
    ·subst hz; rw [ag, ag]
    ·rw [aj hz, aj hz, aj hz]
  | false =>
   rw [if_neg Bool.false_ne_true]
   refine ⟨vs.length - (i + 1), by omega, rfl, hlt, ?_, rfl⟩
   rw [htk, List.filter_append, List.map_append, <- hys]
   simp [hb]
 ·have e : i = vs.length := by omega
  subst e
  refine .inl ⟨E.stop _ (hC _), ?_⟩
  rw [List.take_length] at hys
  rw [hys]; exact q
theorem Bt {K : PySem.W.Frag} {C : Hp -> Prop} {a : Addr} {vs : List V} (h : ∀ H, C H -> SqT K H a vs) : AO C (Itt K a) vs :=
 ⟨fun i H c hi => ⟨vs, vs[i], h H c, List.getElem?_eq_getElem hi⟩, fun i H x H' c _ y => ⟨y.1, y.2 vs (h H c)⟩, fun H c => ⟨vs, h H c, Nat.le_refl _⟩⟩
theorem A9 {K : PySem.W.Frag} {C : Hp -> Prop} {a : Addr} {vs : List V} (h : ∀ H, C H -> SqL K H a vs) : AO C (Itl K a) vs :=
 ⟨fun i H c hi => ⟨vs, vs[i], h H c, List.getElem?_eq_getElem hi⟩, fun i H x H' c _ y => ⟨y.1, y.2 vs (h H c)⟩, fun H c => ⟨vs, h H c, Nat.le_refl _⟩⟩
end
end L2
namespace L2
open PySem PySem.Spec PyProof.Rows
section
variable {X : Cx} {K : PySem.W.Frag} {pos : Pos}
theorem jR (K : PySem.W.Frag) {es : List Expr} {k : Nat} {t : TGs} {n : Nat} (hc : X.calm = true) (h : PGs X es t) (hK : X.K = K := by rfl)
 (hn : (assignEach es X.env).length = n := by rfl) (hst : (assignEach es X.env).findIdx? (·.1) = none := by rfl) : PG X (.Tuple es k pos) (Ew K n t) := by
 subst hK; exact DY hc h hn hst
end
section
variable {X : Cx} {T name id : String} {r : V -> List V -> Hp -> VK -> Prop} {o e : Expr} {es : List Expr} {to : TE} {t : TA} {apos cpos : Pos}
theorem e6 (K : PySem.W.Frag) (pa : PlainAttrs T) (slot : Slot T name id) (hty : typeOf (.builtin id) = pure (.type "method_descriptor")) (hm : MtR X id r) (ho : PE X o to) (ha : PA X (e :: es) t) (hK : X.K = K := by rfl)
 (hbase : attributeBase o name X.env (eval o X.env) = eval o X.env := by rfl)
 (hfew : ((backTo cpos (starEach (e :: es) X.env)).all (fun x => !x.1) && (backToKw cpos (keywordEach [] X.env)).all (fun x => x.1.isSome)
  && decide ((e :: es).length + ([] : List Keyword).length + (if ([] : List Keyword).isEmpty then 0 else 1) < 30)) = true := by rfl)
 (hline : (apos.endLine == cpos.line) = true := by rfl) (hs : starEach (e :: es) X.env = (false, eval e X.env) :: starEach es X.env := by rfl) (hplain : (backTo cpos (starEach es X.env)).any (·.1) = false := by rfl) :
 PE X (.Call (.Attribute o name apos) (e :: es) [] cpos) (tBM K T r to t) := by
 subst hK; exact FT pa slot hty hm ho ha hbase hfew hline hs hplain
end
section
variable {K : PySem.W.Frag} {tl : TE} {ks : List Nat} {σ : St} {H : Hp} {Q : VK} {tt : TT} {te : TE}
end
end L2
namespace L2
end L2
namespace L2
open PySem PySem.Spec PyProof.Rows Builtin Builtin.Str
def spN (c : Nat) : List Nat -> List (List Nat)
 | [] => [[]]
 | a :: r => if a = c then [] :: spN c r else match spN c r with
  | h :: t => (a :: h) :: t
  | [] => [[a]]
theorem kW (c : Nat) : ∀ l, spN c l ≠ []
 | [] => by simp [spN]
 | a :: r => by
  unfold spN
  split
  ·simp
  ·split <;> simp
theorem lA (c : Nat) : ∀ l : List Nat, c ∉ l -> spN c l = [l]
 | [], _ => rfl
 | a :: r, h => by
  have h1 : ¬ a = c := fun z => h (by rw [z]; simp)
  have h2 : c ∉ r := fun z => h (List.mem_cons_of_mem _ z)
  unfold spN
  rw [if_neg h1, lA c r h2]
theorem yK (c : Nat) : ∀ (l r : List Nat), c ∉ l -> spN c (l ++ c :: r) = l :: spN c r
 | [], r, _ => by simp [spN]
 | a :: l, r, h => by
  have h1 : ¬ a = c := fun z => h (by rw [z]; simp)
  have h2 : c ∉ l := fun z => h (List.mem_cons_of_mem _ z)
  rw [List.cons_append]
  show (if a = c then _ else _) = _
  rw [if_neg h1, yK c l r h2]
theorem pf (c : Nat) : ∀ ps : List (List Nat), ps ≠ [] -> (∀ p ∈ ps, c ∉ p) -> spN c (cM [c] ps) = ps
 | [], h, _ => absurd rfl h
 | [p], _, h => lA c p (h p (by simp))
 | p :: q :: r, _, h => by
  rw [cM, List.append_assoc, List.singleton_append, yK c p _ (h p (by simp)), pf c (q :: r) (by simp) fun x hx => h x (List.mem_cons_of_mem _ hx)]
theorem qg (c : Nat) : ∀ l : List Nat, cM [c] (spN c l) = l
 | [] => rfl
 | a :: r => by
  have ih := qg c r
  unfold spN
  split
  ·rename_i e
   cases es : spN c r with
   | nil => exact absurd es (kW c r)
   | cons h t => rw [es] at ih; rw [cM, ih, e]; rfl
  ·cases es : spN c r with
   | nil => exact absurd es (kW c r)
   | cons h t =>
    rw [es] at ih
    cases t with
    | nil => simp [cM] at ih ⊢; exact ih
    | cons h2 t => rw [cM] at ih ⊢; rw [<- ih]; simp
theorem jP (c : Nat) : ∀ (l : List Nat), ∀ p ∈ spN c l, c ∉ p
 | [], p, hp => by simp [spN] at hp; rw [hp]; simp
 | a :: r, p, hp => by
  unfold spN at hp
  split at hp
  ·rcases List.mem_cons.mp hp with h | h
   ·rw [h]; simp
   ·exact jP c r p h
  ·rename_i hne
   split at hp
   ·rename_i h t es
    rcases List.mem_cons.mp hp with e | e
    ·rw [e]
     have := jP c r h (by rw [es]; simp)
     simp only [List.mem_cons, not_or]
     exact ⟨fun z => hne z.symm, this⟩
    ·exact jP c r p (by rw [es]; exact List.mem_cons_of_mem _ e)
   ·rename_i es; exact absurd es (kW c r)
theorem oV (c : Nat) : ∀ l : List Nat, (spN c l).length <= l.length + 1
 | [] => by simp [spN]
 | a :: r => by
  have ih := oV c r
  unfold spN
  split
  ·simp; omega
  ·split
   ·rename_i es; rw [es] at ih; simp at ih ⊢; omega
   ·simp
theorem mh (c : Nat) : ∀ l : List Nat, ∀ p ∈ spN c l, p.length <= l.length /\ ∀ d ∈ p, d ∈ l
 | [], p, hp => by simp [spN] at hp; rw [hp]; simp
 | a :: r, p, hp => by
  unfold spN at hp
  split at hp
  ·rcases List.mem_cons.mp hp with h | h
   ·rw [h]; simp
   ·obtain ⟨h1, h2⟩ := mh c r p h
    exact ⟨by rw [List.length_cons]; omega, fun d hd => List.mem_cons_of_mem _ (h2 d hd)⟩
  ·split at hp
   ·rename_i h t es
    rcases List.mem_cons.mp hp with e | e
    ·obtain ⟨h1, h2⟩ := mh c r h (by rw [es]; simp)
     rw [e]
     refine ⟨by rw [List.length_cons, List.length_cons]; omega, fun d hd => ?_⟩
     rcases List.mem_cons.mp hd with z | z
     ·rw [z]; simp
     ·exact List.mem_cons_of_mem _ (h2 d z)
    ·obtain ⟨h1, h2⟩ := mh c r p (by rw [es]; exact List.mem_cons_of_mem _ e)
     exact ⟨by rw [List.length_cons]; omega, fun d hd => List.mem_cons_of_mem _ (h2 d hd)⟩
   ·rename_i es; exact absurd es (kW c r)
theorem BI (x y : Str) : Txt.split x y ≠ [] := by
 unfold Txt.split
 split
 ·simp
 ·split
  ·simp
  ·rw [StrLaws.partsBetween_eq]
   obtain ⟨p, r, e⟩ := StrLaws.partsFrom_ne x y.length 0 (occurrences x y 0 x.length (x.length + 1))
   rw [e]; simp
theorem BD (l : List Nat) (c : Nat) : (Txt.split ⟨⟨l⟩⟩ ⟨#[c]⟩).map (fun x => cs x) = spN c l := by
 have h1 := StrLaws.join_split ⟨⟨l⟩⟩ ⟨#[c]⟩
 have h2 := StrLaws.split_free ⟨⟨l⟩⟩ c
 have h0 := BI ⟨⟨l⟩⟩ ⟨#[c]⟩
 generalize Txt.split ⟨⟨l⟩⟩ ⟨#[c]⟩ = ps at h0 h1 h2
 have hj : cM [c] (ps.map fun x => cs x) = l := by
  have e : ps = (ps.map fun x => cs x).map S := by rw [List.map_map]; conv => lhs; rw [<- List.map_id ps]
                                                   apply List.map_congr_left; intro x _; rfl
  rw [e] at h1
  have h3 : Str.join (S [c]) ((ps.map fun x => cs x).map S) = S (cM [c] (ps.map fun x => cs x)) := by
   have := yy [c] (ps.map fun x => cs x)
   exact (StrLaws.glued_eq_join _ _).symm.trans this
  have h4 : S (cM [c] (ps.map fun x => cs x)) = ⟨⟨l⟩⟩ := h3.symm.trans h1
  have h5 := congrArg cs h4
  exact h5
 have hne : (ps.map fun x => cs x) ≠ [] := by
  intro z
  exact h0 (List.map_eq_nil_iff.mp z)
 rw [<- hj, pf c _ hne]
 intro p hp
 obtain ⟨x, hx, rfl⟩ := List.mem_map.mp hp
 exact h2 x hx
section
variable {X : Cx} {e a b c : Expr} {pos : Pos}
def DV : V -> List V -> Hp -> VK -> Prop
 | .str x, [.str y], H, Q => (∃ c, cs y = [c] /\ (cs x).length + 2 <= sizeLine /\ ∀ p, H p = none -> Q (.ref p) (upd H p (.lst ((spN c (cs x)).map T))))
 | _, _, _, _ => False
theorem rB : ∀ (l : List (Str × Tok)), Vals (l.map fun p => V.str p.1) (strValues l)
 | [] => .nil
 | p :: r => .cons ⟨p.2, rfl⟩ (rB r)
theorem qa : MtR X "str.split" DV := by
 intro pins s σ H x xs v us Q I rx rs h
 unfold DV at h
 split at h
 ·rename_i x y
  obtain ⟨c, hc, hz, q⟩ := h
  obtain ⟨t, rfl⟩ := rx
  obtain ⟨u, rfl, t', rfl⟩ := gs rs
  have hy := BK hc
  subst hy
  obtain ⟨⟨l⟩⟩ := x
  have hx : (⟨⟨l⟩⟩ : Str).length + 2 <= sizeLine := hz
  have fin : ∀ (l' : List (Str × Tok)) (k : Nat), l'.map (·.1) = Txt.split ⟨⟨l⟩⟩ ⟨#[c]⟩ -> EP X pins σ Q (.ref s.heap.objs.size) { s with toks := k, heap := s.heap.push { cls := .type "list", data := .seq (strValues l').toArray } } := fun l' k hl => by
   have e : (spN c l).map T = l'.map fun p => V.str p.1 := by
    rw [<- BD, <- hl, List.map_map, List.map_map]
    apply List.map_congr_left
    intro p _; rfl
   have hlen : ((spN c l).map T).length <= sizeLine := by
    rw [List.length_map]
    have := oV c l
    have hz' : l.length + 2 <= sizeLine := hz
    omega
   have hv : Vals ((spN c l).map T) (strValues l') := by rw [e]; exact rB l'
   exact ⟨.ref s.heap.objs.size, _, I.lnew (t' := k) hv hlen, rfl, q _ I.fresh⟩
  have hn : (partsBetween ⟨⟨l⟩⟩ (occurrences ⟨⟨l⟩⟩ ⟨#[c]⟩ 0 (⟨⟨l⟩⟩ : Str).length ((⟨⟨l⟩⟩ : Str).length + 1)) (⟨#[c]⟩ : Str).length).length <= sizeLine := by
   have e1 := StrLaws.occ_length_le ⟨⟨l⟩⟩ ⟨#[c]⟩ 0 (⟨⟨l⟩⟩ : Str).length ((⟨⟨l⟩⟩ : Str).length + 1)
   rw [length_partsBetween]; omega
  have hy : ((⟨#[c]⟩ : Str).length == 0) = false := rfl
  cases h1 : (decide ((⟨⟨l⟩⟩ : Str).length < (⟨#[c]⟩ : Str).length) || decide (strKind ⟨⟨l⟩⟩ < strKind ⟨#[c]⟩))
  ·cases hf : (occurrences ⟨⟨l⟩⟩ ⟨#[c]⟩ 0 (⟨⟨l⟩⟩ : Str).length ((⟨⟨l⟩⟩ : Str).length + 1)).isEmpty
   ·refine call_meets F.slot_str_split (typeIs_str _ _ _) F.entry_str_split (F.args_str_split_2 _ _) (meets_str_split_sep ⟨⟨l⟩⟩ ⟨#[c]⟩ t t' h1 hy hf (by omega) hn) ?_
    show wants _ _ _ { s with toks := _, heap := s.heap.push { cls := .type "list", data := .seq (strsFrom s.toks (partsBetween ⟨⟨l⟩⟩ (occurrences ⟨⟨l⟩⟩ ⟨#[c]⟩ 0 (⟨⟨l⟩⟩ : Str).length ((⟨⟨l⟩⟩ : Str).length + 1)) (⟨#[c]⟩ : Str).length)).toArray } }
    rw [strsFrom_eq]
    exact fin (numbered s.toks _) _ ((numbered_texts _ _).trans ((if_neg (ne_true_of_eq_false h1)).trans (if_neg (ne_true_of_eq_false hf))).symm)
   ·refine call_meets F.slot_str_split (typeIs_str _ _ _) F.entry_str_split (F.args_str_split_2 _ _) (meets_str_split_not_found ⟨⟨l⟩⟩ ⟨#[c]⟩ t t' h1 hy hf) ?_
    exact fin [(⟨⟨l⟩⟩, t)] s.toks ((if_neg (ne_true_of_eq_false h1)).trans (if_pos hf)).symm
  ·refine call_meets F.slot_str_split (typeIs_str _ _ _) F.entry_str_split (F.args_str_split_2 _ _) (meets_str_split_cannot_occur ⟨⟨l⟩⟩ ⟨#[c]⟩ t t' h1) ?_
   exact fin [(⟨⟨l⟩⟩, t)] s.toks (if_pos h1).symm
 ·exact h.elim
def Gy : R2
 | .ref l, .ref b, H, Q => ∃ xs zs, H l = some (.lst xs) /\ H b = some (.lst zs) /\ xs.length + zs.length <= sizeLine /\ ∀ p, H p = none -> Q (.ref p) (upd H p (.lst (xs ++ zs)))
 | _, _, _, _ => False
theorem pM (K : PySem.W.Frag) (h : X.K = K := by rfl) : SlR X (E0 K) := h ▸ BZ
def Ah (K : PySem.W.Frag) : List V -> Hp -> VK -> Prop
 | [.ref p], H, Q => ∃ ys, (SqL K H p ys \/ SqT K H p ys) /\ ∀ l, H l = none -> Q (.ref l) (upd H l (.lst ys))
 | _, _, _ => False
theorem yU (K : PySem.W.Frag) (hK : X.K = K := by rfl) : CallR X (.type "list") (Ah K) := by
 subst hK
 refine ul.imp fun xs H Q h => ?_
 unfold Ah at h; split at h
 ·obtain ⟨ys, h1, q⟩ := h
  exact ⟨_, ys, rfl, h1, q⟩
 ·exact h.elim
def xw (K : PySem.W.Frag) : List V -> Hp -> VK -> Prop
 | [.ref p], H, Q => ∃ ys, (SqL K H p ys /\ ∀ l, H l = none -> Q (.ref l) (upd H l (.tup ys))) \/ (SqT K H p ys /\ Q (.ref p) H)
 | _, _, _ => False
theorem ph (K : PySem.W.Frag) (hK : X.K = K := by rfl) : CallR X (.type "tuple") (xw K) := by
 subst hK
 refine rg.imp fun xs H Q h => ?_
 unfold xw at h; split at h
 ·obtain ⟨ys, h1⟩ := h
  exact ⟨_, ys, rfl, h1⟩
 ·exact h.elim
inductive EqH (K : PySem.W.Frag) (H : Hp) : Nat -> V -> V -> Bool -> Prop
 | flat {n x y} : fw x = true -> fw y = true -> EqH K H n x y (eqV x y)
 | same {n p} : EqH K H n (.ref p) (.ref p) true
 | lst {n p q xs ys} {e : Nat -> Bool} : p ≠ q -> SqL K H p xs -> SqL K H q ys -> xs.length = ys.length -> (∀ j x y, xs[j]? = some x -> ys[j]? = some y -> EqH K H n x y (e j)) -> EqH K H (n + 1) (.ref p) (.ref q) ((List.range xs.length).all e)
 | len {n p q xs ys} : p ≠ q -> SqL K H p xs -> SqL K H q ys -> xs.length ≠ ys.length -> EqH K H (n + 1) (.ref p) (.ref q) false
 | tup {n p q xs ys} {e : Nat -> Bool} : p ≠ q -> SqT K H p xs -> SqT K H q ys -> (∀ j x y, xs[j]? = some x -> ys[j]? = some y -> EqH K H n x y (e j)) -> EqH K H (n + 1) (.ref p) (.ref q) ((List.range (min xs.length ys.length)).all e && xs.length == ys.length)
 | lt {n p q xs ys} : SqL K H p xs -> SqT K H q ys -> EqH K H (n + 1) (.ref p) (.ref q) false
 | tl {n p q xs ys} : SqT K H p xs -> SqL K H q ys -> EqH K H (n + 1) (.ref p) (.ref q) false
theorem hJ {P : Value -> Value -> Bool -> Prop} {xs ys : List V} {its its' : List Value} {e : Nat -> Bool} (r : Vals xs its) (r' : Vals ys its') (h : ∀ j x y u v, xs[j]? = some x -> ys[j]? = some y -> RelV x u -> RelV y v -> P u v (e j)) :
 ∀ j (h1 : j < its.toArray.size) (h2 : j < its'.toArray.size), P its.toArray[j] its'.toArray[j] (e j) := fun j g1 g2 => by
 have h1 : xs.length = its.length := r.length
 have h2 : ys.length = its'.length := r'.length
 have g1' : j < its.length := by simpa using g1
 have g2' : j < its'.length := by simpa using g2
 have l1 : j < xs.length := by omega
 have l2 : j < ys.length := by omega
 obtain ⟨w1, e1, r1⟩ := r.get (List.getElem?_eq_getElem l1)
 obtain ⟨w2, e2, r2⟩ := r'.get (List.getElem?_eq_getElem l2)
 have z1 : its.toArray[j] = w1 := by
  have : its[j]? = some its[j] := List.getElem?_eq_getElem g1'
  rw [this] at e1; simpa using Option.some.inj e1
 have z2 : its'.toArray[j] = w2 := by
  have : its'[j]? = some its'[j] := List.getElem?_eq_getElem g2'
  rw [this] at e2; simpa using Option.some.inj e2
 rw [z1, z2]
 exact h j _ _ _ _ (List.getElem?_eq_getElem l1) (List.getElem?_eq_getElem l2) r1 r2
theorem EqH.at {K : PySem.W.Frag} {H : Hp} {n : Nat} {x y : V} {b : Bool} (h : EqH K H n x y b) : ∀ {X : Cx} {pins : List (Addr × Obj)} {σ : St} {s : Shared} {A : Around} {u v : Value}, X.K = K -> Inv X pins σ H s -> A.units + n < cLine -> RelV x u -> RelV y v -> SeqAt.EqAt A s u v b := by
 induction h with
 | flat fx fy =>
  intro X pins σ s A u v hK I hu rx ry
  exact w8 rx ry fx fy
 | same =>
  intro X pins σ s A u v hK I hu rx ry
  cases rx; cases ry
  exact SeqAt.EqAt.same _
 | @lst n p q xs ys e hpq hx hy hl _ ih =>
  intro X pins σ s A u v hK I hu rx ry
  cases rx; cases ry
  subst hK
  obtain ⟨its, r, pl, hz⟩ := I.list hx
  obtain ⟨its', r', pl', hz'⟩ := I.list hy
  have h1 : xs.length = its.length := r.length
  have h2 : ys.length = its'.length := r'.length
  have := SeqAt.RcAt.lists (A := A) (e := e) pl.isList pl'.isList (by simp; omega) (by omega) (hJ r r' fun j x y u v g1 g2 r1 r2 => ih j x y g1 g2 rfl I (by show A.units + 1 + n < cLine; omega) r1 r2)
  rw [List.size_toArray, <- h1] at this
  exact .of_refs hpq this
 | @len n p q xs ys hpq hx hy hl =>
  intro X pins σ s A u v hK I hu rx ry
  cases rx; cases ry
  subst hK
  obtain ⟨its, r, pl, hz⟩ := I.list hx
  obtain ⟨its', r', pl', hz'⟩ := I.list hy
  have h1 : xs.length = its.length := r.length
  have h2 : ys.length = its'.length := r'.length
  exact .of_refs hpq (SeqAt.RcAt.lists_lengths pl.isList pl'.isList (by simp; omega) (by omega))
 | @tup n p q xs ys e hpq hx hy _ ih =>
  intro X pins σ s A u v hK I hu rx ry
  cases rx; cases ry
  subst hK
  obtain ⟨its, r, pl, hz⟩ := I.tuple hx
  obtain ⟨its', r', pl', hz'⟩ := I.tuple hy
  have h1 : xs.length = its.length := r.length
  have h2 : ys.length = its'.length := r'.length
  have := SeqAt.RcAt.tuples (A := A) (e := e) pl pl' (by omega) (hJ r r' fun j x y u v g1 g2 r1 r2 => ih j x y g1 g2 rfl I (by show A.units + 1 + n < cLine; omega) r1 r2)
  rw [List.size_toArray, List.size_toArray, <- h1, <- h2] at this
  exact .of_refs hpq this
 | lt hx hy =>
  intro X pins σ s A u v hK I hu rx ry
  cases rx; cases ry
  subst hK
  obtain ⟨its, r, pl, hz⟩ := I.list hx
  obtain ⟨its', r', pl', hz'⟩ := I.tuple hy
  exact SeqAt.EqAt.list_tuple pl.isList pl' (by omega)
 | tl hx hy =>
  intro X pins σ s A u v hK I hu rx ry
  cases rx; cases ry
  subst hK
  obtain ⟨its, r, pl, hz⟩ := I.tuple hx
  obtain ⟨its', r', pl', hz'⟩ := I.list hy
  exact SeqAt.EqAt.tuple_list pl pl'.isList (by omega)
inductive EqR (K : PySem.W.Frag) (H : Hp) (p q : Addr) : Bool -> Prop
 | lst {xs ys} {e : Nat -> Bool} : SqL K H p xs -> SqL K H q ys -> xs.length = ys.length -> (∀ j x y, xs[j]? = some x -> ys[j]? = some y -> EqH K H 50 x y (e j)) -> EqR K H p q ((List.range xs.length).all e)
 | len {xs ys} : SqL K H p xs -> SqL K H q ys -> xs.length ≠ ys.length -> EqR K H p q false
 | tup {xs ys} {e : Nat -> Bool} : SqT K H p xs -> SqT K H q ys -> (∀ j x y, xs[j]? = some x -> ys[j]? = some y -> EqH K H 50 x y (e j)) -> EqR K H p q ((List.range (min xs.length ys.length)).all e && xs.length == ys.length)
def AX (K : PySem.W.Frag) (neg : Bool) : R2
 | .ref p, .ref q, H, Q => ∃ b, EqR K H p q b /\ Q (.bl (neg ^^ b)) H
 | _, _, _, _ => False
theorem Fa (K : PySem.W.Frag) (hu : X.A.units + 100 < cLine) (hK : X.K = K := by rfl) : OpR X (compareOp .Eq) (AX K false) := by
 subst hK
 intro pins s σ H x y v u Q I rx ry h
 unfold AX at h
 split at h
 ·rename_i p q
  obtain ⟨b, hb, q⟩ := h
  cases rx; cases ry
  cases hb with
  | @lst xs ys e hx hy hl he =>
   obtain ⟨its, r, pl, hz⟩ := I.list hx
   obtain ⟨its', r', pl', hz'⟩ := I.list hy
   have h1 : xs.length = its.length := r.length
   have h2 : ys.length = its'.length := r'.length
   refine SeqAt.eq_listAt (e := e) pl.isList pl'.isList (by simp; omega) (by omega) (hJ r r' fun j x y u v g1 g2 r1 r2 => (he j x y g1 g2).at rfl I (by show X.A.units + 1 + 50 < cLine; omega) r1 r2) ⟨.bl _, H, I, rfl, ?_⟩
   rw [List.size_toArray, <- h1]; simpa using q
  | @len xs ys hx hy hl =>
   obtain ⟨its, r, pl, hz⟩ := I.list hx
   obtain ⟨its', r', pl', hz'⟩ := I.list hy
   have h1 : xs.length = its.length := r.length
   have h2 : ys.length = its'.length := r'.length
   exact SeqAt.eq_list_lengthsAt pl.isList pl'.isList (by simp; omega) (by omega) ⟨.bl false, H, I, rfl, by simpa using q⟩
  | @tup xs ys e hx hy he =>
   obtain ⟨its, r, pl, hz⟩ := I.tuple hx
   obtain ⟨its', r', pl', hz'⟩ := I.tuple hy
   have h1 : xs.length = its.length := r.length
   have h2 : ys.length = its'.length := r'.length
   refine SeqAt.eq_tupleAt (e := e) pl pl' (by omega) (hJ r r' fun j x y u v g1 g2 r1 r2 => (he j x y g1 g2).at rfl I (by show X.A.units + 1 + 50 < cLine; omega) r1 r2) ⟨.bl _, H, I, rfl, ?_⟩
   rw [List.size_toArray, List.size_toArray, <- h1, <- h2]; simpa using q
 ·exact h.elim
theorem En (K : PySem.W.Frag) (hu : X.A.units + 100 < cLine) (hK : X.K = K := by rfl) : OpR X (compareOp .NotEq) (AX K true) := by
 subst hK
 intro pins s σ H x y v u Q I rx ry h
 unfold AX at h
 split at h
 ·rename_i p q
  obtain ⟨b, hb, q⟩ := h
  cases rx; cases ry
  cases hb with
  | @lst xs ys e hx hy hl he =>
   obtain ⟨its, r, pl, hz⟩ := I.list hx
   obtain ⟨its', r', pl', hz'⟩ := I.list hy
   have h1 : xs.length = its.length := r.length
   have h2 : ys.length = its'.length := r'.length
   refine SeqAt.RcNeAt.lists (e := e) pl.isList pl'.isList (by simp; omega) (by omega) (hJ r r' fun j x y u v g1 g2 r1 r2 => (he j x y g1 g2).at rfl I (by show X.A.units + 1 + 50 < cLine; omega) r1 r2) X.prog X.w X.xe _ ⟨.bl _, H, I, rfl, ?_⟩
   rw [List.size_toArray, <- h1]; simpa using q
  | @len xs ys hx hy hl =>
   obtain ⟨its, r, pl, hz⟩ := I.list hx
   obtain ⟨its', r', pl', hz'⟩ := I.list hy
   have h1 : xs.length = its.length := r.length
   have h2 : ys.length = its'.length := r'.length
   exact SeqAt.RcNeAt.lists_lengths pl.isList pl'.isList (by simp; omega) (by omega) X.prog X.w X.xe _ ⟨.bl true, H, I, rfl, by simpa using q⟩
  | @tup xs ys e hx hy he =>
   obtain ⟨its, r, pl, hz⟩ := I.tuple hx
   obtain ⟨its', r', pl', hz'⟩ := I.tuple hy
   have h1 : xs.length = its.length := r.length
   have h2 : ys.length = its'.length := r'.length
   refine SeqAt.RcNeAt.tuples (e := e) pl pl' (by omega) (hJ r r' fun j x y u v g1 g2 r1 r2 => (he j x y g1 g2).at rfl I (by show X.A.units + 1 + 50 < cLine; omega) r1 r2) X.prog X.w X.xe _ ⟨.bl _, H, I, rfl, ?_⟩
   rw [List.size_toArray, List.size_toArray, <- h1, <- h2]; simpa using q
 ·exact h.elim
end
end L2
namespace PySem
open Sem (wp)
open Builtin
end PySem
namespace L2
open PySem PySem.Spec PyProof.Rows Builtin Builtin.Str
section
variable {X : Cx} {e a b c : Expr} {pos : Pos}
def mR (K : PySem.W.Frag) (neg : Bool) : R2 := fun x y H Q => match eqS x y with
 | some k => Q (.bl (neg ^^ k)) H
 | none => AX K neg x y H Q
theorem eA (K : PySem.W.Frag) (hu : X.A.units + 100 < cLine) (hK : X.K = K := by rfl) : OpR X (compareOp .Eq) (mR K false) := ((D2 (by omega)).or (Fa K hu hK)).imp fun x y H Q h => by
 unfold mR at h
 split at h
 ·rename_i k hk
  obtain ⟨h1, h2⟩ := vE hk
  exact .inl (.inl ⟨h1, by rw [h2]; simpa using h⟩)
 ·exact .inr h
theorem gM (K : PySem.W.Frag) (hu : X.A.units + 100 < cLine) (hK : X.K = K := by rfl) : OpR X (compareOp .NotEq) (mR K true) := ((ER (by omega)).or (En K hu hK)).imp fun x y H Q h => by
 unfold mR at h
 split at h
 ·rename_i k hk
  obtain ⟨h1, h2⟩ := vE hk
  exact .inl (.inl ⟨h1, by rw [h2]; simpa using h⟩)
 ·exact .inr h
variable {K : PySem.W.Frag} {neg : Bool} {H : Hp} {Q : VK}
theorem yr {i j : Int} : mR K neg (.int i) (.int j) H Q = Q (.bl (neg ^^ decide (i = j))) H := rfl
theorem Bg {i j : Bool} : mR K neg (.bl i) (.bl j) H Q = Q (.bl (neg ^^ decide (i = j))) H := rfl
theorem xK {i j : Str} : mR K neg (.str i) (.str j) H Q = Q (.bl (neg ^^ decide (i.cps.toList = j.cps.toList))) H := rfl
theorem yx {p q : Addr} : mR K neg (.ref p) (.ref q) H Q = ∃ b, EqR K H p q b /\ Q (.bl (neg ^^ b)) H := rfl
theorem AB : mR K neg .non .non H Q = Q (.bl (neg ^^ true)) H := rfl
theorem Bw {i : Int} : mR K neg .non (.int i) H Q = Q (.bl (neg ^^ false)) H := rfl
theorem Bf {i : Int} : mR K neg (.int i) .non H Q = Q (.bl (neg ^^ false)) H := rfl
theorem Az {i : Int} {s : Str} : mR K neg (.int i) (.str s) H Q = Q (.bl (neg ^^ false)) H := rfl
theorem zZ {i : Int} {s : Str} : mR K neg (.str s) (.int i) H Q = Q (.bl (neg ^^ false)) H := rfl
end
theorem zW {K : PySem.W.Frag} {tl : TE} {g : TG} {tb : TS} {D : cv} {σ : St} {H : Hp} (h : tl σ H fun v H1 => qK (zc K (tC v)) g tb D σ H1) : qK (zc K tl) g tb D σ H := h
theorem pQ {K : PySem.W.Frag} {tl : TE} {g : TG} {tb : TS} {D : cv} {σ : St} {H : Hp} (h : tl σ H fun v H1 => qK (qD K (tC v)) g tb D σ H1) : qK (qD K tl) g tb D σ H := h
theorem BU {K : PySem.W.Frag} {a : Addr} {xs : List V} {g : TG} {tb : TS} {D : cv} {σ : St} {H : Hp} (hq : SqT K H a xs) (h : ∃ W : Nat -> Nat -> St -> Hp -> Prop, (∃ m, W 0 m σ H) /\ ∀ i m σ H, W i m σ H ->
 ((Itt K a).stop i H /\ D.nx σ H) \/ ((Itt K a).go i H /\ ∃ N : St -> Hp -> Prop, (∀ σ' H', N σ' H' -> ∃ m', m' < m /\ W (i + 1) m' σ' H') /\ ∀ x H', (Itt K a).yld i H x H' -> g x σ H' fun σ2 H2 => tb { D with nx := N, ct := N, bk := D.nx } σ2 H2)) : qK (zc K (tC (.ref a))) g tb D σ H := ⟨a, rfl, ⟨xs, hq⟩, h⟩
theorem qf {K : PySem.W.Frag} {a : Addr} {xs : List V} {g : TG} {tb : TS} {D : cv} {σ : St} {H : Hp} (hq : SqL K H a xs) (h : ∃ W : Nat -> Nat -> St -> Hp -> Prop, (∃ m, W 0 m σ H) /\ ∀ i m σ H, W i m σ H ->
 ((Itl K a).stop i H /\ D.nx σ H) \/ ((Itl K a).go i H /\ ∃ N : St -> Hp -> Prop, (∀ σ' H', N σ' H' -> ∃ m', m' < m /\ W (i + 1) m' σ' H') /\ ∀ x H', (Itl K a).yld i H x H' -> g x σ H' fun σ2 H2 => tb { D with nx := N, ct := N, bk := D.nx } σ2 H2)) : qK (qD K (tC (.ref a))) g tb D σ H := ⟨a, rfl, ⟨xs, hq⟩, h⟩
theorem sh {ls : List (List Nat)} {H H1 : Hp} {Q : VK} {i : Int} (h0 : 0 <= i) (h1 : i < ls.length) (q : ∀ l ∈ ls, Q (T l) H) : jD (ls.map T) H H1 Q (.int i) := by
 obtain ⟨j, rfl⟩ : ∃ j : Nat, i = j := ⟨i.toNat, by omega⟩
 have hj : j < ls.length := by omega
 have e : atI (ls.map T) (j : Int) = some (T ls[j]) := aB (by simp [hj])
 simp only [jD, e]
 exact q _ (List.getElem_mem hj)
theorem ze (lo : Int) (n : Nat) : Ef (Itr lo n) ((List.range n).map fun k => V.int (lo + (k : Nat))) := by
 refine ⟨fun i H h => by simpa [Itr] using h, fun i H x H' hi y => ?_, fun H => by simp [Itr]⟩
 obtain ⟨e, rfl⟩ := y
 refine ⟨e, ?_⟩
 have hi' : i < n := by simpa using hi
 simp [hi']
end L2
namespace L2
theorem aM {k : Nat} {A : PySem.Around} (r : Room k A) : A.units + 100 < PySem.cLine := by have := r.un; omega
end L2
namespace L2
open PySem PySem.Spec PyProof.Rows
section
variable {κ : Type} [DecidableEq κ]
def ju (kvs : List (κ × V)) (k : κ) : Option V := (kvs.find? fun kv => decide (kv.1 = k)).map (·.2)
def iG (kvs : List (κ × V)) (k : κ) (v : V) : List (κ × V) :=
 if (kvs.any fun kv => decide (kv.1 = k)) = true then kvs.map (fun kv => if kv.1 = k then (kv.1, v) else kv) else kvs ++ [(k, v)]
def GP (kvs : List (κ × V)) (k : κ) : List (κ × V) := kvs.filter fun kv => decide (kv.1 ≠ k)
theorem gT {p : κ × V} {r : List (κ × V)} {k : κ} (e : p.1 = k) : ju (p :: r) k = some p.2 := by simp [ju, List.find?_cons, e]
theorem fX {p : κ × V} {r : List (κ × V)} {k : κ} (e : ¬ p.1 = k) : ju (p :: r) k = ju r k := by simp [ju, List.find?_cons, e]
theorem pp (k : κ) : ∀ kvs : List (κ × V), (kvs.any fun kv => decide (kv.1 = k)) = (ju kvs k).isSome
 | [] => rfl
 | p :: r => by
  rw [List.any_cons]
  by_cases e : p.1 = k
  ·simp only [gT e, decide_eq_true e, Bool.true_or, Option.isSome_some]
  ·rw [fX e, decide_eq_false e, Bool.false_or]; exact pp k r
theorem ny (kvs : List (κ × V)) (k : κ) (v : V) : (iG kvs k v).length <= kvs.length + 1 := by
 unfold iG
 split
 ·rw [List.length_map]; omega
 ·rw [List.length_append, List.length_cons, List.length_nil]; omega
theorem v4 {kvs : List (κ × V)} {k : κ} (v : V) (h : ju kvs k = none) : iG kvs k v = kvs ++ [(k, v)] := by
 unfold iG
 rw [pp, h]
 exact if_neg (by decide)
theorem RelO.isSome_eq {o : Option V} {u : Option Value} (r : RelO o u) : o.isSome = u.isSome := by
 cases o with
 | none => cases u with
  | none => rfl
  | some _ => exact (show False from r).elim
 | some _ => cases u with
  | none => exact (show False from r).elim
  | some _ => rfl
theorem RelO.getD {o : Option V} {u : Option Value} {d : V} {d' : Value} (r : RelO o u) (rd : RelV d d') : RelV (o.getD d) (u.getD d') := by
 cases o with
 | none => cases u with
  | none => exact rd
  | some _ => exact (show False from r).elim
 | some _ => cases u with
  | none => exact (show False from r).elim
  | some _ => exact r
theorem KV.val {kvs : List (κ × V)} {vs : List (κ × Value)} (r : KV kvs vs) (k : κ) : RelO (ju kvs k) (valueAt vs k) := by
 unfold KV at r
 induction r with
 | nil => exact True.intro
 | @cons p q ps qs h t ih =>
  obtain ⟨h1, h2⟩ := h
  by_cases e : p.1 = k
  ·have e' : q.1 = k := h1.symm.trans e
   have b : valueAt (q :: qs) k = some q.2 := by simp [valueAt, List.find?_cons, e']
   rw [gT e, b]; exact h2
  ·have e' : ¬ q.1 = k := fun z => e (h1.trans z)
   have b : valueAt (q :: qs) k = valueAt qs k := by simp [valueAt, List.find?_cons, e']
   rw [fX e, b]; exact ih
theorem KV.any {kvs : List (κ × V)} {vs : List (κ × Value)} (r : KV kvs vs) (k : κ) : (kvs.any fun kv => decide (kv.1 = k)) = vs.any fun kv => decide (kv.1 = k) := by
 unfold KV at r
 induction r with
 | nil => rfl
 | cons h t ih => rw [List.any_cons, List.any_cons, ih, h.1]
theorem KV.repl {kvs : List (κ × V)} {vs : List (κ × Value)} (r : KV kvs vs) (k : κ) {y : V} {u : Value} (ry : RelV y u) :
 KV (kvs.map fun kv => if kv.1 = k then (kv.1, y) else kv) (vs.map fun kv => if kv.1 = k then (kv.1, u) else kv) := by
 unfold KV at r ⊢
 induction r with
 | nil => exact .nil
 | @cons p q ps qs h t ih =>
  rw [List.map_cons, List.map_cons]
  refine .cons ?_ ih
  obtain ⟨h1, h2⟩ := h
  by_cases e : p.1 = k
  ·rw [if_pos e, if_pos (h1.symm.trans e)]; exact ⟨h1, ry⟩
  ·rw [if_neg e, if_neg (fun z => e (h1.trans z))]; exact ⟨h1, h2⟩
theorem KV.put {kvs : List (κ × V)} {vs : List (κ × Value)} (r : KV kvs vs) (k : κ) {y : V} {u : Value} (ry : RelV y u) : KV (iG kvs k y) (stored vs k u) := by
 unfold iG stored
 rw [r.any k]
 by_cases e : (vs.any fun kv => decide (kv.1 = k)) = true
 ·rw [if_pos e, if_pos e]; exact r.repl k ry
 ·rw [if_neg e, if_neg e]; exact Paired.snoc r ⟨rfl, ry⟩
theorem KV.length {kvs : List (κ × V)} {vs : List (κ × Value)} (r : KV kvs vs) : kvs.length = vs.length := Paired.length r
end
theorem uK {P : Program} {w : World} {k : Key} {u : Value} (r : RelV (kV k) u) : (bV P w).is k u = true := by
 cases k with
 | inl i => obtain ⟨t, e⟩ := (show ∃ t, u = Value.int i t from r); subst e; exact u0 P w i t
 | inr x => obtain ⟨t, e⟩ := (show ∃ t, u = Value.str x t from r); subst e; exact wc P w x t
theorem EE {a b : Key} (e : kV a = kV b) : a = b := by
 cases a with
 | inl i => cases b with
  | inl j => have e' : V.int i = V.int j := e; injection e' with e'; rw [e']
  | inr y => exact nomatch (show V.int i = V.str y from e)
 | inr x => cases b with
  | inl j => exact nomatch (show V.str x = V.int j from e)
  | inr y => have e' : V.str x = V.str y := e; injection e' with e'; rw [e']
theorem ym : ∀ {a b : List Key}, a.map kV = b.map kV -> a = b
 | [], [], _ => rfl
 | [], _ :: _, e => by simp at e
 | _ :: _, [], e => by simp at e
 | x :: xs, y :: ys, e => by
  rw [List.map_cons, List.map_cons] at e
  injection e with e1 e2
  rw [EE e1, ym e2]
theorem ss {P : Program} {w : World} : ∀ {ks : List Key} {us : List Value}, Vals (ks.map kV) us -> ItemsAre (bV P w) ks us
 | [], _, r => by rw [List.map_nil] at r; cases r; exact .nil
 | k :: ks, _, r => by
  rw [List.map_cons] at r
  cases r with
  | cons h t => exact .cons (uK h) (ss t)
abbrev KT (H : Hp) : List (List Key × V) -> List (List Key × Addr × Value) -> Prop := Paired fun p q => p.1 = q.1 /\ H q.2.1 = some (.tup (p.1.map kV)) /\ RelV p.2 q.2.2
theorem KT.val {H : Hp} {kvs : List (List Key × V)} {xs : List (List Key × Addr × Value)} (r : KT H kvs xs) (k : List Key) : RelO (ju kvs k) ((atKey xs k).map (·.2)) := by
 induction r with
 | nil => exact True.intro
 | @cons p q ps qs h t ih =>
  obtain ⟨h1, _, h2⟩ := h
  by_cases e : p.1 = k
  ·have e' : q.1 = k := h1.symm.trans e
   have b : atKey (q :: qs) k = some q.2 := by simp [atKey, List.find?_cons, e']
   rw [gT e, b]; exact h2
  ·have e' : ¬ q.1 = k := fun z => e (h1.trans z)
   have b : atKey (q :: qs) k = atKey qs k := by simp [atKey, List.find?_cons, e']
   rw [fX e, b]; exact ih
theorem KT.repl {H : Hp} {kvs : List (List Key × V)} {xs : List (List Key × Addr × Value)} (r : KT H kvs xs) (k : List Key) {y : V} {u : Value} (ry : RelV y u) :
 KT H (kvs.map fun kv => if kv.1 = k then (kv.1, y) else kv) (xs.map (putAt k u)) := by
 induction r with
 | nil => exact .nil
 | @cons p q ps qs h t ih =>
  rw [List.map_cons, List.map_cons]
  refine .cons ?_ ih
  obtain ⟨h1, h2, h3⟩ := h
  unfold putAt
  by_cases e : p.1 = k
  ·rw [if_pos e, if_pos (h1.symm.trans e)]; exact ⟨h1, h2, ry⟩
  ·rw [if_neg e, if_neg (fun z => e (h1.trans z))]; exact ⟨h1, h2, h3⟩
theorem KT.put {H : Hp} {kvs : List (List Key × V)} {xs : List (List Key × Addr × Value)} (r : KT H kvs xs) (k : List Key) {b : Addr} {y : V} {u : Value} (hb : H b = some (.tup (k.map kV))) (ry : RelV y u) :
 KT H (iG kvs k y) (storedH xs k b u) := by
 have e : (kvs.any fun kv => decide (kv.1 = k)) = (atKey xs k).isSome := by
  rw [pp, (r.val k).isSome_eq, Option.isSome_map]
 unfold iG storedH
 rw [e]
 by_cases q : (atKey xs k).isSome = true
 ·rw [if_pos q, if_pos q]; exact r.repl k ry
 ·rw [if_neg q, if_neg q]; exact Paired.snoc r ⟨rfl, hb, ry⟩
theorem KT.keeps {H H' : Hp} {kvs : List (List Key × V)} {xs : List (List Key × Addr × Value)} (r : KT H kvs xs) (ht : ∀ b ys, H b = some (.tup ys) -> H' b = some (.tup ys)) : KT H' kvs xs :=
 Paired.mapP r fun _ _ z => ⟨z.1, ht _ _ z.2.1, z.2.2⟩
section
variable {P : Program} {w : World} {H : Hp} {h : Heap} {a : Addr}
theorem Bq {u : HO} (ok : HOk P w H h) (e : Rd H a u) : ObjOk P w H h a u := e.ok ok
theorem sD {kvs : List (Key × V)} (ok : HOk P w H h) (e : Rd H a (.dK kvs)) : kvs.length <= sizeLine /\ (a == sysModules) = false /\ ∃ vs, KV kvs vs /\ h.DictOf (bV P w) a vs :=
 show ObjOk P w H h a (.dK kvs) from Bq ok e
theorem F6 {kvs : List (Key × V)} (ok : HOk P w H h) (e : H a = some (.dK kvs)) : kvs.length <= sizeLine /\ (a == sysModules) = false /\ ∃ vs, KV kvs vs /\ h.DictOf (bV P w) a vs := sD ok (.inl e)
theorem qk {ks : List Key} (ok : HOk P w H h) (e : H a = some (.tup (ks.map kV))) : (tupleKind (bV P w)).is h ks a := by
 obtain ⟨_, its, r, o, h1, h2, n, h3⟩ := (show ObjOk P w H h a (.tup (ks.map kV)) from ok a _ e)
 exact ⟨o, its.toArray, n, h1, h2, h3, by simpa using ss r⟩
theorem sj {kvs : List (List Key × V)} (ok : HOk P w H h) (e : Rd H a (.dT kvs)) : kvs.length <= sizeLine /\ (a == sysModules) = false /\
 ∃ xs, KT H kvs xs /\ h.DictOfH (tupleKind (bV P w)) a xs := by
 obtain ⟨z, y, xs, r, o, es, ep, h1, h2, h3, h4, h5⟩ := (show ObjOk P w H h a (.dT kvs) from Bq ok e)
 refine ⟨z, y, xs, r, o, es, ep, h1, h2, h3, h4, fun x hx => ?_, h5⟩
 have all : ∀ {l : List (List Key × V)} {m : List (List Key × Addr × Value)}, KT H l m -> ∀ x ∈ m, (tupleKind (bV P w)).is h x.1 x.2.1 := by
  intro l m q
  induction q with
  | nil => intro x hx; exact nomatch hx
  | @cons p q ps qs hq t ih =>
   intro x hx
   rcases List.mem_cons.mp hx with e | hx
   ·subst e
    exact qk ok (by rw [<- hq.1]; exact hq.2.1)
   ·exact ih x hx
 exact all r x hx
theorem Dt {kvs : List (List Key × V)} (ok : HOk P w H h) (e : H a = some (.dT kvs)) : kvs.length <= sizeLine /\ (a == sysModules) = false /\
 ∃ xs, KT H kvs xs /\ h.DictOfH (tupleKind (bV P w)) a xs := sj ok (.inl e)
end
def DGet (H : Hp) (a : Addr) (y : V) (r : Option V) : Prop :=
 (∃ kvs k, Rd H a (.dK kvs) /\ y = kV k /\ r = ju kvs k) \/ ∃ kvs k b, Rd H a (.dT kvs) /\ y = .ref b /\ H b = some (.tup (k.map kV)) /\ r = ju kvs k
def DPut (H : Hp) (a : Addr) (y v : V) (H' : Hp) : Prop :=
 (∃ kvs k, H a = some (.dK kvs) /\ y = kV k /\ kvs.length < sizeLine /\ H' = upd H a (.dK (iG kvs k v))) \/
 ∃ kvs k b, H a = some (.dT kvs) /\ y = .ref b /\ H b = some (.tup (k.map kV)) /\ kvs.length < sizeLine /\ H' = upd H a (.dT (iG kvs k v))
theorem DGet.k {H : Hp} {a : Addr} {kvs : List (Key × V)} {k : Key} (e : H a = some (.dK kvs)) : DGet H a (kV k) (ju kvs k) := .inl ⟨kvs, k, .inl e, rfl, rfl⟩
theorem DGet.t {H : Hp} {a b : Addr} {kvs : List (List Key × V)} {k : List Key} (e : H a = some (.dT kvs)) (eb : H b = some (.tup (k.map kV))) : DGet H a (.ref b) (ju kvs k) := .inr ⟨kvs, k, b, .inl e, rfl, eb, rfl⟩
theorem DPut.k {H : Hp} {a : Addr} {kvs : List (Key × V)} {k : Key} {v : V} (e : H a = some (.dK kvs)) (hl : kvs.length < sizeLine) : DPut H a (kV k) v (upd H a (.dK (iG kvs k v))) := .inl ⟨kvs, k, e, rfl, hl, rfl⟩
theorem DPut.t {H : Hp} {a b : Addr} {kvs : List (List Key × V)} {k : List Key} {v : V} (e : H a = some (.dT kvs)) (eb : H b = some (.tup (k.map kV))) (hl : kvs.length < sizeLine) :
 DPut H a (.ref b) v (upd H a (.dT (iG kvs k v))) := .inr ⟨kvs, k, b, e, rfl, eb, hl, rfl⟩
section
variable {X : Cx} {pins : List (Addr × Obj)} {σ : St} {H : Hp} {s : Shared} {a : Addr} {y v : V} {u r : Value} {o : Option V} {A : Around} {E : Value -> Shared -> Prop}
theorem Inv.big (I : Inv X pins σ H s) : sysModules < s.heap.objs.size := by
 have h : mainGlobals < s.heap.objs.size := (I.mod.glob.keeps I.bk).lt
 exact Nat.lt_trans (by decide) h
theorem zt {Q : Value -> Shared -> Prop} (hu : A.units + 1 < cLine) (I : Inv X pins σ H s) (g : DGet H a y (some v)) (ry : RelV y u) (h : ∀ w' s', Inv X pins σ H s' -> RelV v w' -> Q w' s') :
 wpAny (model X.prog X.w) A (getItem (.ref a) u) Q E s := by
 rcases g with ⟨kvs, k, e, ey, l⟩ | ⟨kvs, k, b, e, ey, eb, l⟩
 ·subst ey
  obtain ⟨z, hd, vs, rel, dd⟩ := sD I.hok e
  obtain ⟨w', hw, rw'⟩ := RelO.some_of (v := v) (o := valueAt vs k) (by rw [l]; exact rel.val k)
  exact wpAny_getItem_of (uK ry) dd.mapOf hw (h w' _ (I.tok _) rw')
 ·subst ey
  cases (show u = Value.ref b from ry)
  obtain ⟨z, hd, xs, rel, dd⟩ := sj I.hok e
  obtain ⟨w', hw, rw'⟩ := RelO.some_of (v := v) (o := (atKey xs k).map (·.2)) (by rw [l]; exact rel.val k)
  obtain ⟨p, hp, hp2⟩ := Option.map_eq_some_iff.mp hw
  refine wpAny_getItem_heap (tupleKind_room_in1 hu) (qk I.hok eb) dd hp ?_
  rw [hp2]
  exact h w' _ (I.tok _) rw'
theorem GL {Q : Value -> Shared -> Prop} (hu : A.units + 1 < cLine) (I : Inv X pins σ H s) (g : DGet H a y o) (ry : RelV y u) (h : ∀ s', Inv X pins σ H s' -> Q (.bool o.isSome) s') :
 wpAny (model X.prog X.w) A (compareOp .In u (.ref a)) Q E s := by
 rcases g with ⟨kvs, k, e, ey, l⟩ | ⟨kvs, k, b, e, ey, eb, l⟩
 ·subst ey
  obtain ⟨z, hd, vs, rel, dd⟩ := sD I.hok e
  refine wpAny_in_of (uK ry) hd dd.mapOf ?_
  rw [<- (rel.val k).isSome_eq, <- l]
  exact h _ (I.tok _)
 ·subst ey
  cases (show u = Value.ref b from ry)
  obtain ⟨z, hd, xs, rel, dd⟩ := sj I.hok e
  refine wpAny_in_heap (tupleKind_room_in1 hu) (qk I.hok eb) hd dd ?_
  have q := (rel.val k).isSome_eq
  rw [Option.isSome_map] at q
  rw [<- q, <- l]
  exact h _ (I.tok _)
theorem yo {h' : Heap} {t' : Nat} {ob : HO} (I : Inv X pins σ H s) (mu : Mut (H a)) (hs : Heap.SameBut a s.heap h') (he : ∃ q, h'.get? a = some q) (new : ObjOk X.prog X.w (upd H a ob) h' a ob) :
 Inv X pins σ (upd H a ob) { s with heap := h', toks := t' } :=
 I.write (x := a) (e := a) mu (.inl rfl) (fun b q hb z => (hs.2 b hb).trans z) he new
theorem Eg {P : Program} {w : World} {H' : Hp} {h' : Heap} {kvs : List (Key × V)} {vs : List (Key × Value)} (z : kvs.length <= sizeLine) (hd : (a == sysModules) = false) (rel : KV kvs vs) (dd : h'.DictOf (bV P w) a vs) :
 ObjOk P w H' h' a (.dK kvs) := ⟨z, hd, vs, rel, dd⟩
theorem zM {H' : Hp} {Q : Unit -> Shared -> Prop} (hu : A.units + 1 < cLine) (I : Inv X pins σ H s) (g : DPut H a y v H') (ry : RelV y u) (rv : RelV v r) (h : ∀ s', Inv X pins σ H' s' -> Q () s') :
 wpAny (model X.prog X.w) A (setItem (.ref a) u r) Q E s := by
 rcases g with ⟨kvs, k, e, ey, l, eH⟩ | ⟨kvs, k, b, e, ey, eb, l, eH⟩
 ·subst ey eH
  obtain ⟨z, hd, vs, rel, dd⟩ := F6 I.hok e
  have hz : vs.length <= sizeLine := by rw [<- rel.length]; exact z
  have hl : (iG kvs k v).length <= sizeLine := by have := ny kvs k v; omega
  refine wpAny_setItem_pairs (hsz := hz) (uK ry) dd fun h' dd' hs => h _ ?_
  have he : ∃ q, h'.get? a = some q := let ⟨q, _, _, hq, _⟩ := dd'; ⟨q, hq⟩
  exact yo I (by rw [e]; exact True.intro) hs he (Eg hl hd (rel.put k rv) dd')
 ·subst ey eH
  cases (show u = Value.ref b from ry)
  obtain ⟨z, hd, xs, rel, dd⟩ := Dt I.hok e
  have hz : xs.length <= sizeLine := by rw [<- Paired.length rel]; exact z
  have hl : (iG kvs k v).length <= sizeLine := by have := ny kvs k v; omega
  refine wpAny_setItem_heap (hsz := hz) (tupleKind_room_in1 hu) (qk I.hok eb) dd fun h' dd' hs => h _ ?_
  obtain ⟨q, es, ep, hq, h2, h3, h4, _, h5⟩ := dd'
  refine yo I (by rw [e]; exact True.intro) hs ⟨q, hq⟩ ⟨hl, hd, _, (rel.put k eb rv).keeps fun c ys ec => ?_, q, es, ep, hq, h2, h3, h4, h5⟩
  rw [aj (F4 ec e (fun z => nomatch z))]
  exact ec
end
section
variable {X : Cx} {pins : List (Addr × Obj)} {σ : St} {H : Hp} {s : Shared} {a : Addr} {kvs : List (Key × V)} {k : Key} {u : Value} {A : Around} {E : Value -> Shared -> Prop}
end
def Fu (i : Expr) : Prop := ∀ ov iv, subscripted i false ov iv = operate [ov, iv] (getItem ov iv)
theorem CU {prog : Program} {w : World} {A : Around} {E : Value -> Shared -> Prop} {s : Shared} {env : Env} {value slice : Expr} {pos : Pos} {T id : String} {Q : Value -> Shared -> Prop}
 (hl : typeLookup (.type T) "__getitem__" = pure (some (.builtin id))) (hs : Fu slice)
 (h : wpAny (model prog w) A (eval value env) (fun o s₁ => wpAny (model prog w) A (eval slice env) (fun i s₂ => s₂.TypeIs o T /\ wpAny (model prog w) A (getItem o i) Q E s₂) E s₁) E s) :
 wpAny (model prog w) A (eval (.Subscript value slice pos) env) Q E s := by
 refine Subscript_ (wpAny_mono h (fun o s₁ h₁ => wpAny_mono h₁ (fun i s₂ h₂ => ?_) fun _ _ x => x) fun _ _ x => x)
 obtain ⟨hT, h₂⟩ := h₂
 unfold subscriptTail
 refine wpAny_bind ?_
 rw [getitemInPython_of_ne hT.not_modules]
 refine wpAny_bind (wpAny_specialOf hT hl ?_)
 have fin : wpAny (model prog w) A (subscripted slice false o i) (fun r s₃ => wpAny (model prog w) A (letTemporaryGo value o r >>= fun _ => pure r) Q E s₃) E s₂ := by
  rw [hs o i]
  exact wpAny_operating (wpAny_mono h₂ (fun r s₃ h₃ => wpAny_bind (wpAny_letTemporaryGo (wpAny_pure h₃))) fun _ _ x => x)
 first
  | exact wpAny_pure (wpAny_bind fin)
  | exact wpAny_bind (wpAny_pure (wpAny_bind fin))
  | exact wpAny_bind fin
theorem uS {X : Cx} {pins : List (Addr × Obj)} {σ : St} {H : Hp} {s : Shared} {a : Addr} {y : V} {o : Option V} (I : Inv X pins σ H s) (g : DGet H a y o) : s.TypeIs (.ref a) "dict" := by
 rcases g with ⟨kvs, k, e, _, _⟩ | ⟨kvs, k, b, e, _, _, _⟩
 ·obtain ⟨_, _, vs, _, dd⟩ := sD I.hok e
  exact dd.typeIs
 ·obtain ⟨_, _, xs, _, dd⟩ := sj I.hok e
  exact dd.typeIs
def DO (td ty : TE) : TE := fun σ H Q => td σ H fun x H1 => ty σ H1 fun y H2 => ∃ a v, x = .ref a /\ DGet H2 a y (some v) /\ Q v H2
def FP (ty td : TE) : TE := fun σ H Q => ty σ H fun y H1 => td σ H1 fun x H2 => ∃ a o, x = .ref a /\ DGet H2 a y o /\ Q (.bl o.isSome) H2
def Dv (td ty tv : TE) : TS := fun D σ H => tv σ H fun v H1 => td σ H1 fun x H2 => ty σ H2 fun y H3 => ∃ a H4, x = .ref a /\ DPut H3 a y v H4 /\ D.nx σ H4
section
variable {X : Cx} {o i e value : Expr} {pos pos' tpos : Pos} {td ty tv : TE}
theorem dB (hu : X.A.units + 1 < cLine) (ho : PE X o td) (hi : PE X i ty) (hs : Fu i) : PE X (.Subscript o i pos) (DO td ty) := by
 intro pins s σ H Q I h
 refine CU PySem.F.slot_dict_getitem.lookup hs (thn (ho pins s σ H _ I h) fun u s1 ⟨x, H1, I1, rx, q1⟩ => thn (hi pins s1 σ H1 _ I1 q1) fun iv s2 ⟨y, H2, I2, ry, a, v, ex, g, q2⟩ => ?_)
 subst ex
 obtain rfl : u = Value.ref a := rx
 exact ⟨uS I2 g, zt hu I2 g ry fun w' s3 I3 rw' => ⟨v, H2, I3, rw', q2⟩⟩
theorem xc (hu : X.A.units + 1 < cLine) (hi : PE X i ty) (ho : PE X o td) : PC X .In i o (FP ty td) := by
 intro pins s σ H Q I h
 refine thn (hi pins s σ H _ I h) fun iv s1 ⟨y, H1, I1, ry, q1⟩ => thn (ho pins s1 σ H1 _ I1 q1) fun u s2 ⟨x, H2, I2, rx, a, ov, ex, g, q2⟩ => ?_
 subst ex
 obtain rfl : u = Value.ref a := rx
 exact GL hu I2 g ry fun s3 I3 => ⟨.bl ov.isSome, H2, I3, rfl, q2⟩
theorem iu (hu : X.A.units + 1 < cLine) (ho : PE X o td) (hi : PE X i ty) (hv : PE X value tv) (hs : swapsWith value (some (.Subscript o i pos')) pos.line X.env = pure false) :
 PS X (.Assign [.Subscript o i pos'] value pos) (Dv td ty tv) := by
 intro pins s σ H D I h
 refine wpAny_Assign_Subscript (thn (hv pins s σ H _ I h) fun r s1 ⟨v, H1, I1, rv, q1⟩ => thn (ho pins s1 σ H1 _ I1 q1) fun u s2 ⟨x, H2, I2, rx, q2⟩ => thn (hi pins s2 σ H2 _ I2 q2) fun iv s3 ⟨y, H3, I3, ry, a, H4, ex, g, q3⟩ => ?_) hs
 subst ex
 obtain rfl : u = Value.ref a := rx
 exact zM hu I3 g ry rv fun s4 I4 => ⟨σ, H4, I4, q3⟩
end
theorem BB {P : Program} {w : World} {H : Hp} (h : Heap) (hb : sysModules < h.objs.size) : ObjOk P w H (h.push { cls := .type "dict", data := .dict #[] }) h.objs.size (.dT []) :=
 ⟨Nat.zero_le _, beq_eq_false_iff_ne.mpr (Ne.symm (Nat.ne_of_lt hb)), [], .nil, _, #[], 0, Heap.get?_push_size _ rfl, ⟨rfl, rfl, rfl⟩, rfl, rfl, List.nodup_nil⟩
def As : TE := fun _ H Q => ∀ p, H p = none -> Q (.ref p) (upd H p (.dT []))
section
variable {X : Cx} {pos : Pos}
theorem vR : PE X (.Dict [] [] pos) As := fun pins s σ H Q I h =>
 wpAny_Dict_empty ⟨.ref s.heap.objs.size, _, I.laid (a := s.heap.objs.size) (o := .dT []) (t' := s.toks) (fun _ _ q => Heap.get?_push_of_some _ q) (Nat.le_refl _) (BB s.heap I.big), rfl, h _ (I.hok.fresh (Nat.le_refl _))⟩
end
structure M1 (X : Cx) (o : Expr) (m : Str) (apos : Pos) (e : Expr) (cpos : Pos) : Prop where
 base : attributeBase o m X.env (eval o X.env) = eval o X.env
 few : ((backTo cpos (starEach [e] X.env)).all (fun x => !x.1) && (backToKw cpos (keywordEach [] X.env)).all (fun x => x.1.isSome)
  && decide (([e] : List Expr).length + ([] : List Keyword).length + (if ([] : List Keyword).isEmpty then 0 else 1) < 30)) = true
 line : (apos.endLine == cpos.line) = true
 trees : backTo cpos (starEach [e] X.env) = [(false, eval e X.env)]
structure M2 (X : Cx) (o : Expr) (m : Str) (apos : Pos) (e f : Expr) (cpos : Pos) : Prop where
 base : attributeBase o m X.env (eval o X.env) = eval o X.env
 few : ((backTo cpos (starEach [e, f] X.env)).all (fun x => !x.1) && (backToKw cpos (keywordEach [] X.env)).all (fun x => x.1.isSome)
  && decide (([e, f] : List Expr).length + ([] : List Keyword).length + (if ([] : List Keyword).isEmpty then 0 else 1) < 30)) = true
 line : (apos.endLine == cpos.line) = true
 trees : backTo cpos (starEach [e, f] X.env) = [(false, eval e X.env), (false, eval f X.env)]
def IsD (H : Hp) (a : Addr) : Prop := (∃ kvs, Rd H a (.dK kvs)) \/ ∃ kvs, Rd H a (.dT kvs)
theorem DR {X : Cx} {pins : List (Addr × Obj)} {σ : St} {H : Hp} {s : Shared} {a : Addr} (I : Inv X pins σ H s) (d : IsD H a) :
 s.TypeIs (.ref a) "dict" /\ (∀ b, Value.ref a = .ref b -> ∃ ob, s.heap.get? b = some ob /\ ob.dict = none) /\ (a == sysModules) = false := by
 rcases d with ⟨kvs, e⟩ | ⟨kvs, e⟩
 ·obtain ⟨_, hd, vs, _, dd⟩ := sD I.hok e
  refine ⟨dd.typeIs, fun b q => ?_, hd⟩
  cases q
  obtain ⟨ob, _, _, h1, h2, _⟩ := dd
  exact ⟨ob, h1, h2.2.1⟩
 ·obtain ⟨_, hd, xs, _, dd⟩ := sj I.hok e
  refine ⟨dd.typeIs, fun b q => ?_, hd⟩
  cases q
  obtain ⟨ob, _, _, h1, h2, _⟩ := dd
  exact ⟨ob, h1, h2.2.1⟩
section
variable {X : Cx} {pins : List (Addr × Obj)} {σ : St} {H : Hp} {s : Shared} {a : Addr} {y d : V} {u r : Value} {o : Option V} {A : Around} {E : Value -> Shared -> Prop}
theorem D5 {Q : Value -> Shared -> Prop} (hu : A.units + 1 < cLine) (I : Inv X pins σ H s) (g : DGet H a y o) (ry : RelV y u) (rd : RelV d r) (h : ∀ w' s', Inv X pins σ H s' -> RelV (o.getD d) w' -> Q w' s') :
 wpAny (model X.prog X.w) A (call (.builtin "dict.get") [.ref a, u, r]) Q E s := by
 rcases g with ⟨kvs, k, e, ey, l⟩ | ⟨kvs, k, b, e, ey, eb, l⟩
 ·subst ey
  obtain ⟨z, hd, vs, rel, dd⟩ := sD I.hok e
  refine call_meetsIn PySem.F.slot_dict_get dd.typeIs PySem.F.entry_dict_get (PySem.F.args_dict_get_3 _ _ _) (meets_dict_get_default (bV X.prog X.w) a (uK ry) hd r) ⟨_, dd.mapOf, h _ _ (I.tok _) ?_⟩
  rw [l]
  exact (rel.val k).getD rd
 ·subst ey
  cases (show u = Value.ref b from ry)
  obtain ⟨z, hd, xs, rel, dd⟩ := sj I.hok e
  refine call_meetsIn PySem.F.slot_dict_get dd.typeIs PySem.F.entry_dict_get (PySem.F.args_dict_get_3 _ _ _) (meetsH_dict_get_default (tupleKind (bV X.prog X.w)) a b hd r) ⟨tupleKind_room_in1 hu, k, xs, qk I.hok eb, dd, h _ _ (I.tok _) ?_⟩
  rw [l]
  exact (rel.val k).getD rd
end
def zX (td ty tx : TE) : TE := fun σ H Q => td σ H fun x H1 => ∃ a, x = .ref a /\ IsD H1 a /\ ty σ H1 fun y H2 => tx σ H2 fun z H3 => ∃ o, DGet H3 a y o /\ Q (o.getD z) H3
section
variable {X : Cx} {o e f : Expr} {apos cpos : Pos} {td ty tx : TE}
theorem uU (hu : X.A.units + 1 < cLine) (ho : PE X o td) (he : PE X e ty) (hf : PE X f tx) (m : M2 X o "get" apos e f cpos) : PE X (.Call (.Attribute o "get" apos) [e, f] [] cpos) (zX td ty tx) := by
 intro pins s σ H Q I h
 refine wpAny_Call_method m.base m.few m.line PySem.F.plainAttrs_dict PySem.F.slot_dict_get PySem.F.type_dict_get (thn (ho pins s σ H _ I h) fun u s1 ⟨x, H1, I1, rx, a, ex, d, q1⟩ => ?_)
 subst ex
 obtain rfl : u = Value.ref a := rx
 obtain ⟨t1, t2, _⟩ := DR I1 d
 refine ⟨t1, t2, ?_⟩
 rw [m.trees]
 refine Calls.callWith_builtin rfl (Calls.evalArgs_plain (Calls.spliced_cons (thn (he pins s1 σ H1 _ I1 q1) fun iv s2 ⟨y, H2, I2, ry, q2⟩ =>
  Calls.spliced_cons (thn (hf pins s2 σ H2 _ I2 q2) fun fv s3 ⟨z, H3, I3, rz, ov, g, q3⟩ => Calls.spliced_nil ?_))))
 exact D5 hu I3 g ry rz fun w' s4 I4 rw' => ⟨_, H3, I4, rw', q3⟩
end
section
variable {X : Cx} {pins : List (Addr × Obj)} {σ : St} {H : Hp} {s : Shared} {a : Addr} {kvs : List (Key × V)} {A : Around} {E : Value -> Shared -> Prop}
end
section
variable {X : Cx} {pins : List (Addr × Obj)} {σ : St} {H : Hp} {s : Shared} {a : Addr} {y : V} {u : Value} {A : Around} {E : Value -> Shared -> Prop}
end
end L2
namespace L2
open PySem PySem.Spec PyProof.Rows
section
variable {X : Cx} {e o value : Expr} {f : Str} {ta tv : TE} {pos pos' : Pos}
def EB (K : PySem.W.Frag) (f : Str) : V -> Hp -> VK -> Prop
 | .ref p, H, Q => ∃ C dx fs v, H p = some (.ins C dx fs) /\ Cls K C /\ NoAttr K C f /\ fs.lookup f = some v /\ Q v H
 | _, _, _ => False
def DH (K : PySem.W.Frag) (ta : TE) (f : Str) : TE := fun σ H Q => ta σ H fun x H1 => EB K f x H1 Q
theorem bz (K : PySem.W.Frag) (he : PE X e ta) (hK : X.K = K := by rfl) (hb : attributeBase e f X.env (eval e X.env) = eval e X.env := by rfl) : PE X (.Attribute e f pos) (DH K ta f) := by
 subst hK
 intro pins s σ H Q I h
 refine Ct hb (thn (he pins s σ H _ I h) fun u s1 ⟨x, H1, I1, rx, q⟩ => ?_)
 dsimp only at q
 unfold EB at q
 split at q
 ·rename_i a
  obtain ⟨C, dx, fs, v, ea, c, n, l, q⟩ := q
  obtain rfl : u = Value.ref a := rx
  exact wM I1 ea c n l fun u' s2 I2 ru => ⟨v, H1, I2, ru, q⟩
 ·exact q.elim
def Bp (K : PySem.W.Frag) (f : Str) (y : V) : V -> Hp -> (Hp -> Prop) -> Prop
 | .ref p, H, Q => ∃ C dx fs, H p = some (.ins C dx fs) /\ Cls K C /\ NoAttr K C f /\ fs.length < 1000 /\ Q (upd H p (.ins C dx (eh f y fs)))
 | _, _, _ => False
def DL (K : PySem.W.Frag) (ta tv : TE) (f : Str) : TS := fun D σ H => tv σ H fun y H1 => ta σ H1 fun x H2 => Bp K f y x H2 fun H3 => D.nx σ H3
theorem eS (K : PySem.W.Frag) (ha : PE X o ta) (hv : PE X value tv) (hK : X.K = K := by rfl) (hs : swapsWith value (some (.Attribute o f pos')) pos.line X.env = pure false := by rfl) : PS X (.Assign [.Attribute o f pos'] value pos) (DL K ta tv f) := by
 subst hK
 intro pins s σ H D I h
 refine plainObj_wpAny_Assign_Attribute (thn (hv pins s σ H _ I h) fun u s1 ⟨y, H1, I1, ry, q⟩ => thn (ha pins s1 σ H1 _ I1 q) fun ov s2 ⟨x, H2, I2, rx, q2⟩ => ?_) hs
 dsimp only at q2
 unfold Bp at q2
 split at q2
 ·rename_i a
  obtain ⟨C, dx, fs, ea, c, n, l, q2⟩ := q2
  obtain rfl : ov = Value.ref a := rx
  exact wQ I2 ea c n l ry fun s3 I3 => ⟨σ, _, I3, q2⟩
 ·exact q2.elim
end
section
variable {X : Cx} {CX : CXT} {k : Nat} {f C : Addr} {fd : FuncData} {ps : List Str} {sp : Sp} {dvs : List V} {ds : List Value} {E : XKs} {x m : Str} {p pos apos : Pos} {e o : Expr} {es : List Expr} {ta : TE} {t : TA}
def xJ (C : Addr) (m : Str) : V -> Hp -> (V -> Prop) -> Prop
 | .ref p, H, Q => ∃ dx fs, H p = some (.ins C dx fs) /\ fs.lookup m = none /\ Q (.ref p)
 | _, _, _ => False
def xp (C : Addr) (m : Str) (sp : Sp) (dvs : List V) (E : XKs) (ta : TE) (t : TA) : TE := fun σ H Q => ta σ H fun x0 H1 => xJ C m x0 H1 (fun x => t σ H1 fun vs H2 => sp (x :: (vs ++ dvs)) H2 Q (E σ))
theorem cK {pl : Sem Bool} (he : PE X o ta) (c : Cls X.K C) (hm : gP X.K C m f) (F : bd X.prog X.w X.K X.mg X.base CX k f fd ps sp) (hr : Room k X.A) (hb : Binds X.K fd ps ds) (hd : Vals dvs ds) (hx : eW CX X E) (ha : PA X (e :: es) t)
 (hst : starEach (e :: es) X.env = (false, eval e X.env) :: starEach es X.env := by rfl) (hpl : (backTo pos (starEach es X.env)).any (·.1) = false := by rfl)
 (ht : eval (.Call (.Attribute o m apos) (e :: es) [] pos) X.env = (do
  let ov <- eval o X.env
  standAt apos.atName
  let (f, first) <- holding [ov] (getMethod ov m pl)
  callWith pos f first (backTo pos (starEach (e :: es) X.env)) (backToKw pos (keywordEach [] X.env))) := by rfl) :
 PE X (.Call (.Attribute o m apos) (e :: es) [] pos) (xp C m sp dvs E ta t) := by
 intro pins s σ H Q I h
 refine PySem.W.methodCall_KW (pl := pl) (thn (he pins s σ H _ I h) fun u s1 ⟨xo, H1, I1, rx, q⟩ => ?_) ht
 dsimp only at q
 unfold xJ at q
 split at q
 ·rename_i a
  obtain ⟨dx, fs, ea, l, q⟩ := q
  obtain rfl : u = Value.ref a := rx
  refine pi I1 ea c hm l ?_
  refine PySem.W.callWith_K (first := [.ref a]) (h₀ := X.base) I.ok.mod.kin hm.kp (thn (ha pos pins s1 σ _ _ I1 q) fun us s2 ⟨vs, H2, I2, r, q2⟩ => ⟨I2.kIn, ?_⟩) hst hpl
  exact tJ (us := .ref a :: us) (vs := .ref a :: vs) F hr hb hd hx I2 (.cons rfl r) q2
 ·exact q.elim
theorem dZ {pl : Sem Bool} (he : PE X o ta) (c : Cls X.K C) (hm : gP X.K C m f) (F : bd X.prog X.w X.K X.mg X.base CX k f fd ps sp) (hr : Room k X.A) (hb : Binds X.K fd ps ds) (hd : Vals dvs ds) (hx : eW CX X E)
 (ht : eval (.Call (.Attribute o m apos) [] [] pos) X.env = (do
  let ov <- eval o X.env
  standAt apos.atName
  let (f, first) <- holding [ov] (getMethod ov m pl)
  callWith pos f first (backTo pos (starEach [] X.env)) (backToKw pos (keywordEach [] X.env))) := by rfl) :
 PE X (.Call (.Attribute o m apos) [] [] pos) (xp C m sp dvs E ta vt) := by
 intro pins s σ H Q I h
 refine PySem.W.methodCall_KW (pl := pl) (thn (he pins s σ H _ I h) fun u s1 ⟨xo, H1, I1, rx, q⟩ => ?_) ht
 dsimp only at q
 unfold xJ at q
 split at q
 ·rename_i a
  obtain ⟨dx, fs, ea, l, q⟩ := q
  obtain rfl : u = Value.ref a := rx
  refine pi I1 ea c hm l ?_
  exact PySem.W.callWith_K0 (first := [.ref a]) I1.kIn hm.kp (tJ (us := [.ref a]) (vs := [.ref a]) F hr hb hd hx I1 (.cons rfl .nil) q)
 ·exact q.elim
def wA (C : Addr) (sp : Sp) (dvs : List V) (E : XKs) (t : TA) : TE := fun σ H Q => t σ H fun vs H1 => ∀ x dx, H1 x = none -> H1 dx = none -> dx ≠ x ->
 sp (.ref x :: (vs ++ dvs)) (upd (upd H1 dx (.own x)) x (.ins C dx [])) (fun v H2 => v = .non /\ Q (.ref x) H2) (E σ)
theorem rR {pins : List (Addr × Obj)} {σ : St} {H : Hp} {s : Shared} {Q : VK} {us : List Value} {vs : List V} (M : Mk X.K C f) (F : bd X.prog X.w X.K X.mg X.base CX k f fd ps sp) (hr : Room (k + 1) X.A) (hb : Binds X.K fd ps ds) (hd : Vals dvs ds)
 (hx : eW CX X E) (I : Inv X pins σ H s) (r : Vals vs us)
 (h : ∀ x dx, H x = none -> H dx = none -> dx ≠ x -> sp (.ref x :: (vs ++ dvs)) (upd (upd H dx (.own x)) x (.ins C dx [])) (fun v H2 => v = .non /\ Q (.ref x) H2) (E σ)) :
 wpAny (model X.prog X.w) X.A (call (.ref C) us) (EP X pins σ Q) X.xe s := by
 have hq := h (s.heap.objs.size + 1) s.heap.objs.size (I.hok.fresh (Nat.le_succ _)) (I.hok.fresh (Nat.le_refl _)) (Nat.ne_of_lt (Nat.lt_succ_self _))
 have I2 := Inv.made (C := C) I
 have r2 : Vals (V.ref (s.heap.objs.size + 1) :: (vs ++ dvs)) (Value.ref (s.heap.objs.size + 1) :: (us ++ ds)) := .cons rfl (r.append hd)
 have hl : (Value.ref (s.heap.objs.size + 1) :: us ++ ds).length = ps.length := by
  have e := r2.length
  rw [F.len _ _ _ _ hq] at e
  exact e.symm
 refine wpAny_call (BR (f := f) I.kIn M.makes M.init (beq_iff_eq.mp M.fn) (codeAny_mono (F.run _ X.stack _ _ ⟨Value.ref (s.heap.objs.size + 1) :: us, []⟩ (Value.ref (s.heap.objs.size + 1) :: (us ++ ds)) _ _ (E σ) (hr.make C us [])
  (I2.env0.make C us []) (hb _ (Value.ref (s.heap.objs.size + 1) :: us) I2.kIn hl) r2 hq) fun r s' hq' => ?_))
 cases r with
 | error e => exact hx pins σ _ _ e s' I2 hq'
 | ok fl =>
  cases fl with
  | ret u =>
   obtain ⟨v, H', I3, rv, ev, q3⟩ := I2.after hq'
   subst ev
   exact ⟨rv, ⟨V.ref (s.heap.objs.size + 1), H', I3, rfl, q3⟩⟩
  | next => exact False.elim hq'
  | brk => exact False.elim hq'
  | cont => exact False.elim hq'
theorem wf (M : Mk X.K C f) (F : bd X.prog X.w X.K X.mg X.base CX k f fd ps sp) (hr : Room (k + 1) X.A) (hg : Gl X x) (hm : X.mg x = some (.ref C)) (hb : Binds X.K fd ps ds) (hd : Vals dvs ds) (hx : eW CX X E)
 (ha : PA X (e :: es) t) (hdb : (x == ("__debug__" : Str)) = false := by decide) (he : starEach (e :: es) X.env = (false, eval e X.env) :: starEach es X.env := by rfl) (hpl : (backTo pos (starEach es X.env)).any (·.1) = false := by rfl) :
 PE X (.Call (.Name x p) (e :: es) [] pos) (wA C sp dvs E t) := by
 intro pins s σ H Q I h
 refine wpAny_Call_Name_kw (jQ I hg hm ?_ hdb)
 refine PySem.W.callWith_K (h₀ := X.base) I.ok.mod.kin M.kp (thn (ha pos pins s σ H _ I h) fun us s1 ⟨vs, H1, I1, r, q⟩ => ⟨I1.kIn, ?_⟩) he hpl
 exact rR M F hr hb hd hx I1 r q
theorem jO (M : Mk X.K C f) (F : bd X.prog X.w X.K X.mg X.base CX k f fd ps sp) (hr : Room (k + 1) X.A) (hg : Gl X x) (hm : X.mg x = some (.ref C)) (hb : Binds X.K fd ps ds) (hd : Vals dvs ds) (hx : eW CX X E)
 (hdb : (x == ("__debug__" : Str)) = false := by decide) : PE X (.Call (.Name x p) [] [] pos) (wA C sp dvs E vt) := by
 intro pins s σ H Q I h
 refine wpAny_Call_Name_kw (jQ I hg hm ?_ hdb)
 exact PySem.W.callWith_K0 I.kIn M.kp (rR (us := []) M F hr hb hd hx I .nil h)
end
end L2
namespace L2
open PySem PySem.Spec PyProof.Rows
def gK (wi : TI) (n : Nat) (g : TG) (ks : List Nat) (tt : TT) (te : TE) : TE := fun σ H Q => wi σ H fun J H1 => ∀ D, H1 D = none -> ∃ W : Nat -> Nat -> List V -> Hp -> Prop, (∃ m, W 0 m [] (upd H1 D (.lst []))) /\
 ∀ i m ys H2, W i m ys H2 -> H2 D = some (.lst ys) /\ ((J.stop i H2 /\ Q (.ref D) H2) \/ (J.go i H2 /\ ∀ x H3, J.yld i H2 x H3 -> ∀ zs : St, zs.length = n ->
  g x (zs ++ ks.map fun k => (σ[k]?).join) H3 fun σ4 H4 => (∃ zs4 : St, zs4.length = n /\ σ4 = zs4 ++ ks.map fun k => (σ[k]?).join) /\
   tt σ4 H4 fun b H5 => if b = true then te σ4 H5 fun y H6 => H6 D = some (.lst ys) /\ ys.length < sizeLine /\ ∃ m', m' < m /\ W (i + 1) m' (ys ++ [y]) (upd H6 D (.lst (ys ++ [y])))
    else ∃ m', m' < m /\ W (i + 1) m' ys H5))
theorem rW {X : Cx} {elt iter : Expr} {x : Str} {xs : List Str} {tg : Expr} {g : TG} {pos : Pos} {ifs : List Expr} {scope : Scope} {cl : List (Str × Addr)} {fr : List Str} {ks : List Nat} {wi : TI} {tt : TT} {te : TE} (hc : X.calm = true) (S : CompScope X scope cl x fr)
 (hks : ks.map (fun k => X.N[k]?) = fr.map some) (hi : PI X tg iter wi) (hg : ∀ C s₂ H₂ ex pn, PG (cD X (xs ++ fr) scope cl C s₂ H₂ ex pn) tg g)
 (ht : ∀ C s₂ H₂ ex pn, PTs (cD X (xs ++ fr) scope cl C s₂ H₂ ex pn) ifs tt) (he : ∀ C s₂ H₂ ex pn, PE (cD X (xs ++ fr) scope cl C s₂ H₂ ex pn) elt te)
 (hs : ∀ x, foldedSetIterable iter X.env x = pure x := by intro _; rfl)
 {pins : List (Addr × Obj)} {s : Shared} {σ : St} {H : Hp} {Q : VK} (I : Inv X pins σ H s) (h : gK wi xs.length g ks tt te σ H Q) (use : Option (Value -> Sem Unit)) (Qp : Value -> Shared -> Prop)
 (hend : ∀ (D C : Addr) (H' : Hp) (s' : Shared) (mC : Str -> Option Value) (f : Flow), Inv X pins σ H' s' -> qX X pins H' C -> s'.heap.Ns C mC -> Q (.ref D) H' -> compPost (model X.prog X.w) X.A X.xe use Qp (.ref D) C (.ok f) s') :
 wpAny (model X.prog X.w) X.A (comprehension (.ListComp elt [⟨tg, iter, ifs, 0⟩] scope pos) scope X.env (firstIterPos [⟨tg, iter, ifs, 0⟩] pos) (newList []) false (firstIter [⟨tg, iter, ifs, 0⟩] X.env) use) Qp X.xe s := by
 refine wpAny_comprehension_free (use := use) rfl hs S.clos S.kind S.names (thn (hi pins s σ H _ I h) fun v s1 h1 => thn h1 fun itv s2 h2 => ?_)
 obtain ⟨it, fp, tn, J, H2, e, I2, T, st2, f2, hW⟩ := h2
 subst e
 refine wpAny_newObj_type (wpAny_newFunctionEnv S.nocell (by intro y hy; simp at hy) (fun h₁ hns₁ hsb₁ => ?_) S.kind)
 dsimp only at hns₁ hsb₁ ⊢
 have hD0 : H2 s2.heap.objs.size = none := I2.hok.fresh (Nat.le_refl _)
 obtain ⟨W, ⟨m0, w0⟩, turn⟩ := hW s2.heap.objs.size hD0
 generalize hs3 : s2.heap.push { cls := .type "list", dict := none, data := .seq ([] : List Value).toArray } = g3 at hns₁ hsb₁ ⊢
 have hsz3 : g3.objs.size = s2.heap.objs.size + 1 := by rw [<- hs3, Heap.size_push]
 have up3 : ∀ b o, s2.heap.get? b = some o -> g3.get? b = some o := fun b o e => by rw [<- hs3]; exact Heap.get?_push_of_some _ e
 have gD : g3.get? s2.heap.objs.size = some { cls := .type "list", dict := none, data := .seq ([] : List Value).toArray } := by rw [<- hs3]; exact Heap.get?_push_size _ rfl
 have I3 : Inv X pins σ (upd H2 s2.heap.objs.size (.lst [])) { s2 with heap := g3 } := I2.laid (t' := s2.toks) up3 (Nat.le_refl _) ⟨by simp, [], 0, .nil, gD⟩
 have keep4 : ∀ b o, g3.get? b = some o -> h₁.get? b = some o := fun b o e => (hsb₁.2 b (Nat.ne_of_lt (Heap.lt_size e))).trans (Heap.get?_push_of_some _ e)
 have hCn : (upd H2 s2.heap.objs.size (.lst [])) g3.objs.size = none := I3.hok.fresh (Nat.le_refl _)
 have fpD : ∀ b ∈ fp, b ≠ s2.heap.objs.size := fun b hb z => by
  obtain ⟨o, e, _⟩ := T.obj 0 _ st2 b hb
  exact absurd (Heap.lt_size e) (by rw [z]; exact Nat.lt_irrefl _)
 have fpC : ∀ b ∈ fp, b ≠ g3.objs.size := fun b hb z => by
  obtain ⟨o, e, _⟩ := T.obj 0 _ st2 b hb
  exact absurd (Heap.lt_size (up3 b o e)) (by rw [z]; exact Nat.lt_irrefl _)
 have fpN : ∀ b ∈ fp, (upd H2 s2.heap.objs.size (.lst [])) b = none := fun b hb => by rw [aj (fpD b hb)]; exact (f2 b hb).1
 have Ok : (cD X (xs ++ fr) scope cl g3.objs.size { s2 with heap := g3 } (upd H2 s2.heap.objs.size (.lst [])) fp (X.pn ++ pins)).Ok := by
  refine ⟨I.ok.mod, S.kind, I.ok.glob, I.ok.blt, Nat.le_refl _, fun y z c e1 e2 => I.ok.inj y z c (S.sub e1) (S.sub e2), fun y hy => ?_, (fun y c z => nomatch z), I.ok.hd, I.ok.frames, .inl rfl, fun b hb => ⟨fpC b hb, fun y c e => (f2 b hb).2.2.2.2.1 y c (S.sub e)⟩, I3.bs, Nat.le_trans I.ok.bsz I3.sz, fun b o e hb => ?_, fun b hb z => ?_, I3.stack, I3.stkFree⟩
  ·have hy' : y ∈ fr := S.only y hy
   obtain ⟨c, e⟩ := I.ok.has y (S.kinds y hy')
   exact ⟨c, (S.cell hy').trans e⟩
  ·rcases (f2 b hb).2.2.2.1 with q | q
   ·exact I.ok.noex b o e q
   ·exact absurd (Heap.lt_size e) (Nat.not_lt.mpr (Nat.le_trans I.ok.bsz q))
  ·rcases List.mem_cons.mp (I3.stkSub b z) with q | q
   ·exact (f2 b hb).2.1 q
   ·exact (f2 b hb).2.2.1 q
 have I4 : Inv (cD X (xs ++ fr) scope cl g3.objs.size { s2 with heap := g3 } (upd H2 s2.heap.objs.size (.lst [])) fp (X.pn ++ pins)) [] ((xs.map fun _ => none) ++ ks.map fun k => (σ[k]?).join) (upd H2 s2.heap.objs.size (.lst [])) { s2 with heap := h₁, toks := s2.toks + ([] : List (Str × Value)).length } := by
  refine ⟨Ok, rfl, I3.bare, Un.kept keep4, ⟨_, hns₁, fun i y v e1 e2 e3 => ?_⟩, fun y c e => ?_, hCn, fun y c e => I3.freeC y c (S.sub e), fun p hp => ?_, I3.hok.kept keep4, ?_⟩
  ·have e1' : (xs ++ fr)[i]? = some y := e1
   by_cases hix : i < xs.length
   ·rw [List.getElem?_append_left (by simpa using hix)] at e2
    simp [hix] at e2
   ·obtain ⟨i, rfl⟩ : ∃ i', i = xs.length + i' := ⟨i - xs.length, by omega⟩
    rw [List.getElem?_append_right (by omega)] at e1'
    rw [List.getElem?_append_right (by simp)] at e2
    have e1' : fr[i]? = some y := by simpa using e1'
    have e2 : (ks.map fun k => (σ[k]?).join)[i]? = some (some v) := by simpa using e2
    have hy : y ∈ fr := List.mem_of_getElem? e1'
    have ek : (ks.map (fun k => X.N[k]?))[i]? = (fr.map some)[i]? := by rw [hks]
    rw [List.getElem?_map, List.getElem?_map, e1'] at ek
    have e2' := e2
    rw [List.getElem?_map] at e2'
    cases hk : ks[i]? with
    | none => rw [hk] at ek; cases ek
    | some k =>
     rw [hk] at ek e2'
     have ek' : X.N[k]? = some y := by simpa using ek
     have e2'' : (σ[k]?).join = some v := by simpa using e2'
     have es : σ[k]? = some (some v) := by
      cases q : σ[k]? with
      | none => rw [q] at e2''; cases e2''
      | some z => rw [q] at e2''; rw [show z = some v from e2'']
     obtain ⟨m, hn, hl⟩ := I3.loc
     have hkd := S.kinds y hy
     obtain ⟨u, r, lk⟩ := hl k y v ek' es (by rcases hkd with q | q; exact .inr (.inl q); exact .inr (.inr q))
     refine ⟨u, r, .inr ⟨S.kin y hy, ?_⟩⟩
     rcases lk with ⟨q, _⟩ | ⟨_, c, ec, hcell⟩
     ·rcases hkd with z | z <;> (rw [q] at z; cases z)
     ·obtain ⟨o, ho, hd⟩ := hcell
      exact ⟨c, (S.cell hy).trans ec, o, keep4 _ _ ho, hd⟩
  ·obtain ⟨v, o, ho, hd⟩ := I3.cell y c (S.sub e)
   exact ⟨v, o, keep4 _ _ ho, hd⟩
  ·have hp' : p ∈ X.pn ++ pins := by simpa [cD] using hp
   obtain ⟨a1, a2, a3, a4, a5⟩ := I3.pin p hp'
   refine ⟨keep4 _ _ a1, a2, Nat.ne_of_lt (Heap.lt_size a1), fun z => ?_, a5⟩
   rcases List.mem_cons.mp (I3.stkSub p.1 z) with q | q
   ·exact a3 q
   ·exact a4 q
  ·show ((xs.map fun _ => none) ++ ks.map _).length = (xs ++ fr).length
   have := congrArg List.length hks
   simp at this
   simp [this]
 have st4 : tn 0 h₁ := T.keep 0 _ _ st2 fun b hb o e => keep4 _ _ (up3 _ _ e)
 have stat : ∀ {H' : Hp}, (∀ b ∈ fp, H' b = none) -> ∀ b ∈ fp, qX (cD X (xs ++ fr) scope cl g3.objs.size { s2 with heap := g3 } (upd H2 s2.heap.objs.size (.lst [])) fp (X.pn ++ pins)) [] H' b := fun hn b hb =>
  ⟨hn b hb, fpC b hb, Ok.exfs b hb, .inl hb, fun y c e => (f2 b hb).2.2.2.2.1 y c (S.sub e), fun p hp => (f2 b hb).2.2.2.2.2 p (by simpa [cD] using hp)⟩
 have loop : codeAny (model X.prog X.w) X.A (.compLoop (.ListComp elt [⟨tg, iter, ifs, 0⟩] scope pos) 0 (.ref it) (.ref s2.heap.objs.size) (compEnvC scope cl g3.objs.size X.env))
  (compPost (model X.prog X.w) X.A X.xe use Qp (.ref s2.heap.objs.size) g3.objs.size) { s2 with heap := h₁, toks := s2.toks + ([] : List (Str × Value)).length } := by
  refine tf (fun n s' => ∃ i ys σ' H', Inv (cD X (xs ++ fr) scope cl g3.objs.size { s2 with heap := g3 } (upd H2 s2.heap.objs.size (.lst [])) fp (X.pn ++ pins)) [] σ' H' s' /\ (∃ zs, zs.length = xs.length /\ σ' = zs ++ ks.map fun k => (σ[k]?).join) /\ tn i s'.heap /\ (∀ b ∈ fp, H' b = none) /\ W i n ys H') ?_ m0
   ⟨0, [], _, _, I4, ⟨xs.map fun _ => none, by simp, rfl⟩, st4, fpN, w0⟩
  rintro n s' ⟨i, ys, σ', H', I5, ⟨zs, hzs, rfl⟩, st5, fr5, w5⟩
  obtain ⟨hD, hor⟩ := turn i n ys H' w5
  rcases hor with ⟨stop, qn⟩ | ⟨go, step⟩
  ·refine wpAny_mono (T.done (cD X (xs ++ fr) scope cl g3.objs.size { s2 with heap := g3 } (upd H2 s2.heap.objs.size (.lst [])) fp (X.pn ++ pins)) rfl rfl rfl hc i [] s' _ H' (fun _ _ => False) I5 (stat fr5) st5 stop) (fun r s6 ⟨hr, I6⟩ => ?_) (fun _ _ f => f.elim)
   subst hr
   obtain ⟨mC, hnC, _⟩ := I6.loc
   have tr : ∀ b o, b ≠ g3.objs.size -> s6.heap.get? b = some o -> s6.heap.get? b = some o := fun b o hb e => e
   have U := I6.base
   have neC : ∀ b o, g3.get? b = some o -> b ≠ g3.objs.size := fun b o e => Nat.ne_of_lt (Heap.lt_size e)
   have U' : Un (frs X.stack) fp (upd H2 s2.heap.objs.size (.lst [])) H' g3 s6.heap := ⟨fun b o q n hb hx => tr b o (neC b o q) (U.keep b o q n hb hx), fun b o q n hb hx => let ⟨sl, e⟩ := U.slot b o q n hb hx; ⟨sl, tr _ _ (neC b o q) e⟩, U.free, fun b o q hx => let ⟨o', e⟩ := U.there b o q hx; ⟨o', tr _ _ (neC b o q) e⟩, U.tups, U.frzs, U.tbls⟩
   have ok' : HOk X.prog X.w H' s6.heap := fun a o e => (I6.hok a o e).stay (fun b u hb q => tr b u (fun z => by
    have fC : H' g3.objs.size = none := I6.free
    rcases hb with r | r
    ·rw [<- z, r, e] at fC; cases fC
    ·rw [<- z, r] at fC; cases fC) q) (fun _ q => q) fun _ _ q => q
   have J6 : Inv X pins σ H' s6 := I3.call' (s' := s6) (ch := fp) I6.os U' ok' I6.bare fun b hb => ⟨(f2 b hb).2.2.2.1, (f2 b hb).2.1, (f2 b hb).2.2.2.2.1, (f2 b hb).2.2.2.2.2⟩
   exact hend s2.heap.objs.size g3.objs.size H' s6 mC _ J6 (I3.fpOk (Nat.le_refl _) I6.free) hnC qn
  ·refine wpAny_mono (T.item (cD X (xs ++ fr) scope cl g3.objs.size { s2 with heap := g3 } (upd H2 s2.heap.objs.size (.lst [])) fp (X.pn ++ pins)) rfl rfl rfl hc i [] s' _ H' (fun _ _ => False) I5 (stat fr5) st5 go) (fun r s6 ⟨u, hr, h6⟩ => ?_) (fun _ _ f => f.elim)
   subst hr
   refine wpAny_mono h6 (fun _ s7 ⟨xv, H7, I7, r7, y7, st7, fr7⟩ => ?_) (fun _ _ f => f.elim)
   have I7' := I7.pinned (stat fr7) (T.obj _ _ st7)
   have pinsTo : ∀ {σ9 : St} {H9 : Hp} {s9 : Shared}, Inv (cD X (xs ++ fr) scope cl g3.objs.size { s2 with heap := g3 } (upd H2 s2.heap.objs.size (.lst [])) fp (X.pn ++ pins)) ([] ++ qr fp s7.heap) σ9 H9 s9 -> tn (i + 1) s9.heap /\ ∀ b ∈ fp, H9 b = none := fun {σ9 H9 s9} I9 =>
    ⟨T.keep _ _ _ st7 fun b hb o e => (I9.pin (b, o) (List.mem_append_right _ (List.mem_append_right _ (ip hb e)))).1, fun b hb => by
     obtain ⟨o, e, d⟩ := T.obj _ _ st7 b hb
     exact (I9.pin (b, o) (List.mem_append_right _ (List.mem_append_right _ (ip hb e)))).2.1⟩
   refine wpAny_mono (hg _ _ _ _ _ _ s7 _ H7 xv u _ I7' r7 (step xv H7 y7 zs hzs)) (fun _ s8 ⟨σ8, H8, I8, ⟨zs4, hz4, e8⟩, q8⟩ => ?_) (fun _ _ f => f.elim)
   subst e8
   refine wpAny_mono (ht _ _ _ _ _ _ s8 _ H8 _ I8 q8) (fun ok s9 ⟨H9, I9, q9⟩ => ?_) (fun _ _ f => f.elim)
   cases ok with
   | false =>
    rw [if_neg Bool.false_ne_true] at q9 ⊢
    obtain ⟨m', hm, w9⟩ := q9
    obtain ⟨t9, f9⟩ := pinsTo I9
    exact ⟨m', hm, i + 1, ys, _, H9, I9.unpinned, ⟨zs4, hz4, rfl⟩, t9, f9, w9⟩
   | true =>
    rw [if_pos rfl] at q9 ⊢
    refine wpAny_mono (he _ _ _ _ _ _ s9 _ H9 _ I9 q9) (fun yv s10 ⟨y, H10, I10, r10, hD10, hlen, m', hm, w10⟩ => ?_) (fun _ _ f => f.elim)
    refine wpAny_mono (d5 (X := cD X (xs ++ fr) scope cl g3.objs.size { s2 with heap := g3 } (upd H2 s2.heap.objs.size (.lst [])) fp (X.pn ++ pins)) _ s10 _ H10 (.ref s2.heap.objs.size) [y] (.ref s2.heap.objs.size) [yv]
     (fun _ H' => H' = upd H10 s2.heap.objs.size (.lst (ys ++ [y]))) I10 rfl (.cons r10 .nil) ⟨_, ys, y, rfl, rfl, hD10, hlen, rfl⟩) (fun _ s11 ⟨_, H11, I11, _, e11⟩ => ?_) (fun _ _ f => f.elim)
    subst e11
    obtain ⟨t11, f11⟩ := pinsTo I11
    exact ⟨m', hm, i + 1, ys ++ [y], _, _, I11.unpinned, ⟨zs4, hz4, rfl⟩, t11, f11, w10⟩
 exact codeAny_compStart_list loop (T.self X.A 0 _ _ _ st4 loop)
theorem c6 {X : Cx} {elt iter : Expr} {x : Str} {xs : List Str} {tg : Expr} {g : TG} {pos : Pos} {ifs : List Expr} {scope : Scope} {cl : List (Str × Addr)} {fr : List Str} {ks : List Nat} {wi : TI} {tt : TT} {te : TE} (hc : X.calm = true) (S : CompScope X scope cl x fr)
 (hks : ks.map (fun k => X.N[k]?) = fr.map some) (hi : PI X tg iter wi) (hg : ∀ C s₂ H₂ ex pn, PG (cD X (xs ++ fr) scope cl C s₂ H₂ ex pn) tg g)
 (ht : ∀ C s₂ H₂ ex pn, PTs (cD X (xs ++ fr) scope cl C s₂ H₂ ex pn) ifs tt) (he : ∀ C s₂ H₂ ex pn, PE (cD X (xs ++ fr) scope cl C s₂ H₂ ex pn) elt te)
 (hs : ∀ x, foldedSetIterable iter X.env x = pure x := by intro _; rfl) : PE X (.ListComp elt [⟨tg, iter, ifs, 0⟩] scope pos) (gK wi xs.length g ks tt te) := by
 intro pins s σ H Q I h
 rw [eval_ListComp]
 refine rW hc S hks hi hg ht he hs I h none _ fun D C H' s' mC f J fp hn q => ⟨mC, hn, fun h' sb => ?_⟩
 obtain ⟨f0, f1, f2, f3, f4, f5⟩ := fp
 exact ⟨.ref D, H', J.turned (t' := s'.toks) (fun b o hb e => (sb.2 b hb).trans e) f0 f1 f3 f4 f5, rfl, q⟩
theorem Bj {i0 : Nat} {x0 : Str} {px0 pos0 : Pos} {X : Cx} {elt iter : Expr} {x : Str} {xs : List Str} {tg : Expr} {g : TG} {pos : Pos} {ifs : List Expr} {scope : Scope} {cl : List (Str × Addr)} {fr : List Str} {ks : List Nat} {wi : TI} {tt : TT} {te : TE} (hN : X.N.Nodup) (hi0 : X.N[i0]? = some x0) (hx0 : Loc X.env.scope x0) (hc : X.calm = true) (S : CompScope X scope cl x fr)
 (hks : ks.map (fun k => X.N[k]?) = fr.map some) (hi : PI X tg iter wi) (hg : ∀ C s₂ H₂ ex pn, PG (cD X (xs ++ fr) scope cl C s₂ H₂ ex pn) tg g)
 (ht : ∀ C s₂ H₂ ex pn, PTs (cD X (xs ++ fr) scope cl C s₂ H₂ ex pn) ifs tt) (he : ∀ C s₂ H₂ ex pn, PE (cD X (xs ++ fr) scope cl C s₂ H₂ ex pn) elt te)
 (hs : ∀ x, foldedSetIterable iter X.env x = pure x := by intro _; rfl)
 (hsw : swapsWith (.ListComp elt [⟨tg, iter, ifs, 0⟩] scope pos) (some (.Name x0 px0)) pos0.line X.env = pure true := by rfl) (hf : X.fn x0 = true \/ X.env.scope.names.lookup x0 = some .local := by first | exact .inl rfl | exact .inr rfl | assumption) :
 PS X (.Assign [.Name x0 px0] (.ListComp elt [⟨tg, iter, ifs, 0⟩] scope pos) pos0) (za (gK wi xs.length g ks tt te) (iP i0)) := by
 intro pins s σ H D I h
 rw [exec_Assign_Name_used _ _ _ _ hsw]
 refine wpAny_bind (wpAny_standAt (wpAny_bind (wpAny_bind ?_)))
 refine rW hc S hks hi hg ht he hs I h (some (assign (.Name x0 px0) X.env)) _ fun D' C H' s' mC f J fp hn q => ?_
 obtain ⟨f0, f1, f2, f3, f4, f5⟩ := fp
 refine wpAny_assign_Name (rZ J hN hi0 hx0 (v := .ref D') rfl (fun s7 I7 ⟨a, sb, ha⟩ => ?_) hf)
 have hCa : C ≠ a := by
  rcases ha with e | e
  ·rw [e]; exact f1
  ·exact fun z => f4 _ _ e z.symm
 refine ⟨mC, hn.sameBut sb hCa, fun h' sb2 => ?_⟩
 have J2 := I7.turned (t' := s7.toks) (fun b o hb e => (sb2.2 b hb).trans e) f0 f1 f3 f4 f5
 exact wpAny_pure (wpAny_pure ⟨_, H', J2, q⟩)
end L2
namespace L2
open PySem PySem.Spec PyProof.Rows Builtin Builtin.Str
section
variable {prog : Program} {w : World} {A : Around} {E : Value -> Shared -> Prop} {s : Shared} {t : Addr}
theorem y2 {xs : Array (Int × Tok)} {Q : Value -> Shared -> Prop} (hh : A.handled = none) (ht : s.heap.IsList t (intItems xs))
 (h : ∀ h' tk t', (∀ b o, s.heap.get? b = some o -> h'.get? b = some o) -> Q (.int (preSum (numAt xs) xs.size) t') { s with heap := h', toks := tk }) :
 wpAny (model prog w) A (call (.builtin "sum") [.ref t]) Q E s := by
 obtain ⟨o, ho, hc, n, hd⟩ := id ht
 have hne : t ≠ s.heap.objs.size := Nat.ne_of_lt (Heap.lt_size ho)
 have hsz : (intItems xs).size = xs.size := by simp [intItems]
 have W := (Walks.list (prog := prog) (w := w) (A := A.in1) hh s.heap.objs.size t hne (intItems xs)).toS
 rw [hsz] at W
 refine call_sum_walkAnyS (wpAny_pyIter_list ht ?_)
 refine ⟨s.heap.objs.size, _, _, _, _, _, _, numAt xs, rfl, W, ⟨⟨_, Heap.get?_push_size _ rfl, rfl, rfl⟩, ht.at fun o e => Heap.get?_push_of_some _ e⟩, fun b hb => ?_, fun i v hP => intItems_at hP, fun s' t' hm => ?_⟩
 ·rcases List.mem_cons.mp hb with rfl | hb
  ·exact Heap.lt_size (Heap.get?_push_size _ rfl)
  ·obtain rfl := List.mem_singleton.mp hb
   exact Heap.lt_size (Heap.get?_push_of_some _ ho)
 ·obtain ⟨h', g', d', tk', os'⟩ := s'
  have e1 : g' = s.gens := hm.gens
  have e2 : d' = s.drawn := hm.drawn
  have e3 : os' = s.os := hm.os
  subst e1 e2 e3
  exact h h' tk' t' fun b o e => hm.heap b o (fun hb => absurd (Heap.lt_size e) ((List.mem_singleton.mp hb) ▸ Nat.lt_irrefl _)) (Heap.get?_push_of_some _ e)
end
section
variable {X : Cx} {e a b c : Expr} {pos : Pos}
def ES (K : PySem.W.Frag) : List V -> Hp -> VK -> Prop
 | [.ref p], H, Q => ∃ ns : List Int, (SqL K H p (ns.map V.int) \/ SqT K H p (ns.map V.int)) /\ Q (.int ns.sum) H
 | _, _, _ => False
theorem yN (K : PySem.W.Frag) (hc : X.calm = true) (hK : X.K = K := by rfl) : CallR X (.builtin "sum") (ES K) := by
 subst hK
 intro pins s σ H xs us Q I r h
 unfold ES at h
 split at h
 ·rename_i p
  obtain ⟨ns, hq, q⟩ := h
  rcases hq with hq | hq
  ·obtain ⟨u, rfl, rx⟩ := gs r
   cases (show u = Value.ref p from rx)
   obtain ⟨its, r', pl, hz⟩ := I.list hq
   have hi := pe r'
   obtain ⟨ys, hy⟩ := hi.allInts.items
   have hn : numsOf its.toArray.toList = ns := by rw [show its.toArray.toList = its from rfl, hi.numsOf]
   have pl' := pl.isList
   rw [hy] at pl' hn
   rw [nums_intItems] at hn
   refine y2 (I.ok.hd hc) pl' fun h' tk t' hk => ?_
   rw [preSum_eq, List.take_of_length_le (by simp), hn]
   exact ⟨.int ns.sum, H, I.kept hk, ⟨_, rfl⟩, q⟩
  ·exact sP hc pins s σ H _ us Q I r ⟨p, ns, rfl, hq, q⟩
 ·exact h.elim
def BC (K : PySem.W.Frag) (neg : Bool) : R2
 | x, .ref p, H, Q => ∃ xs, (SqL K H p xs \/ SqT K H p xs) /\ fw x = true /\ xs.all fw = true /\ Q (.bl (neg ^^ inV x xs)) H
 | _, _, _, _ => False
theorem EN (K : PySem.W.Frag) (hK : X.K = K := by rfl) : OpR X (compareOp .In) (BC K false) := by
 subst hK
 refine y6.imp fun x y H Q h => ?_
 unfold BC at h
 split at h
 ·obtain ⟨xs, h1, h2, h3, q⟩ := h
  exact ⟨_, xs, rfl, h1, h2, h3, by simpa using q⟩
 ·exact h.elim
theorem zr (K : PySem.W.Frag) (hK : X.K = K := by rfl) : OpR X (compareOp .NotIn) (BC K true) := by
 subst hK
 refine tW.imp fun x y H Q h => ?_
 unfold BC at h
 split at h
 ·obtain ⟨xs, h1, h2, h3, q⟩ := h
  exact ⟨_, xs, rfl, h1, h2, h3, by simpa using q⟩
 ·exact h.elim
section
variable {T name id : String} {r : V -> List V -> Hp -> VK -> Prop} {o : Expr} {to : TE} {apos cpos : Pos}
end
end
end L2
namespace L2
theorem ig {l : List PySem.Str} (h : l.Nodup) : l.Nodup := h
end L2
namespace L2
def sp5 (f : V -> V -> V -> V -> V -> Hp -> VK -> XK -> Prop) : Sp := fun vs H Q E => match vs with
 | [x, y, z, u, v] => f x y z u v H Q E
 | _ => False
theorem sp5.inv {vs : List V} {H : Hp} {Q : VK} {E : XK} {f} (h : sp5 f vs H Q E) : ∃ x y z u v, vs = [x, y, z, u, v] /\ f x y z u v H Q E := by
 unfold sp5 at h; split at h
 ·exact ⟨_, _, _, _, _, rfl, h⟩
 ·exact h.elim
theorem sp5.len {vs : List V} {H : Hp} {Q : VK} {E : XK} {f} (h : sp5 f vs H Q E) : vs.length = 5 := by obtain ⟨_, _, _, _, _, rfl, _⟩ := sp5.inv h; rfl
theorem kA {n : PySem.Str} {v : V} {l : List (PySem.Str × V)} : List.lookup n ((n, v) :: l) = some v := by simp [List.lookup]
theorem bn {n m : PySem.Str} {v : V} {l : List (PySem.Str × V)} (h : (n == m) = false) : List.lookup n ((m, v) :: l) = List.lookup n l := by simp [List.lookup, h]
end L2
set_option maxHeartbeats 1000000
namespace L2
open PySem PySem.Spec PyProof.Rows
structure GO (k : Nat) (A : Around) : Prop where
 dp : A.depth + 3 * k + 5 < recursionLimit
 un : A.units + 16 * k + 200 < cLine
section
variable {X : Cx} {CX : CXT} {k : Nat} {f : Addr} {fd : FuncData} {ps : List Str} {sp : Sp} {dvs : List V} {ds : List Value} {E : XKs} {x : Str} {p pos : Pos} {e : Expr} {es : List Expr} {t : TA}
end
end L2
set_option maxHeartbeats 1000000
namespace L2
open PySem PySem.Spec PyProof.Rows
section
variable {X : Cx} {tg : Expr}
end
end L2
namespace L2
theorem ex1 {α : Type} {us : List α} (hl : us.length = 1) : ∃ a0, us = [a0] := by
 match us, hl with
 | [a0], _ => exact ⟨a0, rfl⟩
theorem ex2 {α : Type} {us : List α} (hl : us.length = 2) : ∃ a0 a1, us = [a0, a1] := by
 match us, hl with
 | [a0, a1], _ => exact ⟨a0, a1, rfl⟩
theorem ex3 {α : Type} {us : List α} (hl : us.length = 3) : ∃ a0 a1 a2, us = [a0, a1, a2] := by
 match us, hl with
 | [a0, a1, a2], _ => exact ⟨a0, a1, a2, rfl⟩
theorem ex4 {α : Type} {us : List α} (hl : us.length = 4) : ∃ a0 a1 a2 a3, us = [a0, a1, a2, a3] := by
 match us, hl with
 | [a0, a1, a2, a3], _ => exact ⟨a0, a1, a2, a3, rfl⟩
theorem ex5 {α : Type} {us : List α} (hl : us.length = 5) : ∃ a0 a1 a2 a3 a4, us = [a0, a1, a2, a3, a4] := by
 match us, hl with
 | [a0, a1, a2, a3, a4], _ => exact ⟨a0, a1, a2, a3, a4, rfl⟩
end L2
namespace L2
open Lean Meta Simp
def EZ : List Name := [`L2.o6, `L2.tC, `L2.tOp, `L2.tUn, `L2.gEqN, `L2.xT, `L2.BM, `L2.Fx, `L2.fOr, `L2.Gi, `L2.AU, `L2.fPickT, `L2.Aj, `L2.Ej, `L2.B1, `L2.tRetN, `L2.Ar, `L2.Do, `L2.za, `L2.iP, `L2.tIf, `L2.Ga, `L2.tOr, `L2.FF, `L2.nC, `L2.vt, `L2.tCB, `L2.Bi, `L2.A_, `L2.Gj, `L2.FV, `L2.Dy, `L2.F9, `L2.vD, `L2.oI, `L2.tSl, `L2.cs, `L2.E9, `L2.CMul, `L2.D9, `L2.BE, `L2.FW, `L2.gcE, `L2.FY, `L2.tGc, `L2.tBM, `L2.DN, `L2.fJoinRev, `L2.CDivB, `L2.yn, `L2.Ew, `L2.Ds, `L2.F7, `L2.gSub, `L2.rSetL, `L2.DH, `L2.DL, `L2.xp, `L2.wA, `L2.tDGet1, `L2.zX, `L2.Dv, `L2.tBM0, `L2.rClear]
def Ei : List Name := [`L2.Dc, `L2.gI, `L2.gIC, `L2.E1, `L2.gLe, `L2.gLt, `L2.eqS, `L2.kB, `L2.GH, `L2.DU, `L2.EO, `L2.CW, `L2.Da, `L2.gInt, `L2.gIx, `L2.sp0, `L2.sp1, `L2.sp2, `L2.sp3, `L2.sp4, `L2.asI, `L2.asT, `L2.asB, `L2.asR, `L2.tyV, `L2.gSt, `L2.gEn, `L2.gZf, `L2.gStr, `L2.AI, `L2.gIn, `L2.gSl, `L2.GB, `L2.gMulS, `L2.Gy, `L2.gRep, `L2.gRepT, `L2.gIsiT, `L2.Ah, `L2.xw, `L2.DV, `L2.gStM, `L2.EB, `L2.Bp, `L2.xJ, `L2.ES, `L2.gMulT]
def rdI := And.intro @L2.CK (And.intro @L2.Gk (And.intro @L2.V.bl.injEq (And.intro @L2.V.str.injEq (And.intro @L2.zH (And.intro @L2.F_ (And.intro @L2.Ek (And.intro @L2.D6 (And.intro @L2.Ez (And.intro @L2.DT (And.intro @L2.on (And.intro @L2.vk (And.intro @L2.wS (And.intro @L2.wG (And.intro @L2.wo (And.intro @L2.ue (And.intro @L2.wx (And.intro @L2.Ca (And.intro @L2.nr (And.intro @L2.uq (And.intro @L2.wv (And.intro @L2.vc (And.intro @L2.uF (And.intro @L2.ri (And.intro @L2.sX (And.intro @L2.Fj (And.intro @L2.oG (And.intro @L2.vP (And.intro @L2.xm (And.intro @L2.xi (And.intro @L2.vF (And.intro @L2.t0 (And.intro @L2.vY (And.intro @L2.B0 (And.intro @L2.mO (And.intro @L2.tX (And.intro @L2.vg (And.intro @L2.vV (And.intro @L2.tF (And.intro @L2.qJ (And.intro @L2.t_ (And.intro @L2.Ae (And.intro @L2.mf (And.intro @L2.rq (And.intro @L2.uH (And.intro @L2.uy (And.intro @L2.qW (And.intro @L2.qe (And.intro @L2.rn (And.intro @L2.CA (And.intro @L2.ni (And.intro @L2.uA (And.intro @L2.wb (And.intro @L2.wg (And.intro @L2.sS (And.intro @L2.qT (And.intro @L2.tB (And.intro @L2.FZ (And.intro @L2.E_ (And.intro @L2.Eh (And.intro @L2.Es (And.intro @L2.Cd (And.intro @L2.El (And.intro @L2.Cf (And.intro @L2.CV (And.intro @L2.Cc (And.intro @L2.CJ (And.intro @L2.EA (And.intro @L2.CO (And.intro @L2.C_ (And.intro @L2.B3 (And.intro @true_and (And.intro @and_true (And.intro @and_self (And.intro @true_or (And.intro @or_true (And.intro @decide_eq_true_eq (And.intro @Bool.true_eq_false (And.intro @Bool.false_xor (And.intro @Bool.true_xor (And.intro @Bool.not_true (And.intro @Bool.not_false (And.intro @Bool.false_eq_true (And.intro @Bool.not_eq_true' (And.intro @decide_eq_false_iff_not @Classical.not_not))))))))))))))))))))))))))))))))))))))))))))))))))))))))))))))))))))))))))))))))))))
end L2
namespace L2
namespace Srt
open PySem PyProof.Rows
def kv (κ : Keyed -> Int) (xs : Array Keyed) (i : Nat) : Int := (xs[i]?.map κ).getD 0
def Up (κ : Keyed -> Int) (xs : Array Keyed) (k : Nat) : Prop := ∀ i j, i <= j -> j < k -> kv κ xs i <= kv κ xs j
def Dn (κ : Keyed -> Int) (xs : Array Keyed) (k : Nat) : Prop := ∀ i j, i <= j -> j < k -> kv κ xs j <= kv κ xs i
structure SB (kd : SortKind) (z : Array Keyed) (t : SortSt) : Prop where
 pm : (arrOf t).Perm z
 kn : kindOf t = kd
 fl : failedOf t = none
 pn : pendingOf t = #[]
theorem SB.sz {kd : SortKind} {z : Array Keyed} {t : SortSt} (b : SB kd z t) : (arrOf t).size = z.size := b.pm.size_eq
theorem SB.put {kd : SortKind} {z : Array Keyed} {t : SortSt} {xs : Array Keyed} (b : SB kd z t) (p : xs.Perm (arrOf t)) : SB kd z (setArr t xs) :=
 ⟨p.trans b.pm, b.kn, b.fl, b.pn⟩
theorem sA {κ : Keyed -> Int} {xs : Array Keyed} {i : Nat} (h : i < xs.size) : kv κ xs i = κ xs[i] := by
 unfold kv; rw [Array.getElem?_eq_getElem h]; rfl
theorem xQ {κ : Keyed -> Int} {xs ys : Array Keyed} {i j : Nat} (h : xs[i]? = ys[j]?) : kv κ xs i = kv κ ys j := by unfold kv; rw [h]
theorem Bo {κ : Keyed -> Int} {xs : Array Keyed} {u d : Nat} (hs : u < xs.size) (hd : d <= u) (k : Nat) :
 kv κ (bubble xs u d) k = if k = u - d then kv κ xs u else if u - d < k /\ k <= u then kv κ xs (k - 1) else kv κ xs k := by
 have e := getElem?_bubble hs d hd k
 by_cases h1 : k = u - d
 ·rw [if_pos h1] at e ⊢
  exact xQ e
 ·rw [if_neg h1] at e ⊢
  by_cases h2 : u - d < k /\ k <= u
  ·rw [if_pos h2] at e ⊢
   exact xQ e
  ·rw [if_neg h2] at e ⊢
   exact xQ e
theorem Ay {κ : Keyed -> Int} {xs : Array Keyed} {n : Nat} (hj : n <= xs.size) {k : Nat} (hk : k < n) :
 kv κ (mirror xs 0 n ((n - 0) / 2)) k = kv κ xs (n - 1 - k) := by
 have e := getElem?_mirror_all (i := 0) hj k
 rw [if_pos ⟨Nat.zero_le _, hk⟩, Nat.zero_add] at e
 exact xQ e
section
variable {prog : Program} {w : World} {A : Around} {E : Value -> Shared -> Prop} {s : Shared} {z : Array Keyed} {κ : Keyed -> Int} {kd : SortKind} {t : SortSt}
def Lts (prog : Program) (w : World) (A : Around) (s : Shared) (kd : SortKind) (κ : Keyed -> Int) (z : Array Keyed) : Prop :=
 ∀ (E : Value -> Shared -> Prop) (p q : Keyed) (Q : Bool -> Shared -> Prop), p ∈ z.toList -> q ∈ z.toList -> Q (decide (κ p < κ q)) s -> wpAny (model prog w) A (keyLt' kd p.1 q.1) Q E s
theorem SB.mem (b : SB kd z t) {i : Nat} (h : i < (arrOf t).size) : (arrOf t)[i] ∈ z.toList :=
 (Array.perm_iff_toList_perm.mp b.pm).mem_iff.mp (by simp)
theorem uW {i j : Nat} {Q : Option Bool -> SortSt -> Prop} (L : Lts prog w A s kd κ z) (b : SB kd z t) (hi : i < z.size) (hj : j < z.size)
 (h : Q (some (decide (kv κ (arrOf t) i < kv κ (arrOf t) j))) t) : wpS (model prog w) A E s (ltAt' i j) Q t := by
 have i' : i < (arrOf t).size := b.sz ▸ hi
 have j' : j < (arrOf t).size := b.sz ▸ hj
 rw [sA i', sA j'] at h
 rw [ltAt'_eq]
 refine wpS_bind (wpS_get ?_)
 show wpS (model prog w) A E s (elem' (arrOf t) i >>= fun p => elem' (arrOf t) j >>= fun q => lt' p q) Q t
 rw [elem'_eq, elem'_eq, Array.getElem?_eq_getElem i', Array.getElem?_eq_getElem j']
 refine wpS_bind (wpS_pure (wpS_bind (wpS_pure ?_)))
 rw [lt'_eq]
 refine wpS_bind (wpS_get ?_)
 rw [b.kn]
 exact wpS_bind (wpS_lift (wpAny_attempt (L _ _ _ _ (b.mem i') (b.mem j') ⟨rfl, wpS_pure h⟩)))
def sv (κ : Keyed -> Int) (z : Array Keyed) : Prop := (z.toList.map κ).Nodup
theorem apart (b : SB kd z t) (D : sv κ z) {i j : Nat} (hj : j < z.size) (h : i < j) : kv κ (arrOf t) i ≠ kv κ (arrOf t) j := by
 have j' : j < (arrOf t).size := b.sz ▸ hj
 have i' : i < (arrOf t).size := Nat.lt_trans h j'
 have d : ((arrOf t).toList.map κ).Nodup := ((Array.perm_iff_toList_perm.mp b.pm).map κ).nodup_iff.mpr D
 rw [sA i', sA j']
 intro e
 have := List.pairwise_iff_getElem.mp d i j (by simpa using i') (by simpa using j') h
 simp at this
 exact this e
theorem CS {xs : Array Keyed} {n : Nat} (u : Up κ xs n) (h : n = 0 \/ kv κ xs (n - 1) <= kv κ xs n) : Up κ xs (n + 1) := by
 intro i j a c
 by_cases e : j < n
 ·exact u i j a e
 ·have : j = n := by omega
  subst this
  by_cases e2 : i = j
  ·subst e2; exact Int.le_refl _
  ·exact Int.le_trans (u i (j - 1) (by omega) (by omega)) (h.resolve_left (by omega))
theorem yq {xs : Array Keyed} {n : Nat} (u : Dn κ xs n) (h : n = 0 \/ kv κ xs n <= kv κ xs (n - 1)) : Dn κ xs (n + 1) := by
 intro i j a c
 by_cases e : j < n
 ·exact u i j a e
 ·have : j = n := by omega
  subst this
  by_cases e2 : i = j
  ·subst e2; exact Int.le_refl _
  ·exact Int.le_trans (h.resolve_left (by omega)) (u i (j - 1) (by omega) (by omega))
theorem asc {a r : Nat} {Q : AscSt -> SortSt -> Prop} (L : Lts prog w A s kd κ z) (hr : r <= z.size) (ha : 1 <= a) (har : a <= r) (b : SB kd z t) (u : Up κ (arrOf t) a)
 (h : ∀ n, a <= n -> n <= r -> Up κ (arrOf t) n -> (n = r \/ kv κ (arrOf t) n < kv κ (arrOf t) (n - 1)) -> Q (none, n) t) : wpS (model prog w) A E s (ascLoop a r) Q t := by
 unfold ascLoop
 refine wpS_forRange (fun x c t' => t' = t /\ c = (none, x) /\ Up κ (arrOf t) x) ?_ ?_ ⟨rfl, rfl, u⟩
 ·rintro x c t' x1 x2 ⟨rfl, rfl, u'⟩
  refine wpS_bind (uW L b (by omega) (by omega) ?_)
  by_cases l : kv κ (arrOf t') x < kv κ (arrOf t') (x - 1)
  ·simp only [decide_eq_true l, if_true]
   exact wpS_pure (h x x1 (by omega) u' (.inr l))
  ·simp only [decide_eq_false l, Bool.false_eq_true, if_false]
   exact wpS_pure ⟨rfl, rfl, CS u' (.inr (by omega))⟩
 ·rintro c t' ⟨rfl, rfl, u'⟩
  rw [Nat.max_eq_right har] at u' ⊢
  exact h r har (Nat.le_refl _) u' (.inl rfl)
theorem t3 {n r : Nat} {Q : Option Nat -> SortSt -> Prop} (L : Lts prog w A s kd κ z) (hr : r <= z.size) (h1 : 1 <= n) (hn : n <= r) (b : SB kd z t) (u : Dn κ (arrOf t) n)
 (h : ∀ m t', SB kd z t' -> 1 <= m -> m <= r -> Up κ (arrOf t') m -> Q (some m) t') : wpS (model prog w) A E s (tail3 n r) Q t := by
 unfold tail3
 refine wpS_bind (wpS_reverse ?_)
 have b' := b.put (mirror_perm (arrOf t) 0 n ((n - 0) / 2))
 refine wpS_bind (asc L hr h1 hn b' ?_ fun m m1 m2 u' _ => wpS_pure (h m _ b' (by omega) m2 u'))
 intro i j a c
 have g : n <= (arrOf t).size := by rw [b.sz]; omega
 show kv κ (mirror (arrOf t) 0 n ((n - 0) / 2)) i <= kv κ (mirror (arrOf t) 0 n ((n - 0) / 2)) j
 rw [Ay g (by omega), Ay g c]
 exact u _ _ (by omega) (by omega)
theorem GC {n r : Nat} {Q : DescSt -> SortSt -> Prop} (L : Lts prog w A s kd κ z) (D : sv κ z) (hr : r <= z.size) (h1 : 1 <= n) (hn : n <= r) (b : SB kd z t) (u : Dn κ (arrOf t) n)
 (h : ∀ m, n <= m -> m <= r -> Dn κ (arrOf t) m -> Q (none, m, 0) t) : wpS (model prog w) A E s (descLoop n r) Q t := by
 unfold descLoop
 refine wpS_forRange (fun x c t' => t' = t /\ c = (none, x, 0) /\ Dn κ (arrOf t) x) ?_ ?_ ⟨rfl, rfl, u⟩
 ·rintro x c t' x1 x2 ⟨rfl, rfl, u'⟩
  dsimp only
  refine wpS_bind (uW L b (by omega) (by omega) ?_)
  by_cases l : kv κ (arrOf t') x < kv κ (arrOf t') (x - 1)
  ·simp only [decide_eq_true l, if_true]
   rw [if_neg (Nat.lt_irrefl 0)]
   exact wpS_pure ⟨rfl, rfl, yq u' (.inr (Int.le_of_lt l))⟩
  ·simp only [decide_eq_false l, Bool.false_eq_true, if_false]
   refine wpS_bind (uW L b (by omega) (by omega) ?_)
   have d := apart b D (i := x - 1) (j := x) (by omega) (by omega)
   simp only [decide_eq_true (show kv κ (arrOf t') (x - 1) < kv κ (arrOf t') x by omega), if_true]
   exact wpS_pure (h x x1 (by omega) u')
 ·rintro c t' ⟨rfl, rfl, u'⟩
  rw [Nat.max_eq_right hn] at u' ⊢
  exact h r hn (Nat.le_refl _) u'
theorem count {r : Nat} {Q : Option Nat -> SortSt -> Prop} (L : Lts prog w A s kd κ z) (D : sv κ z) (hr : r <= z.size) (h1 : 1 <= r) (b : SB kd z t)
 (h : ∀ m t', SB kd z t' -> 1 <= m -> m <= r -> Up κ (arrOf t') m -> Q (some m) t') : wpS (model prog w) A E s (countRun' 0 r) Q t := by
 rw [countRun0_eq]
 refine wpS_bind (asc L hr (Nat.le_refl 1) h1 b (fun i j a c => by have : i = j := (by omega); subst this; exact Int.le_refl _) fun n n1 n2 u o => ?_)
 dsimp only
 by_cases e : n = r
 ·rw [if_pos (by simpa using e)]
  exact wpS_pure (h n t b n1 n2 u)
 rw [if_neg (by simpa using e)]
 by_cases g : n > 1
 ·rw [if_pos g]
  refine wpS_bind (uW L b (by omega) (by omega) ?_)
  have d := apart b D (i := 0) (j := n - 1) (by omega) (by omega)
  have l := u 0 (n - 1) (by omega) (by omega)
  simp only [decide_eq_true (show kv κ (arrOf t) 0 < kv κ (arrOf t) (n - 1) by omega), if_true]
  exact wpS_pure (h n t b n1 n2 u)
 ·rw [if_neg g]
  have : n = 1 := by omega
  subst this
  unfold descPart
  refine wpS_bind (wpS_lift (wpAny_rule ⟨rfl, ?_⟩))
  refine wpS_bind (GC L D hr (by omega) (by omega) b ?_ fun m m1 m2 u' => ?_)
  ·refine yq (fun i j a c => by have : i = j := (by omega); subst this; exact Int.le_refl _) (.inr ?_)
   have := o.resolve_left e
   omega
  ·dsimp only
   rw [if_neg (Nat.lt_irrefl 0)]
   exact t3 L hr (by omega) m2 b u' h
theorem EU {n k₀ : Nat} {Q : Bool -> SortSt -> Prop} (L : Lts prog w A s kd κ z) (hn : n <= z.size) (hk : k₀ <= n) (h0 : 1 <= k₀) (b : SB kd z t) (u : Up κ (arrOf t) k₀)
 (h : ∀ t', SB kd z t' -> Up κ (arrOf t') n -> Q true t') : wpS (model prog w) A E s (binarySort' 0 n k₀) Q t := by
 rw [binarySort'_eq]
 simp only [Nat.zero_add]
 rw [Nat.max_eq_left h0]
 refine wpS_bind (wpS_mono (wpS_forRange (fun k c t' => c = (none, ()) /\ SB kd z t' /\ Up κ (arrOf t') k) (Q := fun c t' => c = (none, ()) /\ SB kd z t' /\ Up κ (arrOf t') n) ?_ ?_ ⟨rfl, b, u⟩) ?_)
 ·rintro k c t' k1 k2 ⟨rfl, b', u'⟩
  refine wpS_bind (wpS_mono (wpS_forRange (fun x c t2 => t2 = t' /\ ∃ l r, c = (none, l, r) /\ l <= r /\ r <= k /\ r - l <= k - x /\
   (∀ i, i < l -> kv κ (arrOf t') i <= kv κ (arrOf t') k) /\ ∀ i, r <= i -> i < k -> kv κ (arrOf t') k <= kv κ (arrOf t') i)
   (Q := fun c t2 => t2 = t' /\ ∃ l r, c = (none, l, r) /\ l <= k /\ (∀ i, i < l -> kv κ (arrOf t') i <= kv κ (arrOf t') k) /\ ∀ i, l <= i -> i < k -> kv κ (arrOf t') k <= kv κ (arrOf t') i) ?_ ?_
    ⟨rfl, 0, k, rfl, Nat.zero_le _, Nat.le_refl _, Nat.le_refl _, fun i q => absurd q (Nat.not_lt_zero _), fun i q q' => absurd q' (Nat.not_lt.mpr q)⟩) ?_)
  ·rintro x c t2 _ x2 ⟨rfl, l, r, rfl, lr, rk, m, lo, hi⟩
   dsimp only
   by_cases g : l ≥ r
   ·rw [if_pos g]
    have : l = r := by omega
    subst this
    exact wpS_pure ⟨rfl, l, l, rfl, rk, lo, hi⟩
   rw [if_neg g]
   refine wpS_bind (uW L b' (by omega) (by omega) ?_)
   by_cases q : kv κ (arrOf t2) k < kv κ (arrOf t2) ((l + r) / 2)
   ·simp only [decide_eq_true q, if_true]
    exact wpS_pure ⟨rfl, l, (l + r) / 2, rfl, by omega, by omega, by omega, lo, fun i a c => Int.le_trans (Int.le_of_lt q) (u' _ _ a c)⟩
   ·simp only [decide_eq_false q, Bool.false_eq_true, if_false]
    exact wpS_pure ⟨rfl, (l + r) / 2 + 1, r, rfl, by omega, by omega, by omega, fun i a => Int.le_trans (u' i ((l + r) / 2) (by omega) (by omega)) (by omega), hi⟩
  ·rintro c t2 ⟨rfl, l, r, rfl, lr, rk, m, lo, hi⟩
   have : l = r := by omega
   subst this
   exact ⟨rfl, l, l, rfl, rk, lo, hi⟩
  ·rintro c t2 ⟨rfl, l, r, rfl, lk, lo, hi⟩
   show wpS (model prog w) A E s (moveDown' k l >>= fun _ => pure (ForInStep.yield (none, ()))) _ t2
   rw [moveDown'_eq]
   refine wpS_bind (wpS_modify (wpS_pure ⟨rfl, b'.put (bubble_perm _ _ _), ?_⟩))
   have g : k < (arrOf t2).size := by rw [b'.sz]; omega
   intro i j a c
   show kv κ (bubble (arrOf t2) k (k - l)) i <= kv κ (bubble (arrOf t2) k (k - l)) j
   rw [Bo g (by omega), Bo g (by omega), Nat.sub_sub_self lk]
   by_cases e1 : i = l
   ·rw [if_pos e1]
    by_cases e2 : j = l
    ·rw [if_pos e2]; exact Int.le_refl _
    ·rw [if_neg e2, if_pos (by omega)]; exact hi _ (by omega) (by omega)
   ·rw [if_neg e1]
    by_cases e3 : l < i /\ i <= k
    ·rw [if_pos e3, if_neg (by omega), if_pos (by omega)]; exact u' _ _ (by omega) (by omega)
    ·rw [if_neg e3]
     by_cases e2 : j = l
     ·rw [if_pos e2]; exact lo _ (by omega)
     ·rw [if_neg e2]
      by_cases e4 : l < j /\ j <= k
      ·rw [if_pos e4]; exact u' _ _ (by omega) (by omega)
      ·rw [if_neg e4]; exact u' _ _ a (by omega)
 ·rintro c t' ⟨e, b', u'⟩
  rw [Nat.max_eq_right hk] at u'
  exact ⟨e, b', u'⟩
 ·rintro c t' ⟨rfl, b', u'⟩
  exact wpS_pure (h t' b' u')
theorem Gq {Q : Unit -> SortSt -> Prop} (L : Lts prog w A s kd κ z) (D : sv κ z) (b : SB kd z t) (h2 : 2 <= z.size) (h64 : z.size < 64)
 (h : ∀ t', (arrOf t').Perm z -> failedOf t' = none -> Up κ (arrOf t') z.size -> Q () t') : wpS (model prog w) A E s sortRuns' Q t := by
 rw [sortRuns'_eq]
 refine wpS_bind (wpS_get ?_)
 dsimp only
 have mr : minRun' z.size z.size 0 = z.size := by
  obtain ⟨f, e⟩ : ∃ f, z.size = f + 1 := ⟨z.size - 1, by omega⟩
  rw [e, minRun'_succ, if_pos (by omega), Nat.add_zero]
 simp only [b.sz, mr]
 refine wpS_bind (wpS_mono (wpS_forRange
  (fun x c t' => (x = 0 /\ c = (none, 0) /\ SB kd z t') \/ (1 <= x /\ c = (none, z.size) /\ (arrOf t').Perm z /\ failedOf t' = none /\ pendingOf t' = #[(0, z.size, 0)] /\ Up κ (arrOf t') z.size))
  (Q := fun c t' => c = (none, z.size) /\ (arrOf t').Perm z /\ failedOf t' = none /\ pendingOf t' = #[(0, z.size, 0)] /\ Up κ (arrOf t') z.size) ?_ ?_ (.inl ⟨rfl, rfl, b⟩)) ?_)
 ·rintro x c t' _ x2 (⟨rfl, rfl, b'⟩ | ⟨x1, rfl, d⟩)
  ·dsimp only
   rw [if_neg (by omega)]
   simp only [Nat.sub_zero, Nat.min_self, Nat.zero_add]
   refine wpS_bind (count L D (Nat.le_refl _) (by omega) b' fun m t2 b2 m1 m2 u2 => ?_)
   dsimp only
   by_cases g : m < z.size
   ·rw [if_pos g]
    refine wpS_bind (wpS_lift (wpAny_rule ⟨rfl, ?_⟩))
    refine wpS_bind (EU L (Nat.le_refl _) m2 m1 b2 u2 fun t3 b3 u3 => ?_)
    simp only [Bool.not_true, Bool.false_eq_true, if_false]
    refine wpS_bind (wpS_get ?_)
    rw [show (pendingOf t3).back? = none by rw [b3.pn]; rfl]
    exact wpS_bind (wpS_modify (wpS_pure (.inr ⟨by omega, rfl, b3.pm, b3.fl, by show (pendingOf t3).push _ = _; rw [b3.pn]; rfl, u3⟩)))
   ·rw [if_neg g]
    have : m = z.size := by omega
    subst this
    refine wpS_bind (wpS_get ?_)
    rw [show (pendingOf t2).back? = none by rw [b2.pn]; rfl]
    exact wpS_bind (wpS_modify (wpS_pure (.inr ⟨by omega, rfl, b2.pm, b2.fl, by show (pendingOf t2).push _ = _; rw [b2.pn]; rfl, u2⟩)))
  ·dsimp only
   rw [if_pos (Nat.le_refl _)]
   exact wpS_pure ⟨rfl, d⟩
 ·rintro c t' (⟨x, _, _⟩ | ⟨_, e, d⟩)
  ·omega
  ·exact ⟨e, d⟩
 ·rintro c t' ⟨rfl, p1, p2, p3, p4⟩
  dsimp only
  refine wpS_bind (wpS_mono (wpS_forRange (fun _ c t2 => t2 = t' /\ c = (none, ())) (Q := fun c t2 => t2 = t' /\ c = (none, ())) ?_ (fun _ _ q => q) ⟨rfl, rfl⟩) ?_)
  ·rintro x c t2 _ _ ⟨rfl, rfl⟩
   refine wpS_bind (wpS_get ?_)
   rw [if_pos (by rw [p3]; exact Nat.le_refl 1)]
   exact wpS_pure ⟨rfl, rfl⟩
  ·rintro c t2 ⟨rfl, rfl⟩
   exact wpS_pure (h _ p1 p2 p4)
end
section
variable {prog : Program} {w : World} {A : Around} {E : Value -> Shared -> Prop} {s : Shared}
structure Cmp (prog : Program) (w : World) (h : Heap) (os : OsState) (kd : SortKind) (κ : Value -> Int) (vs : List Value) : Prop where
 kind : ∀ (A : Around) (E : Value -> Shared -> Prop) (s : Shared) (Q : SortKind -> Shared -> Prop), s.heap = h -> Q kd s -> wpAny (model prog w) A (keyKind' vs.toArray) Q E s
 lt : ∀ (A : Around) (E : Value -> Shared -> Prop) (s : Shared) (p q : Value) (Q : Bool -> Shared -> Prop), s.heap = h -> p ∈ vs -> q ∈ vs -> Q (decide (κ p < κ q)) s -> wpAny (model prog w) A (keyLt' kd p q) Q E s
theorem m8 {vs : List Value} {p : Keyed} (h : p ∈ (vs.toArray.zip vs.toArray).toList) : p.1 ∈ vs /\ p.2 = p.1 := by
 rw [Array.toList_zip] at h
 simp at h
 rw [List.zip_eq_zipWith, List.zipWith_self] at h
 obtain ⟨a, ha, e⟩ := List.mem_map.mp h
 subst e
 exact ⟨ha, rfl⟩
theorem rX (vs : List Value) : (vs.toArray.zip vs.toArray).toList.map (·.1) = vs := by
 rw [Array.toList_zip]
 exact List.map_fst_zip (Nat.le_refl _)
theorem sort_by {a : Addr} {vs : List Value} {n : Nat} {kd : SortKind} {κ : Value -> Int} {P : Fin -> Shared -> Prop} (ho : s.heap.get? a = some (seqObj "list" vs.toArray n)) (h64 : vs.length < 64) (hd : (vs.map κ).Nodup)
 (hC : 2 <= vs.length -> Cmp prog w (((s.heap.update a (Obj.mapSeq fun _ => #[])).push (seqObj "tuple" vs.toArray 0)).push (seqObj "list" #[] 0)) s.os kd κ vs)
 (h : ∀ out : List Value, out.Perm vs -> out.Pairwise (fun x y => κ x < κ y) -> P (.done (.ret .none)) { s with heap := sortedHeap s.heap a vs out.toArray }) :
 wpAny (model prog w) A (Builtin.«list.sort» ⟨[.ref a], []⟩) P E s := by
 rw [list_sort_plain]
 have la : a < s.heap.objs.size := Heap.lt_size ho
 refine wpAny_bind (listItems_at ho rfl (wpAny_bind (listUpdate_at ho rfl ?_ (hsz := by rw [List.size_toArray, sizeLine_eq]; omega))))
 obtain ⟨e1, ho1⟩ : ∃ e, (s.heap.update a (Obj.mapSeq fun _ => #[])).get? a = some (seqObj "list" #[] e) := ⟨_, get?_update_seq ho fun _ => #[]⟩
 refine wpAny_bind (seqEpoch_at ho1 rfl (wpAny_bind (wpAny_newTuple (wpAny_bind (wpAny_newList (wpAny_holding ?_))) (by show vs.length <= _; rw [sizeLine_eq]; omega))))
 have ho3 : (((s.heap.update a (Obj.mapSeq fun _ => #[])).push (seqObj "tuple" vs.toArray 0)).push (seqObj "list" #[] 0)).get? a = some (seqObj "list" #[] e1) :=
  Heap.get?_push_of_some _ (Heap.get?_push_of_some _ ho1)
 show wpAny (model prog w) A _ P E { s with heap := ((s.heap.update a (Obj.mapSeq fun _ => #[])).push (seqObj "tuple" vs.toArray 0)).push (seqObj "list" #[] 0) }
 dsimp only
 have fin : ∀ t : SortSt, (arrOf t).Perm (vs.toArray.zip vs.toArray) -> failedOf t = none -> Up (fun p => κ p.1) (arrOf t) (vs.toArray.zip vs.toArray).size ->
  (((arrOf t).map (·.2)).toList.Perm vs /\ ((arrOf t).map (·.2)).toList.Pairwise fun x y => κ x < κ y) := fun t pm _ u => by
  have pl := Array.perm_iff_toList_perm.mp pm
  have e2 : ((arrOf t).map (·.2)).toList = (arrOf t).toList.map (·.1) := by
   rw [Array.toList_map]
   exact List.map_congr_left fun p hp => (m8 (pl.mem_iff.mp hp)).2
  have p1 : ((arrOf t).map (·.2)).toList.Perm vs := by
   rw [e2]
   have := pl.map (·.1)
   rwa [rX] at this
  refine ⟨p1, ?_⟩
  have nd : (((arrOf t).map (·.2)).toList.map κ).Nodup := (p1.map κ).nodup_iff.mpr hd
  rw [e2] at nd ⊢
  have sz : (arrOf t).size = (vs.toArray.zip vs.toArray).size := pm.size_eq
  refine List.pairwise_iff_getElem.mpr fun i j hi hj hij => ?_
  have hi' : i < (arrOf t).size := by simpa using hi
  have hj' : j < (arrOf t).size := by simpa using hj
  have l := u i j (Nat.le_of_lt hij) (by omega)
  rw [sA hi', sA hj'] at l
  have d := List.pairwise_iff_getElem.mp nd i j (by simpa using hi) (by simpa using hj) hij
  simp at d l ⊢
  omega
 by_cases c2 : vs.toArray.size < 2
 ·rw [if_pos c2, if_pos c2]
  refine wpAny_bind (wpAny_pure ?_)
  rw [StateT.run_pure]
  refine wpAny_bind (wpAny_pure ?_)
  dsimp only
  refine wpAny_bind (seqEpoch_at ho3 rfl ?_)
  obtain ⟨f1, f2⟩ := fin (SortSt.mk' general' (vs.toArray.zip vs.toArray) #[] 7 none) (Array.Perm.refl _) rfl fun i j hij hj => by
   have : i = j := by simp at hj c2; omega
   subst this; exact Int.le_refl _
  have sz2 : ((vs.toArray.zip vs.toArray).map (·.2)).size <= sizeLine + 1 := by simp; rw [sizeLine_eq]; omega
  refine wpAny_bind (listUpdate_at ho3 rfl ?_ (hsz := by rw [sizeLine_eq]; decide) (hsz2 := sz2))
  simp only [bne_self_eq_false, Bool.false_eq_true, if_false]
  exact wpAny_pure (h _ f1 f2)
 ·rw [if_neg c2, if_neg c2]
  have C := hC (by simp at c2; omega)
  refine wpAny_bind (C.kind _ _ _ _ rfl ?_)
  have zs : (vs.toArray.zip vs.toArray).size = vs.length := by simp
  have L : Lts prog w A { s with heap := ((s.heap.update a (Obj.mapSeq fun _ => #[])).push (seqObj "tuple" vs.toArray 0)).push (seqObj "list" #[] 0) } kd (fun p => κ p.1) (vs.toArray.zip vs.toArray) :=
   fun E p q Q hp hq k => C.lt _ _ _ _ _ _ rfl (m8 hp).1 (m8 hq).1 k
  have D : sv (fun p => κ p.1) (vs.toArray.zip vs.toArray) := by
   unfold sv
   rw [show (vs.toArray.zip vs.toArray).toList.map (fun p => κ p.1) = ((vs.toArray.zip vs.toArray).toList.map (·.1)).map κ by rw [List.map_map]; rfl, rX]
   exact hd
  refine wpAny_bind (wpAny_mono (Gq (z := vs.toArray.zip vs.toArray) (t := SortSt.mk' kd (vs.toArray.zip vs.toArray) #[] 7 none) (Q := fun _ t' => (arrOf t').Perm (vs.toArray.zip vs.toArray) /\ failedOf t' = none /\ Up (fun p => κ p.1) (arrOf t') (vs.toArray.zip vs.toArray).size)
   L D ⟨Array.Perm.refl _, rfl, rfl, rfl⟩ (by rw [zs]; simp at c2; omega) (by omega) fun t' a1 a2 a3 => ⟨a1, a2, a3⟩) ?_ fun _ _ e => e)
  rintro ⟨⟨⟩, t'⟩ s' ⟨rfl, a1, a2, a3⟩
  dsimp only
  refine wpAny_bind (seqEpoch_at ho3 rfl ?_)
  obtain ⟨f1, f2⟩ := fin t' a1 a2 a3
  have sz2 : ((arrOf t').map (·.2)).size <= sizeLine + 1 := by
   have := f1.length_eq
   rw [Array.length_toList] at this
   rw [this, sizeLine_eq]; omega
  refine wpAny_bind (listUpdate_at ho3 rfl ?_ (hsz := by rw [sizeLine_eq]; decide) (hsz2 := sz2))
  rw [a2]
  simp only [bne_self_eq_false, Bool.false_eq_true, if_false]
  exact wpAny_pure (h _ f1 f2)
end
end Srt
end L2
namespace L2
namespace Srt
open PySem PyProof.Rows
def Two (h : Heap) (p : Addr) (x y : Int) : Prop := ∃ (o : Obj) (t u : Tok) (n : Nat), h.get? p = some o /\ o.cls = .type "tuple" /\ o.data = .seq #[.int x t, .int y u] n
section
variable {prog : Program} {w : World} {A : Around} {E : Value -> Shared -> Prop} {s : Shared}
end
end Srt
end L2
namespace L2
namespace Srt
open PySem PyProof.Rows
section
variable {prog : Program} {w : World} {A : Around} {E : Value -> Shared -> Prop} {R : Result -> Shared -> Prop} {s : Shared} {I S ax : Addr} {items : Array Value} {h₀ : Heap} {κ : Value -> Int}
def Prs (h : Heap) (κ : Value -> Int) (lo : Int) (v : Value) : Prop := ∃ p x y, v = .ref p /\ Two h p x y /\ κ v = x * 64 + y /\ lo <= y /\ y < lo + 64
end
end Srt
end L2
namespace L2
open PySem PyProof.Rows
section
variable {X : Cx} {pins : List (Addr × Obj)} {σ : St} {H : Hp} {s : Shared}
def Ite (K : PySem.W.Frag) (a : Addr) : It :=
 ⟨fun i H => ∃ xs x, SqL K H a xs /\ xs[i]? = some x, fun i H x H' => ∃ p y, H p = none /\ x = .ref p /\ H' = upd H p (.tup [.int i, y]) /\ ∀ xs, SqL K H a xs -> xs[i]? = some y, fun i H => ∃ xs, SqL K H a xs /\ xs.length <= i⟩
theorem Inv.turned2 {h' : Heap} {t' : Nat} {e it : Addr} {oe oi : Obj} (I : Inv X pins σ H s) (ge : s.heap.get? e = some oe) (gi : s.heap.get? it = some oi) (ne : e ≠ it) (he : ∃ o, h'.get? e = some o /\ o.isFreed = false) (hi : ∃ o, h'.get? it = some o /\ o.isFreed = false)
 (k : ∀ b o, b ≠ e -> b ≠ it -> s.heap.get? b = some o -> h'.get? b = some o) (fe : qX X pins H e) (fi : qX X pins H it) : ∃ h2 : Heap, h2.objs.size = s.heap.objs.size /\ Inv X pins σ H { s with heap := h2, toks := t' } /\ ∀ b o, h2.get? b = some o -> h'.get? b = some o := by
 obtain ⟨o1, g1, z1⟩ := he
 obtain ⟨o2, g2, z2⟩ := hi
 refine ⟨(s.heap.update it fun _ => o2).update e fun _ => o1, by rw [Heap.size_update, Heap.size_update], ?_, ?_⟩
 ·have I1 : Inv X pins σ H { s with heap := s.heap.update it fun _ => o2, toks := t' } := I.turned (fun b o hb q => (Heap.get?_update_other _ _ (Ne.symm hb)).trans q) fi.1 fi.2.1 fi.2.2.2.1 fi.2.2.2.2.1 fi.2.2.2.2.2
  exact I1.turned (t' := t') (fun b o hb q => (Heap.get?_update_other _ _ (Ne.symm hb)).trans q) fe.1 fe.2.1 fe.2.2.2.1 fe.2.2.2.2.1 fe.2.2.2.2.2
 ·intro b o q
  by_cases b1 : b = e
  ·subst b1
   have ge' : (s.heap.update it fun _ => o2).get? b = some oe := (Heap.get?_update_other _ _ (Ne.symm ne)).trans ge
   rw [Heap.get?_update_self _ ge' z1] at q
   cases q; exact g1
  ·rw [Heap.get?_update_other _ _ (Ne.symm b1)] at q
   by_cases b2 : b = it
   ·subst b2
    rw [Heap.get?_update_self _ gi z2] at q
    cases q; exact g2
   ·rw [Heap.get?_update_other _ _ (Ne.symm b2)] at q
    exact k b o b1 b2 q
theorem yZ {P : Program} {w : World} {K : PySem.W.Frag} {elts : List Expr} {cx : _} {pos : Pos} (a e it : Addr) (ne : e ≠ it) :
 wH P w K (.Tuple elts cx pos) (Ite K a) [e, it] e (fun i h => ∃ old, IsEnum h e it (i : Nat) old /\ h.IsListIter it a i) where
 mem := by simp
 obj := fun i h st b hb => by
  obtain ⟨old, h1, o, h2, c, d⟩ := st
  rcases List.mem_cons.mp hb with rfl | hb
  ·exact ⟨_, h1, fun v z => by
    have z' : Data.fields _ = Data.cell v := z
    cases z'⟩
  ·have z := List.mem_singleton.mp hb
   subst z
   exact ⟨o, h2, fun v z => by rw [d] at z; cases z⟩
 keep := fun i h h' st k => by
  obtain ⟨old, h1, h2⟩ := st
  exact ⟨old, k e (by simp) _ h1, h2.at fun o q => k it (by simp) o q⟩
 item := by
  intro X hP hw hK hc i pins s σ H E I hf st hg
  subst hP hw hK
  obtain ⟨xs, x, hq, hx⟩ := hg
  obtain ⟨its, rv, p, hz⟩ := I.list hq
  obtain ⟨u, hu, ru⟩ := rv.get hx
  have fe := hf e (by simp)
  have fi := hf it (by simp)
  obtain ⟨old, h1, h2⟩ := st
  obtain ⟨oi, gi, ci, di⟩ := id h2
  refine wpAny_pyNext_enum_item h1 h2 p.isList (x := u) (by simpa using hu) ne fun h' e1 i1 t1 z1 k1 => ?_
  obtain ⟨oi', gi', ci', di'⟩ := id i1
  obtain ⟨h3, z3, I3, k3⟩ := I.turned2 (t' := s.toks + 1) (h' := h') h1 gi ne ⟨_, e1, rfl⟩ ⟨_, gi', Obj.isFreed_of_fields di'⟩ k1 fe fi
  have hn := I.hok.fresh (Nat.le_refl s.heap.objs.size)
  have I4 : Inv X pins σ (upd H s.heap.objs.size (.tup [.int i, x])) { s with heap := h', toks := s.toks + 1 } :=
   I3.laid (t' := s.toks + 1) k3 (Nat.le_of_eq z3) (show ObjOk X.prog X.w _ h' _ (.tup [.int i, x]) from ⟨by show 2 <= sizeLine; rw [sizeLine_eq]; decide, [.int i s.toks, u], .cons ⟨_, rfl⟩ (.cons ru .nil), ⟨_, t1, rfl, 0, rfl⟩⟩)
  have le : e < s.heap.objs.size := Heap.lt_size h1
  have li : it < s.heap.objs.size := Heap.lt_size gi
  have nH : ∀ b, b < s.heap.objs.size -> upd H s.heap.objs.size (.tup [.int i, x]) b = H b := fun b l => aj (Nat.ne_of_lt l)
  refine ⟨_, rfl, wpAny_letOwnedTupleGo_enum (s := { s with heap := h', toks := s.toks + 1 }) e1 fun h5 e5 s5 => ?_⟩
  have I5 : Inv X pins σ (upd H s.heap.objs.size (.tup [.int i, x])) { s with heap := h5, toks := s.toks + 1 } :=
   I4.turned (t' := s.toks + 1) (fun b o hb q => (s5.2 b hb).trans q) ((nH e le).trans fe.1) fe.2.1 fe.2.2.2.1 fe.2.2.2.2.1 fe.2.2.2.2.2
  refine ⟨.ref s.heap.objs.size, _, I5, rfl, ⟨_, x, hn, rfl, rfl, fun ys hy => by rw [I.list_inj hy hq]; exact hx⟩, ⟨u, e5, i1.at fun o q => (s5.2 it (Ne.symm ne)).trans q⟩, fun b hb => ?_⟩
  rcases List.mem_cons.mp hb with rfl | hb
  ·exact (nH _ le).trans fe.1
  ·rw [List.mem_singleton.mp hb]; exact (nH _ li).trans fi.1
 done := by
  intro X hP hw hK hc i pins s σ H E I hf st hg
  subst hP hw hK
  obtain ⟨xs, hq, hx⟩ := hg
  obtain ⟨its, rv, p, hz⟩ := I.list hq
  have fi := hf it (by simp)
  have hl := rv.length
  obtain ⟨old, h1, h2⟩ := st
  exact wpAny_pyNext_enum_end (I.ok.hd hc) h1 h2 p.isList (by simp; omega) fun h' eb => ⟨rfl, I.turned (t' := s.toks) (fun b o hb q => eb b o hb q) fi.1 fi.2.1 fi.2.2.2.1 fi.2.2.2.2.1 fi.2.2.2.2.2⟩
 self := fun _ _ _ _ _ ⟨_, st, _⟩ h => wpAny_pyIter_enum st h
def DD (K : PySem.W.Frag) (ta : TA) : TI := fun σ H R => ta σ H fun vs H1 => ∃ a, vs = [.ref a] /\ (∃ xs, SqL K H1 a xs) /\ R (Ite K a) H1
theorem CN {arg : Expr} {ta : TA} {p pos : Pos} {elts : List Expr} {cx : _} {tp : Pos} (K : PySem.W.Frag) (hg : Gl X "enumerate") (hm : X.mg "enumerate" = none) (ha : PA X [arg] ta) (hs : starEach [arg] X.env = [(false, eval arg X.env)] := by rfl) (hK : X.K = K := by rfl) :
 PI X (.Tuple elts cx tp) (.Call (.Name "enumerate" p) [arg] [] pos) (DD K ta) := by
 subst hK
 intro pins s σ H R I h
 refine Call_ (mQ I hg hm PyProof.Rows.boot_enumerate (PyProof.Rows.callWith_type1 (thn (ha pos pins s σ H _ I h) fun us s1 ⟨vs, H1, I1, r1, q1⟩ => ?_) hs rfl))
 obtain ⟨a, e, ⟨xs, hq⟩, q⟩ := q1
 subst e
 obtain ⟨u, rfl, ru⟩ := gs r1
 cases (show u = Value.ref a from ru)
 obtain ⟨its, rv, pl, hz⟩ := I1.list hq
 refine call_enumerate_list pl.isList fun h' e1 i1 z1 k1 => wpAny_pyIter_enum (s := { s1 with heap := h' }) e1 ?_
 refine ⟨_, [s1.heap.objs.size + 1, s1.heap.objs.size], _, _, H1, rfl, I1.kept (t' := s1.toks) k1, yZ a _ _ (Nat.succ_ne_self _), ⟨_, e1, i1⟩, fun b hb => ?_, q⟩
 rcases List.mem_cons.mp hb with rfl | hb
 ·exact I1.fpOk (Nat.le_succ _) (I1.hok.fresh (Nat.le_succ _))
 ·rw [List.mem_singleton.mp hb]; exact I1.fpOk (Nat.le_refl _) (I1.hok.fresh (Nat.le_refl _))
end
end L2
namespace L2
open PySem PyProof.Rows
section
variable {X : Cx} {pins : List (Addr × Obj)} {σ : St} {H : Hp} {s : Shared}
abbrev InO (ls : List (List Nat)) : Prop := ls.Pairwise fun a b => ¬ b < a
def Eo (K : PySem.W.Frag) : List V -> Hp -> VK -> Prop
 | [.ref p], H, Q => ∃ ls : List (List Nat), SqL K H p (ls.map T) /\ ls.length < 64 /\ ∀ out : List (List Nat), out.Perm ls -> InO out -> ∀ l, H l = none -> Q (.ref l) (upd H l (.lst (out.map T)))
 | _, _, _ => False
def EF (K : PySem.W.Frag) : List V -> Hp -> VK -> Prop
 | [.ref p], H, Q => ∃ bs : List Bool, SqL K H p (bs.map V.bl) /\ Q (.bl (bs.any id)) H
 | _, _, _ => False
theorem Ck (K : PySem.W.Frag) (hc : X.calm = true) (hK : X.K = K := by rfl) : CallR X (.builtin "any") (EF K) := by
 subst hK
 intro pins s σ H xs us Q I r h
 unfold EF at h
 split at h
 ·rename_i p
  obtain ⟨bs, hq, q⟩ := h
  obtain ⟨u, rfl, rx⟩ := gs r
  cases (show u = Value.ref p from rx)
  obtain ⟨its, rv, pl, hz⟩ := I.list hq
  have hne : p ≠ s.heap.objs.size := Nat.ne_of_lt (by obtain ⟨_, e, _⟩ := pl.isList; exact Heap.lt_size e)
  have hb : LSm.BoolsAre its bs := pO rv
  refine call_any_walk (wpAny_pyIter_list pl.isList ?_)
  refine ⟨s.heap.objs.size, [s.heap.objs.size, p], [s.heap.objs.size], its.toArray.size, _, _, fun i => (bs[i]?).getD false, rfl, Walks.list (A := X.A.in1) (I.ok.hd hc) _ p hne its.toArray,
   ⟨⟨_, Heap.get?_push_size _ rfl, rfl, rfl⟩, pl.isList.push _⟩, fun i v s' Q' E' hP hQ => ?_, fun h' tk hk => ?_⟩
  ·obtain ⟨b, e, rfl⟩ := hb.get i v (by simpa using hP)
   simp only [e, Option.getD_some] at hQ
   exact wpAny_truthy_bool hQ
  ·have e : ((List.range its.toArray.size).any fun i => (bs[i]?).getD false) = bs.any id := by
    rw [List.size_toArray, hb.length]; exact LSm.range_any bs
   rw [e]
   exact ⟨.bl (bs.any id), H, I.kept (LSm.kept_iter hk), rfl, q⟩
 ·exact h.elim
end
section
variable {X : Cx} {tg : Expr}
end
open Lean Meta Simp
def Di : List Name := EZ ++ [`L2.FP, `L2.tDNotIn, `L2.DO, `L2.tTryN]
def CB : List Name := Ei ++ [`L2.Eo, `L2.gSortD, `L2.gListD, `L2.EF, `L2.BC, `L2.EX]
end L2
namespace L2
open PySem PyProof.Rows
section
variable {X : Cx} {pins : List (Addr × Obj)} {σ : St} {H : Hp} {s : Shared}
end
namespace Srt
def GM (h : Heap) (p : Addr) (x y z : Int) : Prop := ∃ (o : Obj) (t u r : Tok) (n : Nat), h.get? p = some o /\ o.cls = .type "tuple" /\ o.data = .seq #[.int x t, .int y u, .int z r] n
section
variable {prog : Program} {w : World} {A : Around} {E : Value -> Shared -> Prop} {s : Shared}
end
end Srt
section
variable {X : Cx} {pins : List (Addr × Obj)} {σ : St} {H : Hp} {s : Shared}
end
end L2
namespace L2
namespace Rv
open PySem PyProof.Rows
section
variable {prog : Program} {w : World} {A : Around} {E : Value -> Shared -> Prop} {s : Shared}
end
end Rv
open PySem PyProof.Rows
section
variable {X : Cx} {pins : List (Addr × Obj)} {σ : St} {H : Hp} {s : Shared}
end
end L2
namespace L2
open PySem PyProof.Rows
def FE (J : It) (g : TG) (tb : TS) (D : cv) (σ : St) (H : Hp) : Prop := ∃ W : Nat -> Nat -> St -> Hp -> Prop, (∃ m, W 0 m σ H) /\ ∀ i m σ H, W i m σ H ->
 (J.stop i H /\ D.nx σ H) \/ (J.go i H /\ ∃ N : St -> Hp -> Prop, (∀ σ' H', N σ' H' -> ∃ m', m' < m /\ W (i + 1) m' σ' H') /\ ∀ x H', J.yld i H x H' -> g x σ H' fun σ2 H2 => tb { D with nx := N, ct := N, bk := D.nx } σ2 H2)
theorem Ch {K : PySem.W.Frag} {ta : TA} {g : TG} {tb : TS} {D : cv} {σ : St} {H : Hp} (h : ta σ H fun vs H1 => ∃ a, vs = [.ref a] /\ (∃ xs, SqL K H1 a xs) /\ FE (Ite K a) g tb D σ H1) : qK (DD K ta) g tb D σ H := h
theorem CP {K : PySem.W.Frag} {a : Addr} {xs : List V} {g : TG} {tb : TS} {D : cv} {σ : St} {H : Hp} (Pv : Nat -> St -> Hp -> Prop) (h0 : Pv 0 σ H) (hl : ∀ i σ H, i <= xs.length -> Pv i σ H -> SqL K H a xs)
 (hs : ∀ i x σ H p, xs[i]? = some x -> H p = none -> Pv i σ H -> g (.ref p) σ (upd H p (.tup [.int i, x])) fun σ2 H2 => tb { D with nx := Pv (i + 1), ct := Pv (i + 1), bk := D.nx } σ2 H2) (hd : ∀ σ H, Pv xs.length σ H -> D.nx σ H) : FE (Ite K a) g tb D σ H := by
 refine ⟨fun i m σ H => m = xs.length - i /\ i <= xs.length /\ Pv i σ H, ⟨_, rfl, Nat.zero_le _, h0⟩, ?_⟩
 rintro i m σ H ⟨rfl, hi, p⟩
 have q := hl i σ H hi p
 rcases Nat.lt_or_ge i xs.length with lt | ge
 ·refine .inr ⟨⟨xs, xs[i], q, by simp [lt]⟩, Pv (i + 1), fun σ' H' p' => ⟨_, by omega, rfl, lt, p'⟩, ?_⟩
  rintro x H' ⟨r, y, hr, rfl, rfl, hy⟩
  exact hs i y σ H r (hy xs q) hr p
 ·obtain rfl : i = xs.length := Nat.le_antisymm hi ge
  exact .inl ⟨⟨xs, q, Nat.le_refl _⟩, hd σ H p⟩
theorem jN {J : It} {H1 : Hp} {D : Addr} {Q : VK} {σr : St} {tt : TT} {te : TE} (h : ∃ W : Nat -> Nat -> List V -> Hp -> Prop, (∃ m, W 0 m [] (upd H1 D (.lst []))) /\
 ∀ i m ys H2, W i m ys H2 -> H2 D = some (.lst ys) /\ ((J.stop i H2 /\ Q (.ref D) H2) \/ (J.go i H2 /\ ∀ x H3, J.yld i H2 x H3 ->
  tt (some x :: σr) H3 fun b H4 => if b = true then te (some x :: σr) H4 fun y H5 => H5 D = some (.lst ys) /\ ys.length < sizeLine /\ ∃ m', m' < m /\ W (i + 1) m' (ys ++ [y]) (upd H5 D (.lst (ys ++ [y])))
   else ∃ m', m' < m /\ W (i + 1) m' ys H4))) :
 ∃ W : Nat -> Nat -> List V -> Hp -> Prop, (∃ m, W 0 m [] (upd H1 D (.lst []))) /\
  ∀ i m ys H2, W i m ys H2 -> H2 D = some (.lst ys) /\ ((J.stop i H2 /\ Q (.ref D) H2) \/ (J.go i H2 /\ ∀ x H3, J.yld i H2 x H3 -> ∀ zs : St, zs.length = 1 ->
   iP 0 x (zs ++ σr) H3 fun σ4 H4 => (∃ zs4 : St, zs4.length = 1 /\ σ4 = zs4 ++ σr) /\
    tt σ4 H4 fun b H5 => if b = true then te σ4 H5 fun y H6 => H6 D = some (.lst ys) /\ ys.length < sizeLine /\ ∃ m', m' < m /\ W (i + 1) m' (ys ++ [y]) (upd H6 D (.lst (ys ++ [y])))
     else ∃ m', m' < m /\ W (i + 1) m' ys H5)) := by
 obtain ⟨W, h0, h⟩ := h
 refine ⟨W, h0, fun i m ys H2 w => ?_⟩
 obtain ⟨h1, h2⟩ := h i m ys H2 w
 refine ⟨h1, h2.imp id fun ⟨g1, g2⟩ => ⟨g1, fun x H3 y zs hz => ?_⟩⟩
 obtain ⟨z, rfl⟩ := ex1 hz
 exact ⟨⟨[some x], rfl, rfl⟩, g2 x H3 y⟩
theorem cmS {tl : TE} {ks : List Nat} {σ : St} {H : Hp} {Q : VK} {tt : TT} {te : TE} (C : Hp -> Prop) (hC : ∀ D ys, H D = none -> C (upd H D (.lst ys))) (l : List Nat) (p : Nat -> Bool) (f : Nat -> V) (hl : ∀ R : VK, R (T l) H -> tl σ H R) (ha : ∀ c ∈ l, c < 128) (hz : l.length <= sizeLine)
 (hp : ∀ c ∈ l, ∀ H (R : Bool -> Hp -> Prop), C H -> R (p c) H -> tt (some (T [c]) :: ks.map fun k => (σ[k]?).join) H R) (hf : ∀ c ∈ l, p c = true -> ∀ H (R : VK), C H -> R (f c) H -> te (some (T [c]) :: ks.map fun k => (σ[k]?).join) H R)
 (q : ∀ D, H D = none -> Q (.ref D) (upd H D (.lst ((l.filter p).map f)))) : gK (FH tl) 1 (iP 0) ks tt te σ H Q := by
 refine hl _ ⟨by simpa [cs] using ha, fun D hD => ?_⟩
 have P : ∀ x ∈ l.map fun c => T [c], ∃ c ∈ l, x = T [c] := fun x hx => by
  obtain ⟨c, hc, rfl⟩ := List.mem_map.mp hx; exact ⟨c, hc, rfl⟩
 let hd : V -> Nat := fun v => match v with | .str y => (cs y).headD 0 | _ => 0
 have hhd : ∀ c, hd (T [c]) = c := fun c => rfl
 refine jN (rD (Bs l) C (fun v => p (hd v)) (fun v => f (hd v)) (by simpa using hz) (fun x hx H R c r => ?_) (fun x hx hb H R c r => ?_) D hD (fun ys => hC D ys hD) ?_)
 ·obtain ⟨y, hy, rfl⟩ := P x hx
  exact hp y hy H R c r
 ·obtain ⟨y, hy, rfl⟩ := P x hx
  exact hf y hy hb H R c r
 ·have e : ((l.map fun c => T [c]).filter fun v => p (hd v)).map (fun v => f (hd v)) = (l.filter p).map f := by
   rw [List.filter_map, List.map_map]
   rfl
  rw [e]; exact q D hD
theorem cmT {K : PySem.W.Frag} {tl : TE} {ks : List Nat} {σ : St} {H H1 : Hp} {Q : VK} {tt : TT} {te : TE} (a : Addr) (vs : List V) (C : Hp -> Prop) (hC : ∀ D ys, H1 D = none -> C (upd H1 D (.lst ys))) (hT : ∀ H, C H -> SqT K H a vs) (p : V -> Bool) (f : V -> V)
 (hl : ∀ R : VK, R (.ref a) H1 -> tl σ H R) (h1 : SqT K H1 a vs) (hz : vs.length <= sizeLine)
 (hp : ∀ x ∈ vs, ∀ H (R : Bool -> Hp -> Prop), C H -> R (p x) H -> tt (some x :: ks.map fun k => (σ[k]?).join) H R) (hf : ∀ x ∈ vs, p x = true -> ∀ H (R : VK), C H -> R (f x) H -> te (some x :: ks.map fun k => (σ[k]?).join) H R)
 (q : ∀ D, H1 D = none -> Q (.ref D) (upd H1 D (.lst ((vs.filter p).map f)))) : gK (zc K tl) 1 (iP 0) ks tt te σ H Q :=
 hl _ ⟨a, rfl, ⟨vs, h1⟩, fun D hD => jN (pZ C (Bt hT) p f hz hp hf D hD (fun ys => hC D ys hD) (q D hD))⟩
theorem cmL {K : PySem.W.Frag} {tl : TE} {ks : List Nat} {σ : St} {H H1 : Hp} {Q : VK} {tt : TT} {te : TE} (a : Addr) (vs : List V) (C : Hp -> Prop) (hC : ∀ D ys, H1 D = none -> C (upd H1 D (.lst ys))) (hT : ∀ H, C H -> SqL K H a vs) (p : V -> Bool) (f : V -> V)
 (hl : ∀ R : VK, R (.ref a) H1 -> tl σ H R) (h1 : SqL K H1 a vs) (hz : vs.length <= sizeLine)
 (hp : ∀ x ∈ vs, ∀ H (R : Bool -> Hp -> Prop), C H -> R (p x) H -> tt (some x :: ks.map fun k => (σ[k]?).join) H R) (hf : ∀ x ∈ vs, p x = true -> ∀ H (R : VK), C H -> R (f x) H -> te (some x :: ks.map fun k => (σ[k]?).join) H R)
 (q : ∀ D, H1 D = none -> Q (.ref D) (upd H1 D (.lst ((vs.filter p).map f)))) : gK (qD K tl) 1 (iP 0) ks tt te σ H Q :=
 hl _ ⟨a, rfl, ⟨vs, h1⟩, fun D hD => jN (pZ C (A9 hT) p f hz hp hf D hD (fun ys => hC D ys hD) (q D hD))⟩
theorem GD {ta : TA} {ks : List Nat} {σ : St} {H : Hp} {Q : VK} {tt : TT} {te : TE} (C : Hp -> Prop) (hC : ∀ D ys, H D = none -> C (upd H D (.lst ys))) (lo hi : Int) (n : Nat) (hn : (hi - lo).toNat = n) (p : V -> Bool) (f : V -> V) (hl : ∀ R : List V -> Hp -> Prop, R [.int lo, .int hi] H -> ta σ H R) (hb : -(2 ^ 62) <= lo /\ lo < 2 ^ 62 /\ -(2 ^ 62) <= hi /\ hi < 2 ^ 62) (hz : n <= sizeLine)
 (hp : ∀ k : Nat, k < n -> ∀ H (R : Bool -> Hp -> Prop), C H -> R (p (.int (lo + k))) H -> tt (some (.int (lo + k)) :: ks.map fun k => (σ[k]?).join) H R) (hf : ∀ k : Nat, k < n -> p (.int (lo + k)) = true -> ∀ H (R : VK), C H -> R (f (.int (lo + k))) H -> te (some (.int (lo + k)) :: ks.map fun k => (σ[k]?).join) H R)
 (q : ∀ D, H D = none -> Q (.ref D) (upd H D (.lst ((((List.range n).map fun k : Nat => V.int (lo + k)).filter p).map f)))) : gK (Dw ta) 1 (iP 0) ks tt te σ H Q := by
 refine hl _ ⟨lo, hi, rfl, hb, ?_⟩
 rw [hn]
 intro D hD
 have P : ∀ x ∈ (List.range n).map fun k : Nat => V.int (lo + k), ∃ k : Nat, k < n /\ x = .int (lo + k) := fun x hx => by
  obtain ⟨c, hc, rfl⟩ := List.mem_map.mp hx; exact ⟨c, by simpa using hc, rfl⟩
 refine jN (rD (ze lo n) C p f (by simpa using hz) (fun x hx H R c' r => ?_) (fun x hx hb H R c' r => ?_) D hD (fun ys => hC D ys hD) (q D hD))
 ·obtain ⟨c, hc, rfl⟩ := P x hx
  exact hp c hc H R c' r
 ·obtain ⟨c, hc, rfl⟩ := P x hx
  exact hf c hc hb H R c' r
inductive A2 {α β : Type} (R : α -> β -> Prop) : List α -> List β -> Prop
 | nil : A2 R [] []
 | cons {a : α} {b : β} {as : List α} {bs : List β} : R a b -> A2 R as bs -> A2 R (a :: as) (b :: bs)
namespace A2
variable {α β : Type} {R S : α -> β -> Prop}
theorem len {as : List α} {bs : List β} (h : A2 R as bs) : as.length = bs.length := by
 induction h with
 | nil => rfl
 | cons _ _ ih => simp [ih]
theorem imp {as : List α} {bs : List β} (h : A2 R as bs) (f : ∀ a b, a ∈ as -> b ∈ bs -> R a b -> S a b) : A2 S as bs := by
 induction h with
 | nil => exact .nil
 | cons r _ ih => exact .cons (f _ _ (.head _) (.head _) r) (ih fun a b ha hb => f a b (.tail _ ha) (.tail _ hb))
theorem at_ {as : List α} {bs : List β} (h : A2 R as bs) : ∀ {i : Nat} {a : α}, as[i]? = some a -> ∃ b, bs[i]? = some b /\ R a b := by
 induction h with
 | nil => intro i a e; simp at e
 | cons r _ ih =>
  intro i a e
  cases i with
  | zero => cases e; exact ⟨_, rfl, r⟩
  | succ i => exact ih (i := i) (by simpa using e)
theorem app {as : List α} {bs : List β} (h : A2 R as bs) {cs : List α} {ds : List β} (g : A2 R cs ds) : A2 R (as ++ cs) (bs ++ ds) := by
 induction h with
 | nil => exact g
 | cons r _ ih => exact .cons r ih
theorem snoc {as : List α} {bs : List β} {a : α} {b : β} (h : A2 R as bs) (r : R a b) : A2 R (as ++ [a]) (bs ++ [b]) := h.app (.cons r .nil)
end A2
def sp6 (f : V -> V -> V -> V -> V -> V -> Hp -> VK -> XK -> Prop) : Sp := fun vs H Q E => match vs with
 | [x, y, z, u, v, a] => f x y z u v a H Q E
 | _ => False
def sp7 (f : V -> V -> V -> V -> V -> V -> V -> Hp -> VK -> XK -> Prop) : Sp := fun vs H Q E => match vs with
 | [x, y, z, u, v, a, b] => f x y z u v a b H Q E
 | _ => False
open Lean Meta Simp
def CC : List Name := Di ++ [`L2.iQ, `Option.join]
def B9 : List Name := CB ++ [`L2.gCnt, `L2.gSortT, `L2.sp5, `L2.sp6, `L2.sp7]
def Ev : Name -> Bool
 | .str _ s => s.startsWith "sp_"
 | _ => false
end L2
namespace L2
open PySem PyProof.Rows Builtin Builtin.Str
section
variable {X : Cx}
end
end L2
namespace L2
open PySem PyProof.Rows
section
variable {prog : Program} {w : World} {A : Around} {E : Value -> Shared -> Prop} {s : Shared} {it d : Addr} {i ep : Nat} {od : Obj} {es : Array DictEntry}
theorem yJ {Q : Value -> Shared -> Prop} (lo : (d == sysModules) = false) (ho : s.heap.get? d = some od) (ex : od.ExactDict) (hd : od.data = .dict es ep)
 (q : Q (.ref s.heap.objs.size) { s with heap := s.heap.push { cls := .type "dict_keyiterator", data := .fields #[.ref d, .int 0 0, .int es.size 0, .int ep 0] } }) : wpAny (model prog w) A (pyIter (.ref d)) Q E s := by
 have ty : s.TypeIs (.ref d) "dict" := ⟨od, ho, ex.1⟩
 refine wpAny_pyIter_slot ty F.slot_dict_iter (wpAny_call_entry F.slot_dict_iter ty F.entry_dict_iter ?_ (F.args_dict_iter_1 _))
 unfold Builtin.«dict.__iter__» Builtin.Dict.dictSlotNone
 refine wpAny_bind (wpAny_bind (wpAny_notOrdered_dict ty ?_)); show wpAny _ _ (pure (Value.ref d)) _ _ s
 refine wpAny_pure ?_; show wpAny _ _ (Builtin.Dict.showsAll d >>= _) _ _ s
 unfold Builtin.Dict.showsAll; rw [if_neg (by rw [lo]; exact Bool.false_ne_true)]
 refine wpAny_bind (wpAny_pure (wpAny_bind (wpAny_dictEntries ho hd (wpAny_bind (wpAny_dictEpoch ho hd ?_)))))
 refine wpAny_bind (wpAny_newObj_type (wpAny_pure ⟨_, rfl, "dict_keyiterator", _, ⟨_, Heap.get?_push_size _ rfl, rfl⟩, F.slot_dict_keyiterator_next.lookup, by simpa [rawInt] using q⟩))
theorem yD {e : DictEntry} {Q : Option Value -> Shared -> Prop} (hi : s.heap.IsKeyIter it d i es.size ep) (hod : s.heap.get? d = some od) (hdd : od.data = .dict es ep) (hx : es[i]? = some e)
 (q : ∀ h', h'.IsKeyIter it d (i + 1) es.size ep -> Heap.SameBut it s.heap h' -> Q (some e.key) { s with heap := h' }) : wpAny (model prog w) A (pyNext (.ref it)) Q E s := by
 obtain ⟨o, ho, hc, hd⟩ := id hi
 have ty := hi.typeIs
 unfold pyNext
 refine wpAny_bind (wpAny_attempt (wpAny_callSpecial?_slot (name := Str.ofString "__next__") ty F.slot_dict_keyiterator_next (wpAny_call_entry F.slot_dict_keyiterator_next ty F.entry_dict_keyiterator_next ?_ (F.args_dict_keyiterator_next_1 _))))
 refine wpAny_bind (wpAny_pure (wpAny_bind (wpAny_bind ?_)))
 first | refine wpAny_bind (wpAny_typeNameOfWhole_keyiter ty (wpAny_pure (wpAny_bind (wpAny_fieldsOf ho hd ?_)))) | refine wpAny_bind (wpAny_typeNameOf_keyiter ty (wpAny_pure (wpAny_bind (wpAny_fieldsOf ho hd ?_))))
 simp only [show Builtin.Dict_items.ownsTuple "dict_keyiterator" = false by decide, Bool.false_eq_true, if_false]
 show wpAny _ _ (if (Value.ref d == Value.none) = true then _ else _) _ _ s; rw [if_neg (show ¬ ((Value.ref d == Value.none) = true) from Bool.false_ne_true)]
 refine wpAny_bind (wpAny_pure (wpAny_bind (wpAny_dictEntries hod hdd ?_))); rw [if_neg (by simp)]
 refine wpAny_bind (wpAny_pure (wpAny_bind (wpAny_dictEpoch hod hdd ?_))); rw [if_neg (by simp)]
 refine wpAny_pure ?_
 have lt : i < es.size := (Array.getElem?_eq_some_iff.mp hx).1
 have ee : es[i] = e := (Array.getElem?_eq_some_iff.mp hx).2
 simp only [show ¬ ((i : Int) < 0) from by omega, if_false, Int.toNat_natCast, Array.getElem?_eq_getElem lt]; refine wpAny_bind ?_
 first | refine wpAny_bind (wpAny_typeNameOfWhole_keyiter ty (wpAny_pure (wpAny_bind (wpAny_isOneOf_keyiter ty ?_)))) | refine wpAny_bind (wpAny_typeNameOf_keyiter ty (wpAny_pure (wpAny_bind (wpAny_isOneOf_keyiter ty ?_))))
 show wpAny _ _ (setField (.ref it) 1 (rawInt ((i : Int) + 1)) >>= _) _ _ s; refine wpAny_bind (wpAny_setField ho hd (by simp) ?_)
 have hi' : (s.heap.update it (Obj.mapFields (·.setIfInBounds 1 (rawInt ((i : Int) + 1))))).IsKeyIter it d (i + 1) es.size ep := ⟨_, Heap.get?_update_self _ ho (Obj.isFreed_of_fields (Obj.data_mapFields hd _)), (Obj.cls_mapFields ..).trans hc, by rw [Obj.data_mapFields hd]; simp [rawInt]⟩
 refine wpAny_bind (wpAny_holding (wpAny_bind (wpAny_isOneOf_keyiter (s := { s with heap := s.heap.update it (Obj.mapFields (·.setIfInBounds 1 (rawInt ((i : Int) + 1)))) }) hi'.typeIs ?_)))
 show wpAny _ _ (pure es[i].key) _ _ _; rw [ee]
 exact wpAny_pure (wpAny_pure ⟨_, rfl, wpAny_pure (q _ hi' (Heap.SameBut.update ..))⟩)
theorem zR {Q : Option Value -> Shared -> Prop} (hh : A.handled = none) (hi : s.heap.IsKeyIter it d i es.size ep) (hod : s.heap.get? d = some od) (hdd : od.data = .dict es ep) (hx : es.size <= i)
 (q : ∀ h', Heap.ExtBut it s.heap h' -> Q none { s with heap := h' }) : wpAny (model prog w) A (pyNext (.ref it)) Q E s := by
 obtain ⟨o, ho, hc, hd⟩ := id hi
 have ty := hi.typeIs
 unfold pyNext
 refine wpAny_bind (wpAny_attempt (wpAny_callSpecial?_slot (name := Str.ofString "__next__") ty F.slot_dict_keyiterator_next (wpAny_call_entry F.slot_dict_keyiterator_next ty F.entry_dict_keyiterator_next ?_ (F.args_dict_keyiterator_next_1 _))))
 refine wpAny_bind (wpAny_pure (wpAny_bind (wpAny_bind ?_)))
 first | refine wpAny_bind (wpAny_typeNameOfWhole_keyiter ty (wpAny_pure (wpAny_bind (wpAny_fieldsOf ho hd ?_)))) | refine wpAny_bind (wpAny_typeNameOf_keyiter ty (wpAny_pure (wpAny_bind (wpAny_fieldsOf ho hd ?_))))
 simp only [show Builtin.Dict_items.ownsTuple "dict_keyiterator" = false by decide, Bool.false_eq_true, if_false]
 show wpAny _ _ (if (Value.ref d == Value.none) = true then _ else _) _ _ s; rw [if_neg (show ¬ ((Value.ref d == Value.none) = true) from Bool.false_ne_true)]
 refine wpAny_bind (wpAny_pure (wpAny_bind (wpAny_dictEntries hod hdd ?_))); rw [if_neg (by simp)]
 refine wpAny_bind (wpAny_pure (wpAny_bind (wpAny_dictEpoch hod hdd ?_))); rw [if_neg (by simp)]
 refine wpAny_pure ?_
 simp only [show ¬ ((i : Int) < 0) from by omega, if_false, Int.toNat_natCast, Array.getElem?_eq_none hx]; refine wpAny_bind ?_
 first | refine wpAny_bind (wpAny_typeNameOfWhole_keyiter ty (wpAny_pure ?_)) | refine wpAny_bind (wpAny_typeNameOf_keyiter ty (wpAny_pure ?_))
 show wpAny _ _ (setField (.ref it) 0 .none >>= _) _ _ s; refine wpAny_bind (wpAny_setField ho hd (by simp) ?_)
 show wpAny _ _ (newExc (.type "StopIteration") [] >>= _) _ _ _; refine wpAny_bind ?_
 simp only [newExc, newTuple]; refine wpAny_bind (wpAny_newObj_type ?_ (by size_fits))
 refine wpAny_bind (m := firstArgMember _ _) (wpAny_of_eq (a := Value.none) (by first | rfl | (simp only [firstArgMember]; rfl)) (wpAny_newObj_type ?_ (by size_fits)))
 simp only [raiseNew]; refine wpAny_bind (wpAny_handled ?_)
 rw [show A.in1.handled = none from hh]; refine wpAny_bind (wpAny_pure (wpAny_throw ?_))
 refine wpAny_bind (wpAny_isInstance (T := "StopIteration") (b := true) ⟨_, Heap.get?_push_size _ rfl, rfl⟩ isSubtype_stop (wpAny_pure (q _ (((Heap.SameBut.update ..).extBut.push _).push _))))
theorem zQ (hh : A.handled = none) (I d : Addr) (ne : d ≠ I) (od : Obj) (es : Array DictEntry) (ep : Nat) (hdd : od.data = .dict es ep) :
 Walks prog w A I [I, d] [I] es.size (fun i v => ∃ e, es[i]? = some e /\ v = e.key) (fun i h => h.IsKeyIter I d i es.size ep /\ h.get? d = some od) where
 sub := fun b hb => by rw [List.mem_singleton.mp hb]; exact .head _
 frame := fun _ _ _ st hk => ⟨st.1.at fun o e => hk I (.head _) o e, hk d (.tail _ (.head _)) _ st.2⟩
 item := fun i s Q E hi st q => by
  have hx : es[i]? = some es[i] := by simp [hi]
  exact yD st.1 st.2 hdd hx fun h' a b => q _ h' s.toks ⟨_, hx, rfl⟩ ⟨a, (b.2 d ne).trans st.2⟩ fun c o hc z => (b.2 c fun y => hc (by rw [y]; exact .head _)).trans z
 done := fun s Q E st q => zR hh st.1 st.2 hdd (Nat.le_refl _) fun h' b => q h' s.toks fun c o hc z => b c o (fun y => hc (by rw [y]; exact .head _)) z
 self := fun _ _ _ _ st q => wpAny_pyIter_keyiter st.1 q
theorem DZ (lo : (d == sysModules) = false) (ex : od.ExactDict) (hd : od.data = .dict es ep) : PySem.W.KdlSrc prog w "dict" d d es.size (fun i v => ∃ e, es[i]? = some e /\ v = e.key) (fun h => h.get? d = some od) where
 type := fun _ h => ⟨od, h, ex.1⟩
 there := fun _ h => ⟨Heap.lt_size h, Heap.lt_size h⟩
 keep := fun _ _ h k => k d (.inl rfl) _ h
 notList := by decide
 notTuple := by decide
 hint := fun _ _ _ _ h q => PySem.W.kdl_hint_dict ⟨od, h, ex.1⟩ q
 iter := fun _ _ hh h => ⟨_, _, (fun _ _ q => yJ lo h ex hd q), zQ hh _ d (Nat.ne_of_lt (Heap.lt_size h)) od es ep hd, ⟨⟨_, Heap.get?_push_size _ rfl, rfl, rfl⟩, Heap.get?_push_of_some _ h⟩⟩
end
theorem Bb {α : Type} {p q : α -> Bool} (h : ∀ e, p e = true -> q e = true) : ∀ {l : List α} {u : α}, u ∈ l -> q u = true -> p u = false -> l.countP p < l.countP q
 | x :: r, u, m, hq, hp => by
  rw [List.countP_cons, List.countP_cons]
  have le : r.countP p <= r.countP q := List.countP_mono_left fun e _ => h e
  rcases List.mem_cons.mp m with rfl | m
  ·rw [if_pos hq, if_neg (by rw [hp]; decide)]; omega
  ·have := Bb h m hq hp
   by_cases c : p x = true
   ·rw [if_pos c, if_pos (h x c)]; omega
   ·rw [if_neg c]; split <;> omega
abbrev Pt := List Nat × List Nat
def ltP (a b : Pt) : Prop := a.1 < b.1 \/ (a.1 = b.1 /\ a.2 < b.2)
instance (a b : Pt) : Decidable (ltP a b) := by unfold ltP; infer_instance
theorem wN (a : Pt) : ¬ ltP a a := fun h => h.elim (List.lt_irrefl _) fun h => List.lt_irrefl _ h.2
theorem AD {a b c : Pt} (h : ltP a b) (g : ltP b c) : ltP a c := by
 unfold ltP at *
 rcases h with h | ⟨h1, h2⟩
 ·rcases g with g | ⟨g1, g2⟩
  ·exact .inl (List.lt_trans h g)
  ·exact .inl (g1 ▸ h)
 ·rcases g with g | ⟨g1, g2⟩
  ·exact .inl (h1 ▸ g)
  ·exact .inr ⟨h1.trans g1, List.lt_trans h2 g2⟩
theorem yp (a b : List Nat) : a < b \/ a = b \/ b < a := by
 by_cases h : a < b
 ·exact .inl h
 ·by_cases g : b < a
  ·exact .inr (.inr g)
  ·exact .inr (.inl (List.le_antisymm (List.not_lt.mp g) (List.not_lt.mp h)))
theorem yu (a b : Pt) : ltP a b \/ a = b \/ ltP b a := by
 obtain ⟨a1, a2⟩ := a
 obtain ⟨b1, b2⟩ := b
 rcases yp a1 b1 with h | rfl | h
 ·exact .inl (.inl h)
 ·rcases yp a2 b2 with h | rfl | h
  ·exact .inl (.inr ⟨rfl, h⟩)
  ·exact .inr (.inl rfl)
  ·exact .inr (.inr (.inr ⟨rfl, h⟩))
 ·exact .inr (.inr (.inl h))
def rnk (l : List Pt) (u : Pt) : Nat := l.countP fun e => decide (ltP e u)
theorem AN {l : List Pt} {u v : Pt} (mu : u ∈ l) (h : ltP u v) : rnk l u < rnk l v :=
 Bb (fun e he => decide_eq_true (AD (of_decide_eq_true he) h)) mu (decide_eq_true h) (decide_eq_false (wN u))
theorem oU {l : List Pt} {u v : Pt} (mu : u ∈ l) (mv : v ∈ l) : ltP u v ↔ (rnk l u : Int) < rnk l v := by
 refine ⟨fun h => by have := AN mu h; omega, fun h => ?_⟩
 rcases yu u v with g | rfl | g
 ·exact g
 ·exact absurd h (Int.lt_irrefl _)
 ·have := AN mv g; omega
abbrev rm (l : List Pt) : Prop := l.Pairwise ltP
theorem sy : ∀ {a b : List Pt}, a.Perm b -> rm a -> rm b -> a = b
 | [], _, p, _, _ => p.nil_eq
 | x :: r, b, p, ha, hb => by
  cases b with
  | nil => exact absurd p.length_eq (by simp)
  | cons y t =>
   have e : x = y := by
    rcases List.mem_cons.mp (p.mem_iff.mp (.head _)) with h | h
    ·exact h
    ·rcases List.mem_cons.mp (p.mem_iff.mpr (.head _)) with h' | h'
     ·exact h'.symm
     ·exact absurd (AD ((List.pairwise_cons.mp ha).1 y h') ((List.pairwise_cons.mp hb).1 x h)) (wN x)
   subst e
   rw [sy (List.Perm.cons_inv p) (List.pairwise_cons.mp ha).2 (List.pairwise_cons.mp hb).2]
namespace Srt
def TwoS (h : Heap) (p : Addr) (e : Pt) : Prop := ∃ (o : Obj) (t u : Tok) (n : Nat), h.get? p = some o /\ o.cls = .type "tuple" /\ o.data = .seq #[.str ⟨⟨e.1⟩⟩ t, .str ⟨⟨e.2⟩⟩ u] n
section
variable {prog : Program} {w : World} {A : Around} {E : Value -> Shared -> Prop} {s : Shared}
theorem vL : ∀ (vs : List Value), (∀ v ∈ vs, ∃ p e, v = .ref p /\ TwoS s.heap p e) -> ∀ {Q : List (Option Value) -> Shared -> Prop}, (∀ fs ns, StrsAre fs ns -> fs.length = vs.length -> Q (fs.map some) s) ->
 wpAny (model prog w) A (vs.mapM firstOfTuple') Q E s
 | [], _, Q, h => by rw [List.mapM_nil]; exact wpAny_pure (h [] [] .nil rfl)
 | v :: vs, hv, Q, h => by
  obtain ⟨p, e, rfl, o, t, u, n, ho, hc, hd⟩ := hv v (List.mem_cons_self ..)
  rw [List.mapM_cons]
  refine wpAny_bind ?_
  show wpAny _ _ (typeOf (.ref p) >>= _) _ _ s
  refine wpAny_bind (wpAny_typeOf (⟨o, ho, hc⟩ : s.TypeIs (.ref p) "tuple") ?_)
  rw [if_neg (by decide)]
  refine wpAny_bind (listItems_at ho hd (wpAny_pure ?_))
  show wpAny _ _ (vs.mapM firstOfTuple' >>= fun bs => pure (some (Value.str ⟨⟨e.1⟩⟩ t) :: bs)) Q E s
  exact wpAny_bind (vL vs (fun v hv' => hv v (List.mem_cons_of_mem _ hv')) fun fs ns hI hl => wpAny_pure (h (.str ⟨⟨e.1⟩⟩ t :: fs) (⟨⟨e.1⟩⟩ :: ns) (.cons _ t hI) (by simp [hl])))
theorem EM {vs : List Value} (hv : ∀ v ∈ vs, ∃ p e, v = .ref p /\ TwoS s.heap p e) (h2 : 2 <= vs.length) {Q : SortKind -> Shared -> Prop} (h : Q (tuples' true) s) : wpAny (model prog w) A (keyKind' vs.toArray) Q E s := by
 rw [keyKind'_eq, List.mapM_toArray, map_eq_pure_bind]
 refine wpAny_bind (wpAny_bind (vL vs hv fun fs ns hI hl => wpAny_pure ?_))
 rw [if_pos (by simp)]
 refine wpAny_bind (wpAny_rule ?_)
 have e : (fs.map some).toArray.filterMap id = fs.toArray := by simp
 rw [e, oneTypeOnly'_eq, List.mapM_toArray, mapM_typeOf_strs hI]
 simp only [map_pure, pure_bind]
 have all : ((fs.map fun _ => Value.type "str").toArray.all fun x => x == Value.type "str") = true := by
  simp only [List.all_toArray, List.all_map, List.all_eq_true]
  exact fun _ _ => rfl
 have at0 : (fs.map fun _ => Value.type "str").toArray[0]? = some (Value.type "str") := by
  have : 0 < fs.length := by omega
  simp [this]
 rw [at0]
 simp only [all, if_true, pure_bind]
 exact wpAny_pure h
theorem Al {x y : List Nat} (h : x ≠ y) : decide ((⟨⟨x⟩⟩ : Str) = ⟨⟨y⟩⟩) = false := decide_eq_false fun z => h (by injection z with z; injection z)
theorem Gv {p q : Addr} {a b : Pt} {Q : Bool -> Shared -> Prop} (hp : TwoS s.heap p a) (hq : TwoS s.heap q b) (h : Q (decide (ltP a b)) s) :
 wpAny (model prog w) A (keyLt' (tuples' true) (.ref p) (.ref q)) Q E s := by
 obtain ⟨x, y⟩ := a
 obtain ⟨x', y'⟩ := b
 obtain ⟨o, t, u, n, ho, hc, hd⟩ := hp
 obtain ⟨o', t', u', n', ho', hc', hd'⟩ := hq
 show wpAny _ _ (Builtin.List.listItems (.ref p) >>= fun xs => Builtin.List.listItems (.ref q) >>= fun ys => _) _ _ s
 refine wpAny_bind (listItems_at ho hd (wpAny_bind (listItems_at ho' hd' ?_)))
 show wpAny _ _ (forIn [((Value.str ⟨⟨x⟩⟩ t, Value.str ⟨⟨x'⟩⟩ t'), 0), ((Value.str ⟨⟨y⟩⟩ u, Value.str ⟨⟨y'⟩⟩ u'), 1)] (none, ()) _ >>= _) _ _ s
 rw [List.forIn_cons]
 refine wpAny_bind (wpAny_bind (wpAny_bind (wpAny_eqBool_str ?_)))
 by_cases e : x = x'
 ·subst e
  simp only [decide_true, Bool.not_true, Bool.false_eq_true, if_false]
  refine wpAny_pure ?_
  simp only [List.forIn_cons]
  refine wpAny_bind (wpAny_bind (wpAny_eqBool_str ?_))
  by_cases e2 : y = y'
  ·subst e2
   simp only [decide_true, Bool.not_true, Bool.false_eq_true, if_false]
   refine wpAny_pure ?_
   simp only [List.forIn_nil]
   refine wpAny_pure (wpAny_pure ?_)
   rw [decide_eq_false (wN _)] at h
   exact h
  ·simp only [Al e2, Bool.not_false, if_true]
   refine wpAny_bind ?_
   show wpAny _ _ (oneLt' false (.str ⟨⟨y⟩⟩ u) (.str ⟨⟨y'⟩⟩ u')) _ _ s
   rw [oneLt'_eq]
   simp only [Bool.false_eq_true, if_false]
   refine wpAny_bind (PySem.P.lt_str (wpAny_truthy_bool (wpAny_pure (wpAny_pure (wpAny_pure ?_)))))
   rw [show decide (ltP (x, y) (x, y')) = decide (y < y') from decide_eq_decide.mpr ⟨fun z => z.elim (fun z => absurd z (List.lt_irrefl _)) (·.2), fun z => .inr ⟨rfl, z⟩⟩] at h
   exact h
 ·simp only [Al e, Bool.not_false, if_true]
  refine wpAny_bind ?_
  show wpAny _ _ (oneLt' true (.str ⟨⟨x⟩⟩ t) (.str ⟨⟨x'⟩⟩ t')) _ _ s
  refine oneLt_str (wpAny_pure (wpAny_pure (wpAny_pure ?_)))
  rw [show decide (ltP (x, y) (x', y')) = decide (x < x') from decide_eq_decide.mpr ⟨fun z => z.elim id fun z => absurd z.1 e, .inl⟩] at h
  exact h
theorem cmp_S {h : Heap} {os : OsState} {vs : List Value} {κ : Value -> Int} {f : Value -> Pt} (h2 : 2 <= vs.length) (hv : ∀ v ∈ vs, ∃ p, v = .ref p /\ TwoS h p (f v)) (hk : ∀ u ∈ vs, ∀ v ∈ vs, (ltP (f u) (f v) ↔ κ u < κ v)) : Cmp prog w h os (tuples' true) κ vs where
 kind A E s Q e q := by
  subst e
  exact EM (fun v m => let ⟨p, a, b⟩ := hv v m; ⟨p, _, a, b⟩) h2 q
 lt A E s u v Q e mu mv q := by
  subst e
  obtain ⟨p, rfl, b⟩ := hv u mu
  obtain ⟨p', rfl, b'⟩ := hv v mv
  refine Gv b b' ?_
  rwa [decide_eq_decide.mpr (hk _ mu _ mv)]
end
end Srt
section
variable {X : Cx} {pins : List (Addr × Obj)} {σ : St} {H : Hp} {s : Shared}
abbrev tP (e : Pt) : List V := [T e.1, T e.2]
abbrev kP (e : Pt) : List Key := [.inr ⟨⟨e.1⟩⟩, .inr ⟨⟨e.2⟩⟩]
theorem Gd (e : Pt) : (kP e).map kV = tP e := rfl
theorem tE {a b : Pt} (h : kP a = kP b) : a = b := by
 obtain ⟨a1, a2⟩ := a
 obtain ⟨b1, b2⟩ := b
 simp only [kP, List.cons.injEq, and_true] at h
 obtain ⟨h1, h2⟩ := h
 injection h1 with h1; injection h1 with h1; injection h1 with h1
 injection h2 with h2; injection h2 with h2; injection h2 with h2
 rw [h1, h2]
theorem EI {a b : Pt} (h : tP a = tP b) : a = b := tE (ym (by rw [Gd, Gd, h]))
abbrev KAt (H : Hp) (a : Addr) (e : Pt) : Prop := H a = some (.tup (tP e))
theorem F0 {H : Hp} {kvs : List (List Key × V)} {xs : List (List Key × Addr × Value)} (r : KT H kvs xs) : ∀ {ks : List Pt}, kvs.map (·.1) = ks.map kP ->
 ∃ ps : List (Addr × Pt), ps.map (·.2) = ks /\ xs.map (fun x => Value.ref x.2.1) = ps.map (fun e => Value.ref e.1) /\ (xs.map (·.1) = ks.map kP) /\ ∀ e ∈ ps, KAt H e.1 e.2 := by
 induction r with
 | nil =>
  intro ks h
  cases ks with
  | nil => exact ⟨[], rfl, rfl, rfl, fun _ m => nomatch m⟩
  | cons => simp at h
 | @cons p q ps qs h t ih =>
  intro ks e
  cases ks with
  | nil => simp at e
  | cons k ks =>
   rw [List.map_cons, List.map_cons] at e
   injection e with e1 e2
   obtain ⟨l, a1, a2, a3, a4⟩ := ih e2
   obtain ⟨h1, h2, _⟩ := h
   rw [e1] at h1 h2
   refine ⟨(q.2.1, k) :: l, by rw [List.map_cons, a1], by rw [List.map_cons, List.map_cons, a2], by rw [List.map_cons, List.map_cons, a3, h1], fun z m => ?_⟩
   rcases List.mem_cons.mp m with rfl | m
   ·exact h2
   ·exact a4 z m
def fOf (ps : List (Addr × Pt)) : Value -> Pt
 | .ref a => ((ps.find? fun e => e.1 == a).map (·.2)).getD ([], [])
 | _ => ([], [])
theorem Be {H : Hp} {ps : List (Addr × Pt)} (hp : ∀ e ∈ ps, KAt H e.1 e.2) {e : Addr × Pt} (m : e ∈ ps) : fOf ps (.ref e.1) = e.2 := by
 show ((ps.find? fun z => z.1 == e.1).map (·.2)).getD ([], []) = e.2
 cases f : ps.find? fun z => z.1 == e.1 with
 | none => exact absurd (List.find?_eq_none.mp f e m) (by simp)
 | some z =>
  have e1 : z.1 = e.1 := by simpa using List.find?_some f
  have t1 := hp z (List.mem_of_find?_eq_some f)
  have t2 := hp e m
  rw [e1] at t1
  have t3 := t1.symm.trans t2
  injection t3 with t3; injection t3 with t3
  exact EI t3
theorem DF {H : Hp} {ps : List (Addr × Pt)} (hp : ∀ e ∈ ps, KAt H e.1 e.2) : ∀ {out : List Value}, (∀ v ∈ out, v ∈ ps.map fun e => Value.ref e.1) -> ∃ as : List Addr, Vals (as.map V.ref) out /\ A2 (KAt H) as (out.map (fOf ps))
 | [], _ => ⟨[], .nil, .nil⟩
 | v :: out, h => by
  obtain ⟨as, a1, a2⟩ := DF hp fun u m => h u (List.mem_cons_of_mem _ m)
  obtain ⟨e, m, rfl⟩ := List.mem_map.mp (h v (List.mem_cons_self ..))
  refine ⟨e.1 :: as, .cons rfl a1, ?_⟩
  rw [List.map_cons, Be hp m]
  exact .cons (hp e m) a2
theorem Inv.twoS (I : Inv X pins σ H s) {p : Addr} {e : Pt} (h : KAt H p e) : Srt.TwoS s.heap p e := by
 obtain ⟨_, its, r0, o, ho, hc, n, hd⟩ := (show ObjOk X.prog X.w H s.heap p (.tup (tP e)) from I.hok p _ h)
 have r : Vals [T e.1, T e.2] its := r0
 clear r0
 cases r with
 | cons r1 r =>
  cases r with
  | cons r2 r =>
   cases r
   obtain ⟨t, rfl⟩ := r1
   obtain ⟨u, rfl⟩ := r2
   exact ⟨o, t, u, n, ho, hc, hd⟩
theorem Srt.TwoS.keep {h h' : Heap} {p : Addr} {e : Pt} (x : Srt.TwoS h p e) (k : ∀ b o, h.get? b = some o -> h'.get? b = some o) : Srt.TwoS h' p e := by
 obtain ⟨o, t, u, n, ho, r⟩ := x
 exact ⟨o, t, u, n, k _ _ ho, r⟩
def tD : List V -> Hp -> VK -> Prop
 | [.ref d], H, Q => ∃ (kvs : List (List Key × V)) (ks : List Pt), H d = some (.dT kvs) /\ kvs.map (·.1) = ks.map kP /\ ks.length < 64 /\
  ∀ (out : List Pt) (as : List Addr), out.Perm ks -> rm out -> A2 (KAt H) as out -> ∀ l, H l = none -> Q (.ref l) (upd H l (.lst (as.map V.ref)))
 | _, _, _ => False
theorem sx (hc : X.calm = true) : CallR X (.builtin "sorted") tD := by
 intro pins s σ H xs us Q I r h
 unfold tD at h
 split at h
 ·rename_i d
  obtain ⟨kvs, ks, hd, hks, h64, q⟩ := h
  obtain ⟨u, rfl, rx⟩ := gs r
  cases (show u = Value.ref d from rx)
  obtain ⟨z, lo, xs, rel, o, es, ep, ho, ex, hdat, he, _, hn⟩ := Dt I.hok hd
  obtain ⟨ps, p1, p2, p3, p4⟩ := F0 rel hks
  have ndk : ks.Nodup := by
   rw [p3] at hn
   exact (List.pairwise_map.mp hn).imp fun h e => h (by rw [e])
  have len : es.size = ks.length := by
   rw [<- Array.length_toList, he, List.length_map, <- List.length_map (f := fun x => Value.ref x.2.1), p2, List.length_map, <- List.length_map (f := (·.2)), p1]
  refine Calls.call_function_entry kind_sorted plain_sorted entry_sorted (args_sorted1 _) ?_
  unfold Builtin.«sorted»
  refine wpAny_bind (m := checkCount "sorted" 1 1 _) (wpAny_pure ?_)
  refine wpAny_bind (PySem.W.kdu_collect (DZ lo ex hdat) (I.ok.hd hc) ho (by rw [len, sizeLine_eq]; omega) fun h' tk acc kp it => ?_)
  have ea : acc.toList = ps.map fun e => Value.ref e.1 := by
   rw [<- p2]
   have ek : xs.map (fun x => Value.ref x.2.1) = es.toList.map (·.key) := by rw [he, List.map_map]; rfl
   rw [ek]
   refine List.ext_getElem? fun j => ?_
   rw [List.getElem?_map, Array.getElem?_toList, Array.getElem?_toList]
   cases ej : acc[j]? with
   | none =>
    have : acc.size <= j := Array.getElem?_eq_none_iff.mp ej
    rw [it.1] at this
    rw [Array.getElem?_eq_none this]; rfl
   | some v =>
    obtain ⟨e, g1, g2⟩ := it.2 j v ej
    rw [g1, g2]; rfl
  have inv : ∀ e ∈ ps, fOf ps (.ref e.1) = e.2 := fun e m => Be p4 m
  have em : (ps.map fun e => Value.ref e.1).map (fOf ps) = ks := by
   rw [List.map_map, <- p1]
   exact List.map_congr_left fun e m => inv e m
  have mk : ∀ v ∈ ps.map (fun e => Value.ref e.1), fOf ps v ∈ ks := fun v m => by rw [<- em]; exact List.mem_map_of_mem m
  have nd : ((ps.map fun e => Value.ref e.1).map fun v => (rnk ks (fOf ps v) : Int)).Nodup := by
   rw [show (ps.map fun e => Value.ref e.1).map (fun v => (rnk ks (fOf ps v) : Int)) = ((ps.map fun e => Value.ref e.1).map (fOf ps)).map (fun e => (rnk ks e : Int)) by simp only [List.map_map]; rfl, em]
   refine List.pairwise_map.mpr (List.Pairwise.imp_of_mem (fun {a b} ma mb ne e => ?_) ndk)
   rcases yu a b with g | g | g
   ·have := (oU ma mb).mp g; omega
   ·exact ne g
   ·have := (oU mb ma).mp g; omega
  have lv : (ps.map fun e => Value.ref e.1).length < 64 := by rw [List.length_map, <- List.length_map (f := (·.2)), p1]; exact h64
  rw [ea]
  refine wpAny_bind (wpAny_newList ?_ (by rw [sizeLine_eq]; omega))
  have hoL : (h'.push (seqObj "list" (ps.map fun e => Value.ref e.1).toArray 0)).get? h'.objs.size = some (seqObj "list" (ps.map fun e => Value.ref e.1).toArray 0) := Heap.get?_push_size _ rfl
  have kL : ∀ b ob, s.heap.get? b = some ob -> (((h'.push (seqObj "list" (ps.map fun e => Value.ref e.1).toArray 0)).update h'.objs.size (Obj.mapSeq fun _ => #[])).push (seqObj "tuple" (ps.map fun e => Value.ref e.1).toArray 0) |>.push (seqObj "list" #[] 0)).get? b = some ob := fun b ob e => by
   have l1 := Heap.lt_size (kp _ _ e)
   refine Heap.get?_push_of_some _ (Heap.get?_push_of_some _ ?_)
   rw [Heap.get?_update_ne _ _ _ _ (Nat.ne_of_lt l1)]
   exact Heap.get?_push_of_some _ (kp _ _ e)
  refine wpAny_bind (wpAny_holding (wpAny_call_entry slot_list_sort ⟨_, hoL, rfl⟩ entry_list_sort (Srt.sort_by (kd := tuples' true) (κ := fun v => (rnk ks (fOf ps v) : Int)) hoL lv nd (fun h2 => Srt.cmp_S (f := fOf ps) h2 (fun v m => ?_) fun u mu v mv => oU (mk u mu) (mk v mv)) fun out pm sr => ⟨_, rfl, ?_⟩) (args_list_sort _)))
  ·obtain ⟨e, me, rfl⟩ := List.mem_map.mp m
   refine ⟨e.1, rfl, ?_⟩
   rw [inv e me]
   exact (I.twoS (p4 e me)).keep kL
  ·refine wpAny_pure ⟨_, rfl, ?_⟩
   obtain ⟨c, el⟩ := sortedHeap_at (out := out.toArray) hoL
   have I1 : Inv X pins σ H { s with heap := h', toks := tk } := I.kept kp
   have kp2 : ∀ b o, h'.get? b = some o -> (sortedHeap (h'.push (seqObj "list" (ps.map fun e => Value.ref e.1).toArray 0)) h'.objs.size (ps.map fun e => Value.ref e.1) out.toArray).get? b = some o := fun b o e => by
    have l1 := Heap.lt_size e
    rw [sortedHeap_old (Nat.ne_of_lt l1) (by rw [size_push']; exact Nat.lt_succ_of_lt l1), Heap.get?_push_ne _ _ _ (Nat.ne_of_lt l1)]
    exact e
   obtain ⟨as, a1, a2⟩ := DF p4 (out := out) fun v m => pm.mem_iff.mp m
   have po : (out.map (fOf ps)).Perm ks := by have := pm.map (fOf ps); rwa [em] at this
   have so : rm (out.map (fOf ps)) := List.pairwise_map.mpr (List.Pairwise.imp_of_mem (fun {a b} ma mb l => (oU (mk a (pm.mem_iff.mp ma)) (mk b (pm.mem_iff.mp mb))).mpr l) sr)
   refine ⟨.ref h'.objs.size, _, I1.laid (t' := tk) (a := h'.objs.size) kp2 (Nat.le_refl _) (show ObjOk X.prog X.w _ _ _ (.lst (as.map V.ref)) from ⟨?_, out, c, a1, el⟩), rfl, q _ as po so a2 _ (I1.hok.fresh (Nat.le_refl _))⟩
   have := a1.length
   have := pm.length_eq
   rw [sizeLine_eq]; omega
 ·exact h.elim
def Dz : V -> List V -> Hp -> VK -> Prop := fun x vs H Q => ∃ l b xs zs, x = .ref l /\ vs = [.ref b] /\ H l = some (.lst xs) /\ H b = some (.tup zs) /\ xs.length + zs.length <= sizeLine /\ Q .non (upd H l (.lst (xs ++ zs)))
theorem Cm : MtM X "list.extend" Dz := by
 intro pins s σ H x vs v us Q I rx rv h
 obtain ⟨l, b, xs, zs, rfl, rfl, hH, hB, hz, q⟩ := h
 cases rx
 obtain ⟨u, rfl, ru⟩ := rv.one
 cases ru
 obtain ⟨z, its, n, r, hl, e⟩ := I.lstM hH
 obtain ⟨z2, its2, r2, ⟨ob, eb, cb, n2, db⟩⟩ := (show ObjOk X.prog X.w H s.heap b (.tup zs) from I.hok b _ hB)
 have hl2 := r2.length
 have fin : Inv X pins σ (upd H l (.lst (xs ++ zs))) { s with heap := s.heap.update l (Obj.mapSeq (· ++ its2.toArray)) } := I.lset (its' := its ++ its2) hH e (by simp) (r.append r2) (by rw [List.length_append]; omega)
 refine wpAny_call_entry F.slot_list_extend ⟨_, e, rfl⟩ F.entry_list_extend ?_ (F.args_list_extend_2 _ _)
 show wpAny _ _ (Builtin.List.listExtendWith (.ref l) (.ref b) .none) _ _ s
 unfold Builtin.List.listExtendWith
 refine wpAny_bind (wpAny_typeOf ⟨ob, eb, cb⟩ ?_)
 rw [if_pos (by rw [show (Value.type "tuple" == Value.type "tuple") = true by decide, Bool.or_true])]
 refine wpAny_bind (listItems_at eb db (wpAny_bind (listItems_at e rfl ?_)))
 have hsz : its.toArray.size + its2.toArray.size <= sizeLine := by rw [List.size_toArray, List.size_toArray]; omega
 rw [if_neg (by rw [BG hsz, Bool.and_false]; exact Bool.false_ne_true)]
 refine wpAny_bind (listUpdate_at e rfl ?_ (hsz := by rw [List.size_toArray]; omega) (hsz2 := by rw [Array.size_append]; omega))
 exact wpAny_pure ⟨_, rfl, .non, _, fin, rfl, q⟩
end
def CEl (J : It) (n : Nat) (g : TG) (ks : List Nat) (tt : TT) (te : TE) (σ : St) (H1 : Hp) (Q : VK) : Prop := ∀ D, H1 D = none -> ∃ W : Nat -> Nat -> List V -> Hp -> Prop, (∃ m, W 0 m [] (upd H1 D (.lst []))) /\
 ∀ i m ys H2, W i m ys H2 -> H2 D = some (.lst ys) /\ ((J.stop i H2 /\ Q (.ref D) H2) \/ (J.go i H2 /\ ∀ x H3, J.yld i H2 x H3 -> ∀ zs : St, zs.length = n ->
  g x (zs ++ ks.map fun k => (σ[k]?).join) H3 fun σ4 H4 => (∃ zs4 : St, zs4.length = n /\ σ4 = zs4 ++ ks.map fun k => (σ[k]?).join) /\
   tt σ4 H4 fun b H5 => if b = true then te σ4 H5 fun y H6 => H6 D = some (.lst ys) /\ ys.length < sizeLine /\ ∃ m', m' < m /\ W (i + 1) m' (ys ++ [y]) (upd H6 D (.lst (ys ++ [y])))
    else ∃ m', m' < m /\ W (i + 1) m' ys H5))
theorem v0 {K : PySem.W.Frag} {tl : TE} {n : Nat} {g : TG} {ks : List Nat} {tt : TT} {te : TE} {σ : St} {H : Hp} {Q : VK} (h : tl σ H fun x H1 => ∃ a, x = .ref a /\ (∃ xs, SqL K H1 a xs) /\ CEl (Itl K a) n g ks tt te σ H1 Q) : gK (qD K tl) n g ks tt te σ H Q := h
theorem yf {K : PySem.W.Frag} {n : Nat} {g : TG} {ks : List Nat} {tt : TT} {te : TE} {σ : St} {H1 : Hp} {Q : VK} (a : Addr) (xs : List V) (P : Addr -> Nat -> List V -> Hp -> Prop) (hz : xs.length < sizeLine)
 (h0 : ∀ D, H1 D = none -> P D 0 [] (upd H1 D (.lst []))) (hD : ∀ D i ys H', P D i ys H' -> H' D = some (.lst ys) /\ SqL K H' a xs /\ ys.length <= i)
 (hs : ∀ D i y ys H' (zs : St) (N1 : VK) (N0 : Hp -> Prop), xs[i]? = some y -> P D i ys H' -> zs.length = n -> (∀ v H6, H6 D = some (.lst ys) -> P D (i + 1) (ys ++ [v]) (upd H6 D (.lst (ys ++ [v]))) -> N1 v H6) -> (∀ H6, P D (i + 1) ys H6 -> N0 H6) ->
  g y (zs ++ ks.map fun k => (σ[k]?).join) H' fun σ4 H4 => (∃ zs4 : St, zs4.length = n /\ σ4 = zs4 ++ ks.map fun k => (σ[k]?).join) /\ tt σ4 H4 fun b H5 => if b = true then te σ4 H5 N1 else N0 H5)
 (hd : ∀ D ys H', P D xs.length ys H' -> Q (.ref D) H') : CEl (Itl K a) n g ks tt te σ H1 Q := by
 intro D hDn
 refine ⟨fun i m ys H' => m = xs.length - i /\ i <= xs.length /\ P D i ys H', ⟨_, rfl, Nat.zero_le _, h0 D hDn⟩, ?_⟩
 rintro i m ys H' ⟨rfl, hi, p⟩
 obtain ⟨d1, d2, d3⟩ := hD D i ys H' p
 refine ⟨d1, ?_⟩
 rcases Nat.lt_or_ge i xs.length with lt | ge
 ·refine .inr ⟨⟨xs, xs[i], d2, by simp [lt]⟩, ?_⟩
  rintro x H3 ⟨rfl, hx⟩ zs hzs
  exact hs D i x ys _ zs _ _ (hx xs d2) p hzs (fun v H6 h6 p6 => ⟨h6, by omega, _, by omega, rfl, lt, p6⟩) fun H6 p6 => ⟨_, by omega, rfl, lt, p6⟩
 ·obtain rfl : i = xs.length := Nat.le_antisymm hi ge
  exact .inl ⟨⟨xs, d2, Nat.le_refl _⟩, hd D ys H' p⟩
section
variable {X : Cx} {pos : Pos}
end
open Lean Meta Simp
def B4 : List Name := CC ++ [`L2.As, `L2.Dz, `L2.tPar3]
def B5 : List Name := B9 ++ [`L2.tD, `L2.gRp]
def De (e : Lean.Expr) : MetaM (Option Lean.Expr) := do
 let .const n us := e.getAppFn | return none
 let fr := Ev n || B4.contains n
 unless fr || B5.contains n do return none
 let some (.defnInfo d) := (<- getEnv).find? n | return none
 let v := d.value.instantiateLevelParams d.levelParams us
 if e.getAppNumArgs < v.getNumHeadLambdas then return none
 let b := v.beta e.getAppArgs
 if fr then return some b
 match <- reduceMatcher? b with
 | .reduced r => return some r
 | .notMatcher => return some b
 | _ => return none
dsimproc_decl Bu (_) := fun e => do
 match <- De e with
 | some r => return .visit r
 | none => return .continue
end L2
namespace K19
open PySem L2
structure Row where
 pa : List Nat
 cu : List Nat
 am : Int
structure Bk where
 k : Int
 d : Int
 rs : List Row
def sg (a s : Int) (k : Nat) : Nat := 97 + ((a + s * k) % 26).toNat
def wd (a s : Int) (n : Nat) : List Nat := (List.range n).map fun k => sg a s k
def Bz (d : List (Pt × Int)) (k : Pt) (v : Int) : List (Pt × Int) := if (d.any fun e => decide (e.1 = k)) = true then d.map (fun e => if e.1 = k then (e.1, v) else e) else d ++ [(k, v)]
def vN (d : List (Pt × Int)) (k : Pt) : Option Int := (d.find? fun e => decide (e.1 = k)).map (·.2)
def jT (e : Pt × Int) : List Key × V := (kP e.1, .int e.2)
theorem Cv (e : Pt × Int) (k : Pt) : decide ((jT e).1 = kP k) = decide (e.1 = k) := decide_eq_decide.mpr ⟨fun h => tE h, fun h => by show kP e.1 = kP k; rw [h]⟩
theorem uJ (d : List (Pt × Int)) (k : Pt) (v : Int) : iG (d.map jT) (kP k) (.int v) = (Bz d k v).map jT := by
 unfold iG Bz
 have e1 : ((d.map jT).any fun kv => decide (kv.1 = kP k)) = d.any fun e => decide (e.1 = k) := by
  rw [List.any_map]
  exact congrArg (d.any ·) (funext fun e => Cv e k)
 rw [e1]
 split
 ·rw [List.map_map, List.map_map]
  apply List.map_congr_left
  intro e _
  show (if (jT e).1 = kP k then ((jT e).1, V.int v) else jT e) = jT (if e.1 = k then (e.1, v) else e)
  by_cases h : e.1 = k
  ·rw [if_pos h, if_pos (by show kP e.1 = kP k; rw [h])]; rfl
  ·rw [if_neg h]; exact if_neg fun z => h (tE z)
 ·rw [List.map_append]; rfl
theorem jJ (k : Pt) : ∀ d : List (Pt × Int), ju (d.map jT) (kP k) = (vN d k).map V.int
 | [] => rfl
 | e :: r => by
  have ih := jJ k r
  by_cases h : e.1 = k
  ·rw [List.map_cons, gT (by show kP e.1 = kP k; rw [h])]
   simp [vN, h, jT]
  ·rw [List.map_cons, fX (fun z => h (tE z)), ih]
   simp [vN, h]
def stp (d : List (Pt × Int)) (r : Row) : List (Pt × Int) := Bz d (r.pa, r.cu) ((vN d (r.pa, r.cu)).getD 0 + r.am)
def dk (rs : List Row) : List (Pt × Int) := rs.foldl stp []
theorem tS (rs : List Row) (r : Row) : dk (rs ++ [r]) = stp (dk rs) r := by unfold dk; rw [List.foldl_append]; rfl
theorem y8 (d : List (Pt × Int)) (k : Pt) (v : Int) : (Bz d k v).map (·.1) = if k ∈ d.map (·.1) then d.map (·.1) else d.map (·.1) ++ [k] := by
 unfold Bz
 have e : ((d.any fun e => decide (e.1 = k)) = true) ↔ k ∈ d.map (·.1) := by
  rw [List.any_eq_true]
  constructor
  ·rintro ⟨x, hx, h⟩; exact List.mem_map.mpr ⟨x, hx, of_decide_eq_true h⟩
  ·intro h
   obtain ⟨x, hx, h⟩ := List.mem_map.mp h
   exact ⟨x, hx, decide_eq_true h⟩
 by_cases h : k ∈ d.map (·.1)
 ·rw [if_pos (e.mpr h), if_pos h, List.map_map]
  apply List.map_congr_left
  intro x _
  show (if x.1 = k then (x.1, v) else x).1 = x.1
  split <;> rfl
 ·rw [if_neg fun z => h (e.mp z), if_neg h, List.map_append]; rfl
theorem Cs {rs : List Row} {r : Row} : (dk (rs ++ [r])).map (·.1) = if (r.pa, r.cu) ∈ (dk rs).map (·.1) then (dk rs).map (·.1) else (dk rs).map (·.1) ++ [(r.pa, r.cu)] := by
 rw [tS]; exact y8 _ _ _
theorem AZ {α : Type} {P : List α -> Prop} (h0 : P []) (h1 : ∀ l x, P l -> P (l ++ [x])) (l : List α) : P l := by
 have : ∀ r : List α, P r.reverse := by
  intro r
  induction r with
  | nil => exact h0
  | cons x r ih => rw [List.reverse_cons]; exact h1 _ _ ih
 have h := this l.reverse
 rwa [List.reverse_reverse] at h
theorem yz (rs : List Row) : ((dk rs).map (·.1)).Nodup /\ (∀ e ∈ (dk rs).map (·.1), ∃ r ∈ rs, e = (r.pa, r.cu)) /\ (dk rs).length <= rs.length := by
 induction rs using AZ with
 | h0 => exact ⟨.nil, (fun _ m => nomatch m), Nat.le_refl _⟩
 | h1 l x ih =>
  obtain ⟨i1, i2, i3⟩ := ih
  rw [<- List.length_map (f := (·.1)) (as := dk (l ++ [x])), Cs]
  rw [<- List.length_map (f := (·.1))] at i3
  by_cases h : (x.pa, x.cu) ∈ (dk l).map (·.1)
  ·rw [if_pos h]
   refine ⟨i1, fun e m => ?_, by rw [List.length_append]; omega⟩
   obtain ⟨r, hr, g⟩ := i2 e m
   exact ⟨r, List.mem_append_left _ hr, g⟩
  ·rw [if_neg h]
   refine ⟨List.nodup_append.mpr ⟨i1, List.nodup_cons.mpr ⟨List.not_mem_nil, List.nodup_nil⟩, fun a ha b hb => by rw [List.mem_singleton.mp hb]; rintro rfl; exact h ha⟩, fun e m => ?_, by rw [List.length_append, List.length_append, List.length_singleton, List.length_singleton]; omega⟩
   rcases List.mem_append.mp m with m | m
   ·obtain ⟨r, hr, g⟩ := i2 e m
    exact ⟨r, List.mem_append_left _ hr, g⟩
   ·exact ⟨x, by simp, List.mem_singleton.mp m⟩
theorem sd {α : Type} [DecidableEq α] : ∀ {l m : List α}, l.Nodup -> (∀ x ∈ l, x ∈ m) -> l.length <= m.length
 | [], m, _, _ => Nat.zero_le _
 | x :: r, m, h, s => by
  obtain ⟨h1, h2⟩ := List.nodup_cons.mp h
  have hx := s x (.head _)
  have := sd (l := r) (m := m.erase x) h2 fun y hy => (List.mem_erase_of_ne (by rintro rfl; exact h1 hy)).mpr (s y (.tail _ hy))
  rw [List.length_erase_of_mem hx] at this
  have : 0 < m.length := List.length_pos_of_mem hx
  rw [List.length_cons]; omega
theorem v_ (cu : List (List Nat)) : ∀ ps : List (List Nat), (ps.flatMap fun p => cu.map fun c => (p, c)).length = ps.length * cu.length
 | [] => by simp
 | p :: r => by rw [List.flatMap_cons, List.length_append, List.length_map, v_ cu r, List.length_cons, Nat.succ_mul, Nat.add_comm]
theorem Fh {rs : List Row} {ps cu : List (List Nat)} (h : ∀ r ∈ rs, r.pa ∈ ps /\ r.cu ∈ cu) : (dk rs).length <= ps.length * cu.length := by
 obtain ⟨h1, h2, _⟩ := yz rs
 rw [<- v_, <- List.length_map (f := (·.1))]
 refine sd h1 fun e m => ?_
 obtain ⟨r, hr, rfl⟩ := h2 e m
 exact List.mem_flatMap.mpr ⟨r.pa, (h r hr).1, List.mem_map.mpr ⟨r.cu, (h r hr).2, rfl⟩⟩
theorem z_ {d : List (Pt × Int)} {k : Pt} (h : k ∈ d.map (·.1)) : ∃ n, vN d k = some n := by
 obtain ⟨e, he, rfl⟩ := List.mem_map.mp h
 unfold vN
 cases f : d.find? fun x => decide (x.1 = e.1) with
 | none => exact absurd (List.find?_eq_none.mp f e he) (by simp)
 | some z => exact ⟨z.2, rfl⟩
def val (rs : List Row) (k : Pt) : Int := (vN (dk rs) k).getD 0
def res (rs : List Row) (out : List Pt) : List Row := (out.filter fun k => decide (val rs k ≠ 0)).map fun k => ⟨k.1, k.2, val rs k⟩
theorem oR (rs : List Row) (out : List Pt) : (res rs out).length <= out.length := by unfold res; rw [List.length_map]; exact List.length_filter_le _ _
theorem Aa {rs : List Row} {k : Pt} (h : k ∈ (dk rs).map (·.1)) : vN (dk rs) k = some (val rs k) := by
 obtain ⟨n, e⟩ := z_ h
 unfold val; rw [e]; rfl
theorem vB (rs : List Row) (out : List Pt) (k : Pt) : res rs (out ++ [k]) = res rs out ++ if val rs k ≠ 0 then [⟨k.1, k.2, val rs k⟩] else [] := by
 unfold res
 rw [List.filter_append, List.map_append]
 congr 1
 by_cases h : val rs k ≠ 0
 ·rw [if_pos h]; simp [h]
 ·rw [if_neg h]; simp at h; simp [h]
def rsd (t : Int) (bs : List Bk) : List Row := bs.flatMap fun b => if b.d <= t then b.rs else []
theorem uY (t : Int) (bs : List Bk) (b : Bk) : rsd t (bs ++ [b]) = rsd t bs ++ if b.d <= t then b.rs else [] := by
 unfold rsd; rw [List.flatMap_append]; simp
theorem qA (t : Int) : ∀ bs : List Bk, (bs.filter fun b => decide (b.d <= t)).flatMap (·.rs) = rsd t bs
 | [] => rfl
 | b :: r => by
  have ih := qA t r
  unfold rsd at ih ⊢
  rw [List.flatMap_cons]
  by_cases h : b.d <= t
  ·rw [if_pos h, List.filter_cons_of_pos (by simpa using h), List.flatMap_cons, ih]
  ·rw [if_neg h, List.filter_cons_of_neg (by simpa using h), ih]; rfl
theorem Cj {t : Int} {bs : List Bk} {r : Row} (h : r ∈ rsd t bs) : ∃ b ∈ bs, r ∈ b.rs := by
 obtain ⟨b, hb, hr⟩ := List.mem_flatMap.mp h
 refine ⟨b, hb, ?_⟩
 split at hr
 ·exact hr
 ·exact nomatch hr
end K19
namespace L2
open PySem PyProof.Rows
theorem v5 {H : Hp} {a : Addr} {o : HO} (h : H a = some o) : upd H a o = H := by
 funext b
 by_cases e : b = a
 ·subst e; rw [ag, h]
 ·rw [aj e]
def isD : HO -> Bool
 | .dK _ => true
 | .dT _ => true
 | _ => false
def gN : HO -> Nat
 | .dK kvs => kvs.length
 | .dT kvs => kvs.length
 | _ => 0
def rN (H : Hp) (u : HO) (i : Nat) (x v : V) : Prop := match u with
 | .dK kvs => ∃ k, kvs[i]? = some (k, v) /\ x = kV k
 | .dT kvs => ∃ k q, kvs[i]? = some (k, v) /\ x = .ref q /\ H q = some (.tup (k.map kV))
 | _ => False
theorem Cz {P : Program} {w : World} {k : Key} {u : Value} (h : (bV P w).is k u = true) : RelV (kV k) u := by
 cases k with
 | inl i => obtain ⟨t, z⟩ := Value.isInt_shape h; exact ⟨t, z⟩
 | inr x => obtain ⟨t, z⟩ := Value.isStrOf_shape h; exact ⟨t, z⟩
theorem Du {α β : Type} {R : α -> β -> Prop} {xs : List α} {ys : List β} (h : Paired R xs ys) : ∀ {i : Nat} {y : β}, ys[i]? = some y -> ∃ x, xs[i]? = some x /\ R x y := by
 induction h with
 | nil => intro i y e; simp at e
 | cons r _ ih =>
  intro i y e
  cases i with
  | zero => cases e; exact ⟨_, rfl, r⟩
  | succ i => exact ih (i := i) (by simpa using e)
section
variable {X : Cx} {pins : List (Addr × Obj)} {σ : St} {H : Hp} {s : Shared} {a : Addr}
theorem yA (I : Inv X pins σ H s) {u : HO} (hu : isD u = true) (x : ObjOk X.prog X.w H s.heap a u) : ∃ (o : Obj) (es : Array DictEntry) (ep : Nat), s.heap.get? a = some o /\ o.ExactDict /\ o.data = .dict es ep /\ (a == sysModules) = false /\ es.size = gN u /\
 ∀ i e, es[i]? = some e -> ∃ x v, rN H u i x v /\ RelV x e.key /\ RelV v e.val := by
 cases u with
 | dK kvs =>
  obtain ⟨z, lo, vs, rel, o, es, ep, ho, ex, hd, hk, hp, hn⟩ := x
  have hl : es.size = vs.length := by rw [<- hp.length]; simp
  refine ⟨o, es, ep, ho, ex, hd, lo, by rw [hl]; exact rel.length.symm, fun i e he => ?_⟩
  have hi : i < vs.length := by rw [<- hl]; exact (Array.getElem?_eq_some_iff.mp he).1
  obtain ⟨p1, p2⟩ := hp.get? (e := e) (k := vs[i].1) (v := vs[i].2) (by rw [Array.getElem?_toList]; exact he) (by simp [hi])
  obtain ⟨⟨k, v⟩, hx, e1, e2⟩ := Du rel (y := vs[i]) (List.getElem?_eq_getElem hi)
  have e1' : k = vs[i].1 := e1
  refine ⟨kV k, v, ⟨k, hx, rfl⟩, by rw [e1']; exact Cz p1, by rw [p2]; exact e2⟩
 | dT kvs =>
  obtain ⟨z, lo, xs, rel, o, es, ep, ho, ex, hd, he, hn⟩ := x
  have hl : es.size = xs.length := size_of_entries he
  refine ⟨o, es, ep, ho, ex, hd, lo, by rw [hl]; exact (Paired.length rel).symm, fun i e h => ?_⟩
  rw [entry_at he i] at h
  obtain ⟨q, hq, rfl⟩ := Option.map_eq_some_iff.mp h
  obtain ⟨⟨k, v⟩, hx, e1, e2, e3⟩ := Du rel hq
  exact ⟨.ref q.2.1, v, ⟨k, q.2.1, hx, rfl, e2⟩, rfl, e3⟩
 | _ => cases hu
theorem Inv.freeze (I : Inv X pins σ H s) {u : HO} (hu : isD u = true) (e : Rd H a u) : ∃ (o : Obj) (es : Array DictEntry) (ep : Nat), s.heap.get? a = some o /\ o.ExactDict /\ o.data = .dict es ep /\ (a == sysModules) = false /\ es.size = gN u /\ (H a = some u \/ H a = some (.frz o u)) /\ Inv X pins σ (upd H a (.frz o u)) s := by
 have x := Bq I.hok e
 obtain ⟨o, es, ep, ho, ex, hd, lo, hz, _⟩ := yA I hu x
 rcases e with e | ⟨o', e⟩
 ·refine ⟨o, es, ep, ho, ex, hd, lo, hz, .inl e, ?_⟩
  have no : ∀ b w, H b = some w -> isD w = false -> b ≠ a := fun b w q n z => by rw [z, e] at q; cases q; rw [hu] at n; cases n
  exact I.write (x := a) (e := a) (t' := s.toks) (h' := s.heap) (by rw [e]; cases u <;> first | exact True.intro | cases hu) (.inl rfl) (fun _ _ _ q => q) ⟨o, ho⟩ ⟨ho, x.stay (fun _ _ _ q => q) (fun c z => by rw [aj (no c _ z rfl)]; exact z) fun c xs z => by rw [aj (no c _ z rfl)]; exact z⟩
 ·have h1 := (show ObjOk X.prog X.w H s.heap a (.frz o' u) from I.hok a _ e).1
  rw [ho] at h1; cases h1
  refine ⟨o, es, ep, ho, ex, hd, lo, hz, .inr e, ?_⟩
  rw [v5 e]; exact I
theorem Inv.thaw (I : Inv X pins σ H s) {o : Obj} {u : HO} (e : H a = some (.frz o u)) (nf : ∀ o' u', X.H₀ a ≠ some (.frz o' u')) : Inv X pins σ (upd H a u) s := by
 have na : ∀ b, H b = none -> b ≠ a := fun b n z => by rw [z, e] at n; cases n
 have no : ∀ b w, H b = some w -> (∀ o x, w ≠ .frz o x) -> b ≠ a := fun b w q n z => by rw [z, e] at q; cases q; exact n _ _ rfl
 have own : ∀ {d : Addr} c, H c = some (.own d) -> upd H a u c = some (.own d) := fun c z => by rw [aj (no c _ z (by intro _ _ y; cases y))]; exact z
 have tup : ∀ c xs, H c = some (.tup xs) -> upd H a u c = some (.tup xs) := fun c xs z => by rw [aj (no c _ z (by intro _ _ y; cases y))]; exact z
 refine ⟨I.ok, I.os, I.bare, ⟨I.base.keep, I.base.slot, fun b ob q n hx => ?_, I.base.there, fun b xs q => tup b xs (I.base.tups b xs q), fun b ob x q => ?_, fun b ps q => ?_⟩, I.loc, I.cell, ?_, fun x c ec => ?_, fun p hp => ?_, fun b ob q => ?_, I.len⟩
 ·have h := I.base.free b ob q n hx
  rw [aj (na b h)]; exact h
 ·have h := I.base.frzs b ob x q
  by_cases eb : b = a
  ·subst eb; exact absurd q (nf _ _)
  ·rw [aj eb]; exact h
 ·obtain ⟨m, h⟩ := I.base.tbls b ps q
  exact ⟨m, by rw [aj (no b _ h (by intro _ _ z; cases z))]; exact h⟩
 ·rw [aj (na _ I.free)]; exact I.free
 ·have h := I.freeC x c ec
  rw [aj (na _ h)]; exact h
 ·obtain ⟨p1, p2, p3⟩ := I.pin p hp
  exact ⟨p1, by rw [aj (na _ p2)]; exact p2, p3⟩
 ·by_cases eb : b = a
  ·subst eb
   rw [ag] at q; cases q
   exact (show ObjOk X.prog X.w H s.heap b (.frz o u) from I.hok _ _ e).2.stay (fun _ _ _ z => z) own tup
  ·rw [aj eb] at q
   exact (I.hok b ob q).stay (fun _ _ _ z => z) own tup
def Th (H H1 : Hp) (P : Hp -> Prop) : Prop := ∃ a o u, H1 a = some (.frz o u) /\ ((H a = some u /\ isD u = true /\ P (upd H1 a u)) \/ (H a = some (.frz o u) /\ P H1))
theorem Inv.th {H1 : Hp} {s1 : Shared} {σ1 : St} {P : Hp -> Prop} (I : Inv X pins σ H s) (I1 : Inv X pins σ1 H1 s1) (h : Th H H1 P) : ∃ H2, Inv X pins σ1 H2 s1 /\ P H2 := by
 obtain ⟨a, o, u, e1, ⟨e2, hu, q⟩ | ⟨e2, q⟩⟩ := h
 ·exact ⟨_, I1.thaw e1 (fun o' u' z => by rw [I.base.frzs _ _ _ z] at e2; cases e2; cases hu), q⟩
 ·exact ⟨_, I1, q⟩
def Dx (te : TE) : TE := fun σ H Q => te σ H fun v H1 => Th H H1 (Q v)
def Dr (ts : TS) : TS := fun D σ H => ts { nx := fun σ' H1 => Th H H1 (D.nx σ'), rt := fun v H1 => Th H H1 (D.rt v), bk := fun σ' H1 => Th H H1 (D.bk σ'), ct := fun σ' H1 => Th H H1 (D.ct σ') } σ H
theorem uw {st : Stmt} {ts : TS} (h : PS X st ts) : PS X st (Dr ts) := by
 intro pins s σ H D I q
 refine thn (h pins s σ H _ I q) fun f s1 hf => ?_
 cases f with
 | next =>
  obtain ⟨σ', H', I', z⟩ := hf
  obtain ⟨H2, I2, q2⟩ := I.th I' z
  exact ⟨σ', H2, I2, q2⟩
 | brk =>
  obtain ⟨σ', H', I', z⟩ := hf
  obtain ⟨H2, I2, q2⟩ := I.th I' z
  exact ⟨σ', H2, I2, q2⟩
 | cont =>
  obtain ⟨σ', H', I', z⟩ := hf
  obtain ⟨H2, I2, q2⟩ := I.th I' z
  exact ⟨σ', H2, I2, q2⟩
 | ret u =>
  obtain ⟨v, σ', H', I', r, z⟩ := hf
  obtain ⟨H2, I2, q2⟩ := I.th I' z
  exact ⟨v, σ', H2, I2, r, q2⟩
def Itk (a : Addr) (o : Obj) (u : HO) : It :=
 ⟨fun i H => i < gN u /\ H a = some (.frz o u), fun i H x H' => H' = H /\ ∃ v, rN H u i x v, fun i H => gN u <= i /\ H a = some (.frz o u)⟩
theorem AR (I : Inv X pins σ H s) {o : Obj} {es : Array DictEntry} {ep : Nat} {u : HO} (hu : isD u = true) (hd : o.data = .dict es ep) (e : H a = some (.frz o u)) : s.heap.get? a = some o /\ es.size = gN u /\ ∀ i e, es[i]? = some e -> ∃ x v, rN H u i x v /\ RelV x e.key /\ RelV v e.val := by
 obtain ⟨ho, x⟩ := (show ObjOk X.prog X.w H s.heap a (.frz o u) from I.hok a _ e)
 obtain ⟨o', es', ep', ho', ex, hd', lo, hz, h⟩ := yA I hu x
 rw [ho] at ho'; cases ho'
 rw [hd] at hd'
 injection hd' with h2 h3
 subst h2
 exact ⟨ho, hz, h⟩
theorem zi {P : Program} {w : World} {K : PySem.W.Frag} {tg : Expr} (a it : Addr) (o : Obj) (es : Array DictEntry) (ep : Nat) (u : HO) (hu : isD u = true) (hd : o.data = .dict es ep) : wH P w K tg (Itk a o u) [it] it (fun i h => h.IsKeyIter it a i es.size ep) where
 mem := by simp
 obj := fun i h st b hb => by
  have e : b = it := by simpa using hb
  subst e
  obtain ⟨o, e, c, d⟩ := st
  exact ⟨o, e, fun v z => by rw [d] at z; cases z⟩
 keep := fun i h h' st k => st.at fun o e => k it (by simp) o e
 item := by
  intro X hP hw hK hc i pins s σ H E I hf st hg
  subst hP hw hK
  obtain ⟨hi, hq⟩ := hg
  obtain ⟨ho, hz, hen⟩ := AR I hu hd hq
  obtain ⟨f0, f1, f2, f3, f4, f5⟩ := hf it (by simp)
  have hx : es[i]? = some es[i] := by simp [show i < es.size by omega]
  obtain ⟨x, v, en, rx, rv⟩ := hen i _ hx
  refine yD st ho hd hx fun h' st' sb => ?_
  have I1 : Inv X pins σ H { s with heap := h' } := I.turned (t' := s.toks) (fun b o hb e => (sb.2 b hb).trans e) f0 f1 f3 f4 f5
  obtain ⟨oi, e, c, d⟩ := id st'
  exact ⟨_, rfl, qq (s := { s with heap := h' }) e c d (by decide) ⟨x, H, I1, rx, ⟨rfl, v, en⟩, st', fun b hb => (hf b hb).1⟩⟩
 done := by
  intro X hP hw hK hc i pins s σ H E I hf st hg
  subst hP hw hK
  obtain ⟨hi, hq⟩ := hg
  obtain ⟨ho, hz, hen⟩ := AR I hu hd hq
  obtain ⟨f0, f1, f2, f3, f4, f5⟩ := hf it (by simp)
  exact zR (I.ok.hd hc) st ho hd (by omega) fun h' eb => ⟨rfl, I.turned (t' := s.toks) (fun b o hb e => eb b o hb e) f0 f1 f3 f4 f5⟩
 self := fun _ _ _ _ _ st h => wpAny_pyIter_keyiter st h
def xB (td : TE) : TI := fun σ H R => td σ H fun x H1 => ∃ b u, x = .ref b /\ isD u = true /\ Rd H1 b u /\ ∀ o, (H1 b = some u \/ H1 b = some (.frz o u)) -> R (Itk b o u) (upd H1 b (.frz o u))
theorem uD {tg l : Expr} {td : TE} (hl : PE X l td) : PI X tg l (xB td) := by
 intro pins s σ H R I h
 refine thn (hl pins s σ H _ I h) fun v s1 ⟨x, H1, I1, rx, b, u, ex, hu, hr, q⟩ => ?_
 subst ex
 cases (show v = Value.ref b from rx)
 obtain ⟨o, es, ep, ho, ex, hd, lo, hz, hor, I2⟩ := I1.freeze hu hr
 refine yJ lo ho ex hd ?_
 refine ⟨s1.heap.objs.size, [s1.heap.objs.size], _, Itk b o u, _, rfl, I2.kept (t' := s1.toks) (fun c ob e => Heap.get?_push_of_some _ e), zi b _ o es ep u hu hd, ⟨_, Heap.get?_push_size _ rfl, rfl, rfl⟩, fun c hc => ?_, q o hor⟩
 rw [List.mem_singleton.mp hc]
 exact I2.fpOk (Nat.le_refl _) (I2.hok.fresh (Nat.le_refl _))
end
theorem FK {td : TE} {n : Nat} {g : TG} {ks : List Nat} {tt : TT} {te : TE} {σ : St} {H : Hp} {Q : VK} (h : td σ H fun x H1 => ∃ b u, x = .ref b /\ isD u = true /\ Rd H1 b u /\ ∀ o, (H1 b = some u \/ H1 b = some (.frz o u)) -> CEl (Itk b o u) n g ks tt te σ (upd H1 b (.frz o u)) fun v H2 => Th H H2 (Q v)) : Dx (gK (xB td) n g ks tt te) σ H Q := h
theorem Fn {n : Nat} {g : TG} {ks : List Nat} {tt : TT} {te : TE} {σ : St} {H1 : Hp} {Q : VK} (b : Addr) (o : Obj) (u : HO) (P : Addr -> Nat -> List V -> Hp -> Prop) (hz : gN u < sizeLine)
 (h0 : ∀ D, H1 D = none -> P D 0 [] (upd H1 D (.lst []))) (hD : ∀ D i ys H', P D i ys H' -> H' D = some (.lst ys) /\ H' b = some (.frz o u) /\ ys.length <= i)
 (hs : ∀ D i y v ys H' (zs : St) (N1 : VK) (N0 : Hp -> Prop), i < gN u -> rN H' u i y v -> P D i ys H' -> zs.length = n -> (∀ v H6, H6 D = some (.lst ys) -> P D (i + 1) (ys ++ [v]) (upd H6 D (.lst (ys ++ [v]))) -> N1 v H6) -> (∀ H6, P D (i + 1) ys H6 -> N0 H6) ->
  g y (zs ++ ks.map fun k => (σ[k]?).join) H' fun σ4 H4 => (∃ zs4 : St, zs4.length = n /\ σ4 = zs4 ++ ks.map fun k => (σ[k]?).join) /\ tt σ4 H4 fun b H5 => if b = true then te σ4 H5 N1 else N0 H5)
 (hd : ∀ D ys H', P D (gN u) ys H' -> Q (.ref D) H') : CEl (Itk b o u) n g ks tt te σ H1 Q := by
 intro D hDn
 refine ⟨fun i m ys H' => m = gN u - i /\ i <= gN u /\ P D i ys H', ⟨_, rfl, Nat.zero_le _, h0 D hDn⟩, ?_⟩
 rintro i m ys H' ⟨rfl, hi, p⟩
 obtain ⟨d1, d2, d3⟩ := hD D i ys H' p
 refine ⟨d1, ?_⟩
 rcases Nat.lt_or_ge i (gN u) with lt | ge
 ·refine .inr ⟨⟨lt, d2⟩, ?_⟩
  rintro x H3 ⟨rfl, v, hx⟩ zs hzs
  exact hs D i x v ys _ zs _ _ lt hx p hzs (fun v H6 h6 p6 => ⟨h6, by omega, _, by omega, rfl, lt, p6⟩) fun H6 p6 => ⟨_, by omega, rfl, lt, p6⟩
 ·obtain rfl : i = gN u := Nat.le_antisymm hi ge
  exact .inl ⟨⟨Nat.le_refl _, d2⟩, hd D ys H' p⟩
theorem cmK {td : TE} {ks : List Nat} {tt : TT} {te : TE} {σ : St} {H : Hp} {Q : VK} (b : Addr) (kvs : List (Key × V)) (p : V -> Bool) (f : V -> V) (hl : ∀ R : VK, R (.ref b) H -> td σ H R) (hr : Rd H b (.dK kvs)) (hz : kvs.length < sizeLine)
 (hp : ∀ x ∈ kvs.map (fun e => kV e.1), ∀ D ys o (R : Bool -> Hp -> Prop), H D = none -> D ≠ b -> R (p x) (upd (upd H b (.frz o (.dK kvs))) D (.lst ys)) -> tt (some x :: ks.map fun k => (σ[k]?).join) (upd (upd H b (.frz o (.dK kvs))) D (.lst ys)) R)
 (hf : ∀ x ∈ kvs.map (fun e => kV e.1), p x = true -> ∀ D ys o (R : VK), H D = none -> D ≠ b -> R (f x) (upd (upd H b (.frz o (.dK kvs))) D (.lst ys)) -> te (some x :: ks.map fun k => (σ[k]?).join) (upd (upd H b (.frz o (.dK kvs))) D (.lst ys)) R)
 (q : ∀ D, H D = none -> Q (.ref D) (upd H D (.lst (((kvs.map fun e => kV e.1).filter p).map f)))) : Dx (gK (xB td) 1 (iP 0) ks tt te) σ H Q := by
 have hb : ∃ u, H b = some u := by rcases hr with e | ⟨o, e⟩ <;> exact ⟨_, e⟩
 obtain ⟨u, hb⟩ := hb
 refine FK (hl _ ⟨b, .dK kvs, rfl, rfl, hr, fun o hor => Fn b o (.dK kvs) (fun D i ys G => G = upd (upd H b (.frz o (.dK kvs))) D (.lst ys) /\ H D = none /\ ys = (((kvs.map fun e => kV e.1).take i).filter p).map f) hz (fun D hD => ⟨rfl, ?_, by simp⟩) ?_ ?_ ?_⟩)
 ·have nb : D ≠ b := fun z => by rw [z, ag] at hD; cases hD
  rwa [aj nb] at hD
 ·rintro D i ys G ⟨rfl, hD, rfl⟩
  have nb : b ≠ D := au hb hD
  refine ⟨ag, (aj nb).trans ag, ?_⟩
  rw [List.length_map]
  exact Nat.le_trans (List.length_filter_le _ _) (by rw [List.length_take]; omega)
 ·rintro D i y vv ys G zs N1 N0 hi ⟨kk, hk, rfl⟩ ⟨rfl, hD, rfl⟩ hzs n1 n0
  have hy : (kvs.map fun e => kV e.1)[i]? = some (kV kk) := by rw [List.getElem?_map, hk]; rfl
  generalize kV kk = y at hy
  obtain ⟨z, rfl⟩ := ex1 hzs
  have nb : D ≠ b := Ne.symm (au hb hD)
  have my := List.mem_of_getElem? hy
  have et : (kvs.map fun e => kV e.1).take (i + 1) = (kvs.map fun e => kV e.1).take i ++ [y] := by rw [List.take_succ, hy]; rfl
  rw [et, List.filter_append] at n1 n0
  refine ⟨⟨[some y], rfl, rfl⟩, hp y my D _ o _ hD nb ?_⟩
  cases py : p y with
  | true =>
   rw [if_pos rfl]
   refine hf y my py D _ o _ hD nb (n1 _ _ ag ⟨oS, hD, ?_⟩)
   rw [List.filter_cons_of_pos py, List.map_append]; rfl
  | false =>
   rw [if_neg (by decide)]
   refine n0 _ ⟨rfl, hD, ?_⟩
   rw [List.filter_cons_of_neg (by rw [py]; decide), List.filter_nil, List.append_nil]
 ·rintro D ys G ⟨rfl, hD, rfl⟩
  rw [show gN (.dK kvs) = kvs.length from rfl, List.take_of_length_le (by rw [List.length_map]; exact Nat.le_refl _)]
  have nb : b ≠ D := au hb hD
  have q1 := q D hD
  refine ⟨b, o, .dK kvs, (aj nb).trans ag, ?_⟩
  have e1 : ∀ w z, upd (upd (upd H b w) D z) b u = upd H D z := fun w z => by
   funext c
   by_cases h1 : c = b
   ·subst h1; rw [ag, aj nb, hb]
   ·rw [aj h1]
    by_cases h2 : c = D
    ·subst h2; rw [ag, ag]
    ·rw [aj h2, aj h1, aj h2]
  rcases hor with e | e
  ·refine .inl ⟨e, rfl, ?_⟩
   rw [hb] at e; cases e
   rw [e1]; exact q1
  ·refine .inr ⟨e, ?_⟩
   rw [v5 e]; exact q1
section
variable {X : Cx} {pos : Pos}
def A1 (K : PySem.W.Frag) (n : Nat) (t : TGs) : TG := fun v σ H Q => ∃ a xs, v = .ref a /\ SqL K H a xs /\ xs.length = n /\ t xs σ H Q
theorem xX (K : PySem.W.Frag) {es : List Expr} {k : Nat} {t : TGs} {n : Nat} (hc : X.calm = true) (h : PGs X es t) (hK : X.K = K := by rfl)
 (hn : (assignEach es X.env).length = n := by rfl) (hst : (assignEach es X.env).findIdx? (·.1) = none := by rfl) : PG X (.Tuple es k pos) (A1 K n t) := by
 subst hK
 intro pins s σ H v u Q I r hw
 obtain ⟨a, xs, e1, hq, hl, hw⟩ := hw
 subst e1
 cases r
 obtain ⟨its, rv, pl, hz⟩ := I.list hq
 have hl2 := rv.length
 rw [PyProof.Rows.assign_Tuple]
 refine wpAny_bind (wpAny_standAt ?_)
 have hs : (assignEach es X.env).length = its.toArray.size := by rw [hn, List.size_toArray]; omega
 unfold unpack
 rw [hs, hst]
 refine wpAny_bind (wpAny_holding (PySem.W.kun_itemsOf (I.ok.hd hc) pl.isList fun h' hx => ?_))
 exact h pins _ σ H xs _ Q (I.kept (t' := s.toks) fun b o e => hx b o (Nat.ne_of_lt (Heap.lt_size e)) e) (by simpa using rv) hw
end
section
variable {X : Cx}
end
end L2
namespace L2
open PySem
theorem BS {td : TE} {g : TG} {tb : TS} {D : cv} {σ : St} {H : Hp} (h : td σ H fun x H1 => ∃ b u, x = .ref b /\ isD u = true /\ Rd H1 b u /\ ∀ o, (H1 b = some u \/ H1 b = some (.frz o u)) -> FE (Itk b o u) g tb { nx := fun σ' H2 => Th H H2 (D.nx σ'), rt := fun v H2 => Th H H2 (D.rt v), bk := fun σ' H2 => Th H H2 (D.bk σ'), ct := fun σ' H2 => Th H H2 (D.ct σ') } σ (upd H1 b (.frz o u))) : Dr (qK (xB td) g tb) D σ H := h
theorem Bn {b : Addr} {o : Obj} {u : HO} {g : TG} {tb : TS} {D : cv} {σ : St} {H : Hp} (Pv : Nat -> St -> Hp -> Prop) (h0 : Pv 0 σ H) (hl : ∀ i σ H, Pv i σ H -> H b = some (.frz o u))
 (hs : ∀ i x v σ H, i < gN u -> rN H u i x v -> Pv i σ H -> g x σ H fun σ2 H2 => tb { D with nx := Pv (i + 1), ct := Pv (i + 1), bk := D.nx } σ2 H2) (hd : ∀ σ H, Pv (gN u) σ H -> D.nx σ H) : FE (Itk b o u) g tb D σ H := by
 refine ⟨fun i m σ H => m = gN u - i /\ i <= gN u /\ Pv i σ H, ⟨_, rfl, Nat.zero_le _, h0⟩, ?_⟩
 rintro i m σ H ⟨rfl, hi, p⟩
 have q := hl i σ H p
 rcases Nat.lt_or_ge i (gN u) with lt | ge
 ·refine .inr ⟨⟨lt, q⟩, Pv (i + 1), fun σ' H' p' => ⟨_, by omega, rfl, lt, p'⟩, ?_⟩
  rintro y H' ⟨rfl, v, en⟩
  exact hs i y v σ _ lt en p
 ·obtain rfl : i = gN u := Nat.le_antisymm hi ge
  exact .inl ⟨⟨Nat.le_refl _, q⟩, hd σ H p⟩
end L2
namespace L2
open PySem PySem.Spec PyProof.Rows
def Tp (H : Hp) (xs : List V) (Q : VK) : Prop := ∀ p H', H' p = some (.tup xs) -> Same H H' -> (NoT H -> NoT H') -> Q (.ref p) H'
def rH : R2
 | .ref x, .ref y, H, Q => ∃ xs ys, H x = some (.tup xs) /\ H y = some (.tup ys) /\ xs.length + ys.length <= sizeLine /\ Tp H (xs ++ ys) Q
 | _, _, _, _ => False
def A0 : V -> Option Int -> Option Int -> Hp -> VK -> Prop
 | .ref x, lo, hi, H, Q => ∃ xs, H x = some (.tup xs) /\ Tp H (jX xs lo hi) Q
 | _, _, _, _, _ => False
theorem Tp.new {H : Hp} {xs : List V} {Q : VK} (h : Tp H xs Q) {p : Addr} (hp : H p = none) : Q (.ref p) (upd H p (.tup xs)) := h p _ ag (aq _ hp) fun n => az n rfl
theorem Tp.old {H : Hp} {xs : List V} {Q : VK} (h : Tp H xs Q) {p : Addr} (hp : H p = some (.tup xs)) : Q (.ref p) H := h p _ hp (fun _ _ e => e) id
section
variable {prog : Program} {w : World} {A : Around} {E : Value -> Shared -> Prop} {s : Shared}
theorem Dg {t b : Addr} {ws : List Value} {Q : Value -> Shared -> Prop} (ht : IsTup s.heap t (#[] : Array Value)) (hb : IsTup s.heap b ws.toArray) (h : Q (.ref b) s) : wpAny (model prog w) A (binaryOp .Add (.ref t) (.ref b)) Q E s := by
 obtain ⟨⟨cls, dd, data, sl⟩, ho, hc, n, hd⟩ := id ht
 obtain ⟨⟨cls2, dd2, data2, sl2⟩, ho2, hc2, n2, hd2⟩ := id hb
 simp only at hc hd hc2 hd2
 subst hc hd hc2 hd2
 exact concat_meets ⟨_, ho, rfl⟩ ⟨_, ho2, rfl⟩ noFill_tuple_add seq_tuple_add PySem.F.slot_tuple_add PySem.F.entry_tuple_add (PySem.F.args_tuple_add_2 _ _)
  (tuple_addW0 t b #[] ws.toArray n n2 dd dd2 sl sl2 rfl) ⟨ho, ho2, h⟩
theorem jZ {t sl : Addr} {items : Array Value} {vl vu : Value} {lo hi : Option Int} {Q : Value -> Shared -> Prop} (ht : IsTup s.heap t items) (hs : s.heap.IsSliceOf sl vl vu .none) (pl : IsPart vl lo) (pu : IsPart vu hi)
 (hw : HT.sIx items.size 0 lo = 0 /\ HT.sIx items.size items.size hi = items.size)
 (h : Q (.ref t) s) : wpAny (model prog w) A (getItem (.ref t) (.ref sl)) Q E s := by
 obtain ⟨os, hos, hcs, hds⟩ := id hs
 have hTs : s.TypeIs (.ref sl) "slice" := ⟨os, hos, hcs⟩
 unfold getItem
 try with_reducible refine wpAny_holding ?_
 first | refine wpAny_bind (wpAny_pure ?_) | skip
 refine wpAny_bind (wpAny_sequenceKey ht.typeIs (by decide) ?_)
 refine wpAny_bind (wpAny_callSpecial?_slot (name := Str.ofString "__getitem__") ht.typeIs PyProof.Rows.slot_tuple_getitem
  (wpAny_call_entry PyProof.Rows.slot_tuple_getitem ht.typeIs entry_tuple_getitem ?_ (args_tuple_getitem _ _)))
 show wpAny _ _ (Builtin.Tuple.tupleItemsOf (.ref t) >>= _) _ _ s
 refine wpAny_bind (tupleItemsOf_ ht ?_)
 refine wpAny_bind (wpAny_typeOf hTs ?_)
 rw [if_pos (by decide)]
 refine wpAny_bind (HT.sliceApplied_gen hs pl pu ?_)
 have hyes : (((HT.sIx items.size 0 lo : Nat) : Int) == 0 && (1 : Int) == 1 && (HT.sIx items.size items.size hi - HT.sIx items.size 0 lo) == items.size) = true := by
  rw [hw.1, hw.2]; simp
 show wpAny _ _ (if (((HT.sIx items.size 0 lo : Nat) : Int) == 0 && (1 : Int) == 1 && (HT.sIx items.size items.size hi - HT.sIx items.size 0 lo) == items.size) = true then _ else _) _ _ s
 rw [if_pos hyes]
 refine wpAny_bind (wpAny_bind (wpAny_typeOf ht.typeIs (wpAny_pure ?_)))
 rw [if_pos (by decide)]
 exact wpAny_bind (wpAny_rule (wpAny_pure ⟨_, rfl, wpAny_pure h⟩))
end
section
variable {X : Cx}
theorem fG : OpR X (binaryOp .Add) rH := by
 intro pins s σ H x y v u Q I rx ry h
 unfold rH at h; split at h
 ·rename_i x y
  obtain ⟨xs, ys, h1, h2, h3, q⟩ := h
  by_cases hx : xs = []
  ·subst hx
   cases rx; cases ry
   obtain ⟨its, r1, p1, _⟩ := I.tuple (SqT.of h1)
   obtain ⟨its2, r2, p2, _⟩ := I.tuple (SqT.of h2)
   cases r1
   exact Dg p1 p2 ⟨.ref y, H, I, rfl, q.old h2⟩
  ·exact B7 pins s σ H _ _ v u Q I rx ry ⟨_, _, xs, ys, rfl, rfl, SqT.of h1, SqT.of h2, hx, h3, fun z => by subst z; rw [List.append_nil] at q; exact q.old h1, fun _ p hp => q.new hp⟩
 ·exact h.elim
theorem eQ : SlR X A0 := by
 intro pins s σ H x v vl vu lo hi sl Q I rx hs pl pu h
 cases x with
 | ref x =>
  obtain ⟨xs, h1, q⟩ := h
  by_cases hw : HT.sIx xs.length 0 lo = 0 /\ HT.sIx xs.length xs.length hi = xs.length
  ·cases rx
   obtain ⟨its, r, ht, hz⟩ := I.tuple (SqT.of h1)
   have hlen : its.toArray.size = xs.length := by rw [List.size_toArray]; exact r.length.symm
   refine ⟨"tuple", _, PyProof.Rows.slot_tuple_getitem.lookup, ht.typeIs, jZ ht hs pl pu (by rw [hlen]; exact hw) ⟨.ref x, H, I, rfl, ?_⟩⟩
   have e : jX xs lo hi = xs := by
    unfold jX; rw [hw.1, hw.2]; simp
   rw [e] at q
   exact q.old h1
  ·exact Bh pins s σ H _ v vl vu lo hi sl Q I rx hs pl pu ⟨_, xs, rfl, SqT.of h1, hw, fun p hp => q.new hp⟩
 | _ => exact h.elim
end
end L2
set_option maxHeartbeats 4000000
namespace K3
def S (a : Int) : Int :=
 if a <= 0 then 0 else if a = 1 then 31 else if a = 2 then 59 else if a = 3 then 90 else if a = 4 then 120
 else if a = 5 then 151 else if a = 6 then 181 else if a = 7 then 212 else if a = 8 then 243 else if a = 9 then 273
 else if a = 10 then 304 else 334
def LD (y : Int) : Int := (y + 3) / 4 - (y + 99) / 100 + (y + 399) / 400
def FD (m : Int) : Int := 365 * (m / 12) + (if m % 12 > 1 then LD (m / 12 + 1) else LD (m / 12)) + S (m % 12)
def LG (y m : Int) : Int :=
 if m = 2 then (if (y % 4 = 0 /\ y % 100 ≠ 0) \/ y % 400 = 0 then 29 else 28)
 else if m = 4 \/ m = 6 \/ m = 9 \/ m = 11 then 30 else 31
theorem yE {m y a : Int} (h : m = 12 * y + a) (h0 : 0 <= a) (h1 : a < 12) :
 FD m = 365 * y + (if a > 1 then LD (y + 1) else LD y) + S a := by
 have e1 : m / 12 = y := by omega
 have e2 : m % 12 = a := by omega
 unfold FD; rw [e1, e2]
theorem q4 (y : Int) : (y + 4) / 4 = (y + 3) / 4 + if y % 4 = 0 then 1 else 0 := by split <;> omega
theorem Go (y : Int) : (y + 100) / 100 = (y + 99) / 100 + if y % 100 = 0 then 1 else 0 := by split <;> omega
theorem GG (y : Int) : (y + 400) / 400 = (y + 399) / 400 + if y % 400 = 0 then 1 else 0 := by split <;> omega
theorem yw (y : Int) : LD (y + 1) = LD y + (if (y % 4 = 0 /\ y % 100 ≠ 0) \/ y % 400 = 0 then 1 else 0) := by
 unfold LD
 rw [Int.add_assoc, Int.add_assoc, Int.add_assoc]
 show (y + 4) / 4 - (y + 100) / 100 + (y + 400) / 400 = _
 rw [q4, Go, GG]
 generalize (y + 3) / 4 = A
 generalize (y + 99) / 100 = B
 generalize (y + 399) / 400 = C
 by_cases a : y % 400 = 0
 ·have b : y % 100 = 0 := by omega
  have c : y % 4 = 0 := by clear b; omega
  rw [if_pos a, if_pos b, if_pos c, if_pos (.inr a)]
  clear a b c; omega
 ·by_cases b : y % 100 = 0
  ·have c : y % 4 = 0 := by clear a; omega
   rw [if_neg a, if_pos b, if_pos c, if_neg (fun z => z.elim (fun w => w.2 b) a)]
   clear a b c; omega
  ·by_cases c : y % 4 = 0
   ·rw [if_neg a, if_neg b, if_pos c, if_pos (.inl ⟨c, b⟩)]
    clear a b c; omega
   ·rw [if_neg a, if_neg b, if_neg c, if_neg (fun z => z.elim (fun w => c w.1) a)]
    clear a b c; omega
theorem EG : ∀ a : Nat, a < 11 -> a ≠ 1 -> S (a + 1) = S a + LG 1 (1 + a) := by decide
theorem AY (y z m : Int) (h : m ≠ 2) : LG y m = LG z m := by unfold LG; rw [if_neg h, if_neg h]
theorem Ad (y : Int) : LG (2000 + y) 2 = 28 + (LD (y + 1) - LD y) := by
 have h : (((2000 + y) % 4 = 0 /\ (2000 + y) % 100 ≠ 0) \/ (2000 + y) % 400 = 0) ↔ ((y % 4 = 0 /\ y % 100 ≠ 0) \/ y % 400 = 0) := by
  have e (k : Int) (d : 2000 = k * (2000 / k)) : (2000 + y) % k = y % k := by rw [Int.add_comm, d, Int.add_mul_emod_self_left]
  rw [e 4 rfl, e 100 rfl, e 400 rfl]
 rw [yw, LG, if_pos rfl]
 by_cases c : (y % 4 = 0 /\ y % 100 ≠ 0) \/ y % 400 = 0
 ·rw [if_pos c, if_pos (h.mpr c)]; omega
 ·rw [if_neg c, if_neg (fun q => c (h.mp q))]; omega
theorem yt (m : Int) : FD (m + 1) = FD m + LG (2000 + m / 12) (1 + m % 12) := by
 have b0 : 0 <= m % 12 := Int.emod_nonneg _ (by decide)
 have b1 : m % 12 < 12 := Int.emod_lt_of_pos _ (by decide)
 have e : m = 12 * (m / 12) + m % 12 := (Int.mul_ediv_add_emod m 12).symm
 have a1 := yE e b0 b1
 generalize m / 12 = y at *
 generalize m % 12 = z at *
 obtain ⟨a, rfl⟩ := Int.eq_ofNat_of_zero_le b0
 by_cases c : a = 11
 ·subst c
  rw [a1, yE (m := m + 1) (y := y + 1) (a := 0) (by omega) (by decide) (by decide)]
  show _ + LD (y + 1) + 0 = _ + LD (y + 1) + 334 + 31
  omega
 ·have a2 := yE (m := m + 1) (y := y) (a := a + 1) (by omega) (by omega) (by omega)
  by_cases c1 : a = 1
  ·subst c1
   rw [a1, a2]
   show _ + LD (y + 1) + 59 = _ + LD y + 31 + LG (2000 + y) 2
   rw [Ad]; omega
  ·have s := EG a (by omega) c1
   rw [a1, a2, AY _ 1 _ (by omega), s]
   by_cases c2 : a = 0
   ·subst c2; exact (Int.add_assoc _ _ _).symm
   ·rw [if_pos (by omega), if_pos (by omega)]; omega
theorem FU (y m : Int) : 28 <= LG y m /\ LG y m <= 31 := by
 unfold LG; repeat' split
 all_goals omega
theorem Ge (m : Int) : FD m + 28 <= FD (m + 1) /\ FD (m + 1) <= FD m + 31 := by
 have h := yt m
 have g := FU (2000 + m / 12) (1 + m % 12)
 omega
theorem wl (m : Int) (k : Nat) : FD m + 28 * k <= FD (m + k) := by
 induction k with
 | zero => simp
 | succ k ih =>
  have h := Ge (m + k)
  have e : m + ((k + 1 : Nat) : Int) = m + k + 1 := by omega
  rw [e]; omega
theorem Cn {m n : Int} (h : m <= n) : FD m + 28 * (n - m) <= FD n := by
 have g := wl m (n - m).toNat
 have e : m + ((n - m).toNat : Int) = n := by omega
 rw [e] at g; omega
def R10 : List Int := [31, 30, 31, 30, 31, 31, 30, 31, 30, 31]
theorem Cg : ∀ a : Nat, a < 10 -> (R10.take a).sum + 59 = S ((a : Int) + 2) := by decide
theorem Et : ∀ a : Nat, a < 10 -> R10.getD a 0 = LG 1 (1 + ((a : Int) + 2)) := by decide
theorem FJ (m : Int) : 365 * (m / 12) + LD (m / 12) + ((31 :: (28 + (LD (m / 12 + 1) - LD (m / 12))) :: R10).take (m % 12).toNat).sum = FD m := by
 have b0 : 0 <= m % 12 := Int.emod_nonneg _ (by decide)
 have b1 : m % 12 < 12 := Int.emod_lt_of_pos _ (by decide)
 have a1 := yE (Int.mul_ediv_add_emod m 12).symm b0 b1
 generalize m / 12 = y at *
 generalize m % 12 = z at *
 obtain ⟨a, rfl⟩ := Int.eq_ofNat_of_zero_le b0
 rw [a1]
 match a, b1 with
 | 0, _ => rfl
 | 1, _ => rfl
 | a + 2, b1 =>
  have s := Cg a (by omega)
  rw [if_pos (by omega)]
  show _ + _ + (31 + (_ + (R10.take a).sum)) = _ + S ((a : Int) + 2)
  rw [<- s]; omega
theorem Gs (m : Int) : (31 :: (28 + (LD (m / 12 + 1) - LD (m / 12))) :: R10).getD (m % 12).toNat 0 = LG (2000 + m / 12) (1 + m % 12) := by
 have b0 : 0 <= m % 12 := Int.emod_nonneg _ (by decide)
 have b1 : m % 12 < 12 := Int.emod_lt_of_pos _ (by decide)
 generalize m / 12 = y at *
 generalize m % 12 = z at *
 obtain ⟨a, rfl⟩ := Int.eq_ofNat_of_zero_le b0
 match a, b1 with
 | 0, _ => rfl
 | 1, _ => exact (Ad y).symm
 | a + 2, b1 =>
  rw [AY _ 1 _ (by omega)]
  exact Et a (by omega)
end K3
namespace K22
open PySem L2 K19
theorem pB {t : Int} {N : Nat} : ∀ {bs : List Bk}, (∀ b ∈ bs, b.rs.length <= N) -> (rsd t bs).length <= N * bs.length
 | [], _ => Nat.le_refl _
 | b :: r, h => by
  have ih := pB (t := t) (bs := r) fun x m => h x (.tail _ m)
  have hb := h b (.head _)
  unfold rsd at ih ⊢
  rw [List.flatMap_cons, List.length_append, List.length_cons, Nat.mul_add, Nat.mul_one]
  split
  ·omega
  ·rw [List.length_nil]; omega
def sm (rs : List Row) (k : Pt) : Int := match rs with
 | [] => 0
 | r :: q => (if (r.pa, r.cu) = k then r.am else 0) + sm q k
theorem Dd {rs : List Row} {out : List Pt} {r : Row} (h : r ∈ res rs out) : (r.pa, r.cu) ∈ out /\ r.am = val rs (r.pa, r.cu) /\ r.am ≠ 0 := by
 unfold res at h
 obtain ⟨k, mk, rfl⟩ := List.mem_map.mp h
 obtain ⟨m1, m2⟩ := List.mem_filter.mp mk
 exact ⟨m1, rfl, of_decide_eq_true m2⟩
theorem ceA {K : PySem.W.Frag} {β γ : Type} {n : Nat} {g : TG} {ks : List Nat} {tt : TT} {te : TE} {σ : St} {H : Hp} {Q : VK} {S : Hp -> V -> γ -> Prop} (hS : ∀ (G G' : Hp) (v : V) (c : γ), (∀ t l, G t = some (.tup l) -> G' t = some (.tup l)) -> S G v c -> S G' v c)
 (a : Addr) (vs : List V) (R : List β) (Rel : V -> β -> Prop) (p : β -> Bool) (f : β -> γ) (ha : H a = some (.lst vs)) (hN : NoT H) (hR : A2 Rel vs R) (hz : vs.length < sizeLine)
 (hs : ∀ v b, b ∈ R -> Rel v b -> ∀ G (zs : St) (N1 : VK) (N0 : Hp -> Prop), Same H G -> NoT G -> zs.length = n -> (p b = true -> ∀ u G', Same G G' -> NoT G' -> S G' u (f b) -> N1 u G') -> (p b = false -> ∀ G', Same G G' -> NoT G' -> N0 G') ->
  g v (zs ++ ks.map fun k => (σ[k]?).join) G fun σ4 H4 => (∃ zs4 : St, zs4.length = n /\ σ4 = zs4 ++ ks.map fun k => (σ[k]?).join) /\ tt σ4 H4 fun b H5 => if b = true then te σ4 H5 N1 else N0 H5)
 (q : ∀ D ws G, H D = none -> Same H G -> NoT G -> G D = some (.lst ws) -> A2 (S G) ws ((R.filter p).map f) -> Q (.ref D) G) : CEl (Itl K a) n g ks tt te σ H Q := by
 refine yf a vs (fun D i ys G => H D = none /\ Same H G /\ NoT G /\ G D = some (.lst ys) /\ ys.length <= i /\ A2 (S G) ys (((R.take i).filter p).map f)) hz ?_ ?_ ?_ ?_
 ·exact fun D hD => ⟨hD, aq _ hD, az hN rfl, ag, Nat.le_refl _, .nil⟩
 ·rintro D i ys G ⟨hD, sm, _, gd, ly, _⟩
  exact ⟨gd, SqL.of (sm _ _ ha), ly⟩
 ·rintro D i y ys G zs N1 N0 hy ⟨hD, sm, nG, gd, ly, A⟩ hzs n1 n0
  obtain ⟨b, hb, rb⟩ := hR.at_ hy
  have mb := List.mem_of_getElem? hb
  have et : R.take (i + 1) = R.take i ++ [b] := by rw [List.take_succ, hb]; rfl
  rw [et, List.filter_append, List.map_append] at n1 n0
  refine hs y b mb rb G zs N1 N0 sm nG hzs (fun pb u G' s' nG' hu => ?_) fun pb G' s' nG' => n0 G' ⟨hD, sm.trans s', nG', s' _ _ gd, Nat.le_succ_of_le ly, ?_⟩
  ·have gd' := s' _ _ gd
   have kt : ∀ t l, G' t = some (.tup l) -> upd G' D (.lst (ys ++ [u])) t = some (.tup l) := fun t l e => by
    rw [aj fun z => by rw [z, gd'] at e; cases e]; exact e
   refine n1 _ _ gd' ⟨hD, fun c o e => ?_, az nG' rfl, ag, by rw [List.length_append]; exact Nat.succ_le_succ ly, ?_⟩
   ·rw [aj (au e hD)]; exact s' _ _ (sm _ _ e)
   ·rw [List.filter_cons_of_pos pb, List.filter_nil]
    exact (A.imp fun _ _ _ _ h => hS _ _ _ _ kt (hS _ _ _ _ (fun t l e => s' _ _ e) h)).snoc (hS _ _ _ _ kt hu)
  ·rw [List.filter_cons_of_neg (by rw [pb]; decide), List.filter_nil, List.map_nil, List.append_nil]
   exact A.imp fun _ _ _ _ h => hS _ _ _ _ (fun t l e => s' _ _ e) h
 ·rintro D ys G ⟨hD, sm, nG, gd, _, A⟩
  rw [hR.len, List.take_length] at A
  exact q D ys G hD sm nG gd A
end K22
set_option maxHeartbeats 400000
namespace K21
open PySem L2
structure Adr where
 ke : Addr
 nE : FuncData
 lg : Addr
 nv : FuncData
 jC : Addr
 lC : FuncData
 nq : Addr
 pW : FuncData
 p_ : Addr
 r_ : FuncData
 kF : Addr
 nI : FuncData
 jF : Addr
 lQ : FuncData
 jk : Addr
 lY : FuncData
 lj : Addr
 nK : FuncData
 gR : Addr
 i9 : FuncData
 nk : Addr
 oZ : FuncData
 jG : Addr
 mw : FuncData
 mU : Addr
 pR : FuncData
 kH : Addr
 nY : FuncData
 tN : Addr
 vX : FuncData
 m5 : Addr
 qd : FuncData
 eK : Addr
 gn : FuncData
 lm : Addr
 og : FuncData
 wE : Addr
 xR : FuncData
 uv : Addr
 wn : FuncData
 fK : Addr
 iL : FuncData
 im : Addr
 j8 : FuncData
 ij : Addr
 j4 : FuncData
 d_ : Addr
 fL : FuncData
 ir : Addr
 j_ : FuncData
 f_ : Addr
 iO : FuncData
 eg : Addr
 fT : FuncData
 iC : Addr
 j2 : FuncData
 jA : Addr
 mI : FuncData
 kf : Addr
 nB : FuncData
 bj : Addr
 ie : FuncData
 fH : Addr
 j1 : FuncData
 fM : Addr
 iW : FuncData
 fU : Addr
 iN : FuncData
 fc : Addr
 gU : FuncData
 gl : Addr
 iM : FuncData
 km : Addr
 nQ : FuncData
 bh : Addr
 jn : FuncData
 bX : Addr
 mM : FuncData
 dq : Addr
 BP : FuncData
 de : Addr
 gv : FuncData
 jg : Addr
 lI : FuncData
 gO : Addr
 jj : FuncData
 cA : Addr
 fB : FuncData
 dh : Addr
 eY : FuncData
 cG : Addr
 d4 : FuncData
 da : Addr
 gt : FuncData
 ft : Addr
 ic : FuncData
 gF : Addr
 lN : FuncData
 iy : Addr
 j6 : FuncData
 i6 : Addr
 mL : FuncData
 fj : Addr
 h_ : FuncData
 iT : Addr
 nj : FuncData
 cJ : Addr
 fz : FuncData
 gS : Addr
 i4 : FuncData
 ja : Addr
 om : FuncData
 gz : Addr
 kh : FuncData
 e9 : Addr
 hU : FuncData
 lR : Addr
 sK : Addr
 vA : Addr
 b8 : Addr
 j9 : Addr
 sL : Addr
 rM : Addr
 jh : Addr
 xF : Addr
 rP : Addr
 pG : Addr
 n8 : Addr
 m7 : Addr
 cf : Addr
 aT : Addr
 bA : Addr
 aR : Addr
 dW : Addr
 lB : Addr
structure Txt (K : PySem.W.Frag) (mg : Str -> Option Value) (a : Adr) : Prop where
 lh : Fun K "is_whole" "is_whole" dO a.ke a.nE
 xj : mg "is_whole" = some (.ref a.ke)
 fV : Fun K "is_among" "is_among" dU a.lg a.nv
 qC : mg "is_among" = some (.ref a.lg)
 eX : Fun K "signs_lie" "signs_lie" cS a.jC a.lC
 nW : mg "signs_lie" = some (.ref a.jC)
 gY : Fun K "is_name" "is_name" eE a.nq a.pW
 rE : mg "is_name" = some (.ref a.nq)
 jm : Fun K "is_day" "is_day" gf a.p_ a.r_
 vJ : mg "is_day" = some (.ref a.p_)
 fN : Fun K "is_month" "is_month" dQ a.kF a.nI
 px : mg "is_month" = some (.ref a.kF)
 gw : Fun K "leap_days" "leap_days" cP a.jF a.lQ
 nJ : mg "leap_days" = some (.ref a.jF)
 je : Fun K "first_day" "first_day" cZ a.jk a.lY
 vH : mg "first_day" = some (.ref a.jk)
 lq : Fun K "last_day" "last_day" dJ a.lj a.nK
 xy : mg "last_day" = some (.ref a.lj)
 gJ : Fun K "is_currency" "is_currency" b7 a.gR a.i9
 rf : mg "is_currency" = some (.ref a.gR)
 mW : Fun K "sums_of" "sums_of" eL a.nk a.oZ
 zD : mg "sums_of" = some (.ref a.nk)
 jr : Fun K "are_names" "are_names" cR a.jG a.mw
 vj : mg "are_names" = some (.ref a.jG)
 ia : Fun K "is_path" "is_path" eM a.mU a.pR
 rV : mg "is_path" = some (.ref a.mU)
 ku : Fun K "names_of" "names_of" dS a.kH a.nY
 wL : mg "names_of" = some (.ref a.kH)
 tK : Fun K "above" "above" iD a.tN a.vX
 Co : mg "above" = some (.ref a.tN)
 nh : Fun K "rows_of" "rows_of" eO a.m5 a.qd
 y_ : mg "rows_of" = some (.ref a.m5)
 cq : Fun K "bookings_up_to" "bookings_up_to" bC a.eK a.gn
 ib : mg "bookings_up_to" = some (.ref a.eK)
 kj : Fun K "balances" "balances" dH a.lm a.og
 xx : mg "balances" = some (.ref a.lm)
 iF : Fun K "seal" "seal" kX a.wE a.xR
 sY : mg "seal" = some (.ref a.wE)
 ik : Fun K "holds" "holds" iB a.uv a.wn
 oM : mg "holds" = some (.ref a.uv)
 aE : Fun K "_law_cell_at" "_law_cell_at" bS a.fK a.iL
 aU : mg "_law_cell_at" = some (.ref a.fK)
 d6 : Fun K "_law_whole" "_law_whole" cH a.im a.j8
 il : mg "_law_whole" = some (.ref a.im)
 ii : Fun K "_law_names" "_law_names" cC a.ij a.j4
 tU : mg "_law_names" = some (.ref a.ij)
 b5 : Fun K "_law_currencies" "_law_currencies" bw a.d_ a.fL
 gG : mg "_law_currencies" = some (.ref a.d_)
 bx : Fun K "_law_start" "_law_start" cB a.ir a.j_
 c_ : mg "_law_start" = some (.ref a.ir)
 gg : Fun K "_law_lengths" "_law_lengths" bQ a.f_ a.iO
 qF : mg "_law_lengths" = some (.ref a.f_)
 bt : Fun K "_law_month_ends" "_law_month_ends" br a.eg a.fT
 d7 : mg "_law_month_ends" = some (.ref a.eg)
 iH : Fun K "_law_month" "_law_month" cE a.iC a.j2
 sV : mg "_law_month" = some (.ref a.iC)
 cO : Fun K "_law_base" "_law_base" c5 a.jA a.mI
 jc : mg "_law_base" = some (.ref a.jA)
 fO : Fun K "_law_day" "_law_day" dN a.kf a.nB
 pz : mg "_law_day" = some (.ref a.kf)
 fh : Fun K "_law_accounts" "_law_accounts" aP a.bj a.ie
 oF : mg "_law_accounts" = some (.ref a.bj)
 iw : Fun K "_law_chart" "_law_chart" bM a.fH a.j1
 tO : mg "_law_chart" = some (.ref a.fH)
 fP : Fun K "_law_is_open" "_law_is_open" bN a.fM a.iW
 pJ : mg "_law_is_open" = some (.ref a.fM)
 cX : Fun K "_law_rows_by" "_law_rows_by" bR a.fU a.iN
 jz : mg "_law_rows_by" = some (.ref a.fU)
 e7 : Fun K "_law_balances" "_law_balances" bJ a.fc a.gU
 oE : mg "_law_balances" = some (.ref a.fc)
 gb : Fun K "_law_refused" "_law_refused" bP a.gl a.iM
 o8 : mg "_law_refused" = some (.ref a.gl)
 dL : Fun K "_law_due" "_law_due" dF a.km a.nQ
 k6 : mg "_law_due" = some (.ref a.km)
 gQ : Fun K "_law_spoilt" "_law_spoilt" aN a.bh a.jn
 qY : mg "_law_spoilt" = some (.ref a.bh)
 jH : Fun K "_law_kept" "_law_kept" a6 a.bX a.mM
 vM : mg "_law_kept" = some (.ref a.bX)
 FO : Fun K "law" "law" bE a.dq a.BP
 GN : mg "law" = some (.ref a.dq)
 gZ : Fun K "__init__" "Seals.__init__" bD a.de a.gv
 yk : gP K a.cf "__init__" a.de
 jf : Fun K "put" "Seals.put" c8 a.jg a.lI
 mG : gP K a.cf "put" a.jg
 eT : Fun K "every" "Seals.every" ce a.gO a.jj
 c3 : gP K a.cf "every" a.gO
 dE : Fun K "__init__" "Account.__init__" bq a.cA a.fB
 wz : gP K a.aT "__init__" a.cA
 fF : Fun K "stands_on" "Account.stands_on" bg a.dh a.eY
 jE : gP K a.aT "stands_on" a.dh
 d9 : Fun K "stands_later" "Account.stands_later" aX a.cG a.d4
 g7 : gP K a.aT "stands_later" a.cG
 gW : Fun K "__init__" "Chart.__init__" bB a.da a.gt
 ya : gP K a.bA "__init__" a.da
 iJ : Fun K "add_top" "Chart.add_top" bK a.ft a.ic
 m9 : gP K a.bA "add_top" a.ft
 nz : Fun K "add" "Chart.add" bW a.gF a.lN
 sQ : gP K a.bA "add" a.gF
 mj : Fun K "shut" "Chart.shut" cw a.iy a.j6
 rp : gP K a.bA "shut" a.iy
 nN : Fun K "has" "Chart.has" cU a.i6 a.mL
 ud : gP K a.bA "has" a.i6
 fo : Fun K "account" "Chart.account" bL a.fj a.h_
 hG : gP K a.bA "account" a.fj
 zP : Fun K "beneath" "Chart.beneath" cL a.iT a.nj
 zu : gP K a.bA "beneath" a.iT
 fW : Fun K "__init__" "Journal.__init__" bp a.cJ a.fz
 wy : gP K a.aR "__init__" a.cJ
 gL : Fun K "put" "Journal.put" b_ a.gS a.i4
 i5 : gP K a.aR "put" a.gS
 AJ : Fun K "many" "Journal.many" cY a.ja a.om
 zO : gP K a.aR "many" a.ja
 xC : Fun K "booking" "Journal.booking" b6 a.gz a.kh
 xu : gP K a.aR "booking" a.gz
 dv : Fun K "every" "Journal.every" bI a.e9 a.hU
 eF : gP K a.aR "every" a.e9
 uG : mg "HouseError" = some (.ref a.lR)
 zB : mg "BadName" = some (.ref a.sK)
 uV : mg "BadDay" = some (.ref a.vA)
 qE : mg "BadMonth" = some (.ref a.b8)
 ra : mg "BadCurrency" = some (.ref a.j9)
 mV : mg "BadPath" = some (.ref a.sL)
 yX : mg "BadKind" = some (.ref a.rM)
 v8 : mg "NoAccount" = some (.ref a.jh)
 xL : mg "Twice" = some (.ref a.xF)
 sf : mg "NotOpen" = some (.ref a.rP)
 w4 : mg "HasBelow" = some (.ref a.pG)
 DE : mg "NoBooking" = some (.ref a.n8)
 zz : mg "NotNext" = some (.ref a.m7)
 xN : mg "Seals" = some (.ref a.cf)
 si : mg "Account" = some (.ref a.aT)
 Cq : mg "Chart" = some (.ref a.bA)
 zE : mg "Journal" = some (.ref a.aR)
 dm : Cls K a.cf
 dM : NoAttr K a.cf "told_seals"
 we : Mk K a.cf a.de
 a_ : Cls K a.aT
 jw : NoAttr K a.aT "kind"
 kQ : NoAttr K a.aT "currency"
 fm : NoAttr K a.aT "first"
 bU : NoAttr K a.aT "until"
 fq : NoAttr K a.aT "below"
 qG : Mk K a.aT a.cA
 cp : Cls K a.bA
 bH : NoAttr K a.bA "by_path"
 BN : Mk K a.bA a.da
 b9 : Cls K a.aR
 cI : NoAttr K a.aR "bookings"
 ko : NoAttr K a.aR "undoings"
 wV : Mk K a.aR a.cJ
 qV : PySem.W.excIn K a.j9 [.type "ValueError", .type "Exception", .type "BaseException", .type "object"] "ValueError.__new__" = true
 vn : PySem.W.excIn K a.vA [.type "ValueError", .type "Exception", .type "BaseException", .type "object"] "ValueError.__new__" = true
 zF : PySem.W.excIn K a.rM [.type "ValueError", .type "Exception", .type "BaseException", .type "object"] "ValueError.__new__" = true
 wW : PySem.W.excIn K a.b8 [.type "ValueError", .type "Exception", .type "BaseException", .type "object"] "ValueError.__new__" = true
 k_ : gH K a.b8
 iX : PySem.W.exmOne K (.ref a.b8) (.ref a.lR) = some true
 jV : PySem.W.kitOne K (.ref a.b8) (.ref a.b8) = some true
 kJ : PySem.W.kitOne K (.ref a.b8) (.ref a.m7) = some false
 iY : PySem.W.kitOne K (.ref a.b8) (.type "ValueError") = some true
 zq : PySem.W.excIn K a.sK [.type "ValueError", .type "Exception", .type "BaseException", .type "object"] "ValueError.__new__" = true
 mP : PySem.W.excIn K a.sL [.type "ValueError", .type "Exception", .type "BaseException", .type "object"] "ValueError.__new__" = true
 xb : PySem.W.excIn K a.pG [.type "ValueError", .type "Exception", .type "BaseException", .type "object"] "ValueError.__new__" = true
 vd : PySem.W.excIn K a.jh [.type "ValueError", .type "Exception", .type "BaseException", .type "object"] "ValueError.__new__" = true
 DA : PySem.W.excIn K a.n8 [.type "ValueError", .type "Exception", .type "BaseException", .type "object"] "ValueError.__new__" = true
 sw : PySem.W.excIn K a.rP [.type "ValueError", .type "Exception", .type "BaseException", .type "object"] "ValueError.__new__" = true
 xH : PySem.W.excIn K a.xF [.type "ValueError", .type "Exception", .type "BaseException", .type "object"] "ValueError.__new__" = true
 zg : mg "LENGTHS" = some (.ref a.dW)
 dW : ∃ (o : Obj) (its : Array Value) (n : Nat), K.lookup a.dW = some o /\ o.cls = .type "tuple" /\ o.data = .seq its n /\ its.size <= sizeLine /\ Vals (([31, 28, 31, 30, 31, 30, 31, 31, 30, 31, 30, 31] : List Int).map V.int) its.toList
 CQ : mg "KINDS" = some (.ref a.lB)
 lB : ∃ (o : Obj) (its : Array Value) (n : Nat), K.lookup a.lB = some o /\ o.cls = .type "tuple" /\ o.data = .seq its n /\ its.size <= sizeLine /\ Vals (([[104, 97, 118, 101], [111, 119, 101], [111, 119, 110], [103, 97, 105, 110], [99, 111, 115, 116]] : List (List Nat)).map T) its.toList
 uh : mg "ValueError" = none
 BJ : mg "all" = none
 Gg : mg "any" = none
 wU : mg "bool" = none
 vC : mg "enumerate" = none
 A5 : mg "int" = none
 a8 : mg "isinstance" = none
 fJ : mg "len" = none
 AK : mg "list" = none
 xP : mg "max" = none
 Dm : mg "min" = none
 jS : mg "range" = none
 vx : mg "sorted" = none
 xV : mg "str" = none
 Dl : mg "sum" = none
 mD : mg "tuple" = none
theorem q_ : bootBuiltins "ValueError" = some (.type "ValueError") := by decide +kernel
theorem xq : bootBuiltins "all" = some (.builtin "all") := by decide +kernel
theorem Eu : bootBuiltins "any" = some (.builtin "any") := by decide +kernel
theorem tH : bootBuiltins "bool" = some (.type "bool") := by decide +kernel
theorem wO : bootBuiltins "int" = some (.type "int") := by decide +kernel
theorem aW : bootBuiltins "isinstance" = some (.builtin "isinstance") := by decide +kernel
theorem dR : bootBuiltins "len" = some (.builtin "len") := by decide +kernel
theorem xG : bootBuiltins "list" = some (.type "list") := by decide +kernel
theorem tZ : bootBuiltins "max" = some (.builtin "max") := by decide +kernel
theorem By : bootBuiltins "min" = some (.builtin "min") := by decide +kernel
theorem r8 : bootBuiltins "sorted" = some (.builtin "sorted") := by decide +kernel
theorem ur : bootBuiltins "str" = some (.type "str") := by decide +kernel
theorem Ao : bootBuiltins "sum" = some (.builtin "sum") := by decide +kernel
theorem jq : bootBuiltins "tuple" = some (.type "tuple") := by decide +kernel
theorem u1 : aF ["thing"] ["thing"] (ad dO) := ⟨rfl, rfl, rfl, by decide +kernel, rfl, by decide +kernel, by decide +kernel⟩
theorem uO {K : PySem.W.Frag} {f : Addr} {fd : FuncData} (F : Fun K "is_whole" "is_whole" dO f fd) : Binds K fd ["thing"] [] := F.binds (ps := ["thing"]) fun _ _ _ _ _ _ us hl => by obtain ⟨_, rfl⟩ := ex1 hl; rfl
theorem vh : aF ["thing", "least", "most"] ["thing", "least", "most"] (ad dU) := ⟨rfl, rfl, rfl, by decide +kernel, rfl, by decide +kernel, by decide +kernel⟩
theorem n9 {K : PySem.W.Frag} {f : Addr} {fd : FuncData} (F : Fun K "is_among" "is_among" dU f fd) : Binds K fd ["thing", "least", "most"] [] := F.binds (ps := ["thing", "least", "most"]) fun _ _ _ _ _ _ us hl => by obtain ⟨_, _, _, rfl⟩ := ex3 hl; rfl
theorem sU : aF ["text", "least", "most"] ["text", "least", "most"] (ad cS) := ⟨rfl, rfl, rfl, by decide +kernel, rfl, by decide +kernel, by decide +kernel⟩
theorem mt {K : PySem.W.Frag} {f : Addr} {fd : FuncData} (F : Fun K "signs_lie" "signs_lie" cS f fd) : Binds K fd ["text", "least", "most"] [] := F.binds (ps := ["text", "least", "most"]) fun _ _ _ _ _ _ us hl => by obtain ⟨_, _, _, rfl⟩ := ex3 hl; rfl
theorem wY : aF ["thing"] ["thing"] (ad eE) := ⟨rfl, rfl, rfl, by decide +kernel, rfl, by decide +kernel, by decide +kernel⟩
theorem qh {K : PySem.W.Frag} {f : Addr} {fd : FuncData} (F : Fun K "is_name" "is_name" eE f fd) : Binds K fd ["thing"] [] := F.binds (ps := ["thing"]) fun _ _ _ _ _ _ us hl => by obtain ⟨_, rfl⟩ := ex1 hl; rfl
theorem zw : aF ["thing"] ["thing"] (ad gf) := ⟨rfl, rfl, rfl, by decide +kernel, rfl, by decide +kernel, by decide +kernel⟩
theorem rQ {K : PySem.W.Frag} {f : Addr} {fd : FuncData} (F : Fun K "is_day" "is_day" gf f fd) : Binds K fd ["thing"] [] := F.binds (ps := ["thing"]) fun _ _ _ _ _ _ us hl => by obtain ⟨_, rfl⟩ := ex1 hl; rfl
theorem vW : aF ["thing"] ["thing"] (ad dQ) := ⟨rfl, rfl, rfl, by decide +kernel, rfl, by decide +kernel, by decide +kernel⟩
theorem nV {K : PySem.W.Frag} {f : Addr} {fd : FuncData} (F : Fun K "is_month" "is_month" dQ f fd) : Binds K fd ["thing"] [] := F.binds (ps := ["thing"]) fun _ _ _ _ _ _ us hl => by obtain ⟨_, rfl⟩ := ex1 hl; rfl
theorem ua : aF ["years"] ["years"] (ad cP) := ⟨rfl, rfl, rfl, by decide +kernel, rfl, by decide +kernel, by decide +kernel⟩
theorem s_ {K : PySem.W.Frag} {f : Addr} {fd : FuncData} (F : Fun K "leap_days" "leap_days" cP f fd) : Binds K fd ["years"] [] := F.binds (ps := ["years"]) fun _ _ _ _ _ _ us hl => by obtain ⟨_, rfl⟩ := ex1 hl; rfl
theorem lF : aF ["month", "years", "ahead", "leaps"] ["month"] (ad cZ) := ⟨rfl, rfl, rfl, by decide +kernel, rfl, by decide +kernel, by decide +kernel⟩
theorem tw {K : PySem.W.Frag} {f : Addr} {fd : FuncData} (F : Fun K "first_day" "first_day" cZ f fd) : Binds K fd ["month"] [] := F.binds (ps := ["month"]) fun _ _ _ _ _ _ us hl => by obtain ⟨_, rfl⟩ := ex1 hl; rfl
theorem u_ : aF ["month"] ["month"] (ad dJ) := ⟨rfl, rfl, rfl, by decide +kernel, rfl, by decide +kernel, by decide +kernel⟩
theorem vy {K : PySem.W.Frag} {f : Addr} {fd : FuncData} (F : Fun K "last_day" "last_day" dJ f fd) : Binds K fd ["month"] [] := F.binds (ps := ["month"]) fun _ _ _ _ _ _ us hl => by obtain ⟨_, rfl⟩ := ex1 hl; rfl
theorem qm : aF ["thing"] ["thing"] (ad b7) := ⟨rfl, rfl, rfl, by decide +kernel, rfl, by decide +kernel, by decide +kernel⟩
theorem pI {K : PySem.W.Frag} {f : Addr} {fd : FuncData} (F : Fun K "is_currency" "is_currency" b7 f fd) : Binds K fd ["thing"] [] := F.binds (ps := ["thing"]) fun _ _ _ _ _ _ us hl => by obtain ⟨_, rfl⟩ := ex1 hl; rfl
theorem qc : aF ["rows", "together", "path", "currency", "amount"] ["rows"] (ad eL) := ⟨rfl, rfl, rfl, by decide +kernel, rfl, by decide +kernel, by decide +kernel⟩
theorem xn {K : PySem.W.Frag} {f : Addr} {fd : FuncData} (F : Fun K "sums_of" "sums_of" eL f fd) : Binds K fd ["rows"] [] := F.binds (ps := ["rows"]) fun _ _ _ _ _ _ us hl => by obtain ⟨_, rfl⟩ := ex1 hl; rfl
theorem tq : aF ["names"] ["names"] (ad cR) := ⟨rfl, rfl, rfl, by decide +kernel, rfl, by decide +kernel, by decide +kernel⟩
theorem tR {K : PySem.W.Frag} {f : Addr} {fd : FuncData} (F : Fun K "are_names" "are_names" cR f fd) : Binds K fd ["names"] [] := F.binds (ps := ["names"]) fun _ _ _ _ _ _ us hl => by obtain ⟨_, rfl⟩ := ex1 hl; rfl
theorem wK : aF ["thing"] ["thing"] (ad eM) := ⟨rfl, rfl, rfl, by decide +kernel, rfl, by decide +kernel, by decide +kernel⟩
theorem qz {K : PySem.W.Frag} {f : Addr} {fd : FuncData} (F : Fun K "is_path" "is_path" eM f fd) : Binds K fd ["thing"] [] := F.binds (ps := ["thing"]) fun _ _ _ _ _ _ us hl => by obtain ⟨_, rfl⟩ := ex1 hl; rfl
theorem v9 : aF ["path"] ["path"] (ad dS) := ⟨rfl, rfl, rfl, by decide +kernel, rfl, by decide +kernel, by decide +kernel⟩
theorem vU {K : PySem.W.Frag} {f : Addr} {fd : FuncData} (F : Fun K "names_of" "names_of" dS f fd) : Binds K fd ["path"] [] := F.binds (ps := ["path"]) fun _ _ _ _ _ _ us hl => by obtain ⟨_, rfl⟩ := ex1 hl; rfl
theorem vS : aF ["path", "names"] ["path"] (ad iD) := ⟨rfl, rfl, rfl, by decide +kernel, rfl, by decide +kernel, by decide +kernel⟩
theorem zS {K : PySem.W.Frag} {f : Addr} {fd : FuncData} (F : Fun K "above" "above" iD f fd) : Binds K fd ["path"] [] := F.binds (ps := ["path"]) fun _ _ _ _ _ _ us hl => by obtain ⟨_, rfl⟩ := ex1 hl; rfl
theorem pC : aF ["bookings", "rows", "booking"] ["bookings"] (ad eO) := ⟨rfl, rfl, rfl, by decide +kernel, rfl, by decide +kernel, by decide +kernel⟩
theorem xh {K : PySem.W.Frag} {f : Addr} {fd : FuncData} (F : Fun K "rows_of" "rows_of" eO f fd) : Binds K fd ["bookings"] [] := F.binds (ps := ["bookings"]) fun _ _ _ _ _ _ us hl => by obtain ⟨_, rfl⟩ := ex1 hl; rfl
theorem lX : aF ["journal", "day"] ["journal", "day"] (ad bC) := ⟨rfl, rfl, rfl, by decide +kernel, rfl, by decide +kernel, by decide +kernel⟩
theorem gu {K : PySem.W.Frag} {f : Addr} {fd : FuncData} (F : Fun K "bookings_up_to" "bookings_up_to" bC f fd) : Binds K fd ["journal", "day"] [] := F.binds (ps := ["journal", "day"]) fun _ _ _ _ _ _ us hl => by obtain ⟨_, _, rfl⟩ := ex2 hl; rfl
theorem wt : aF ["chart", "journal", "day"] ["chart", "journal", "day"] (ad dH) := ⟨rfl, rfl, rfl, by decide +kernel, rfl, by decide +kernel, by decide +kernel⟩
theorem vi {K : PySem.W.Frag} {f : Addr} {fd : FuncData} (F : Fun K "balances" "balances" dH f fd) : Binds K fd ["chart", "journal", "day"] [] := F.binds (ps := ["chart", "journal", "day"]) fun _ _ _ _ _ _ us hl => by obtain ⟨_, _, _, rfl⟩ := ex3 hl; rfl
theorem ye : aF ["chart", "journal", "month", "day"] ["chart", "journal", "month"] (ad kX) := ⟨rfl, rfl, rfl, by decide +kernel, rfl, by decide +kernel, by decide +kernel⟩
theorem oO {K : PySem.W.Frag} {f : Addr} {fd : FuncData} (F : Fun K "seal" "seal" kX f fd) : Binds K fd ["chart", "journal", "month"] [] := F.binds (ps := ["chart", "journal", "month"]) fun _ _ _ _ _ _ us hl => by obtain ⟨_, _, _, rfl⟩ := ex3 hl; rfl
theorem zV : aF ["chart", "journal", "told"] ["chart", "journal", "told"] (ad iB) := ⟨rfl, rfl, rfl, by decide +kernel, rfl, by decide +kernel, by decide +kernel⟩
theorem vZ {K : PySem.W.Frag} {f : Addr} {fd : FuncData} (F : Fun K "holds" "holds" iB f fd) : Binds K fd ["chart", "journal", "told"] [] := F.binds (ps := ["chart", "journal", "told"]) fun _ _ _ _ _ _ us hl => by obtain ⟨_, _, _, rfl⟩ := ex3 hl; rfl
theorem oz : aF ["_law_script", "_law_k"] ["_law_script", "_law_k"] (ad bS) := ⟨rfl, rfl, rfl, by decide +kernel, rfl, by decide +kernel, by decide +kernel⟩
theorem ba {K : PySem.W.Frag} {f : Addr} {fd : FuncData} (F : Fun K "_law_cell_at" "_law_cell_at" bS f fd) : Binds K fd ["_law_script", "_law_k"] [] := F.binds (ps := ["_law_script", "_law_k"]) fun _ _ _ _ _ _ us hl => by obtain ⟨_, _, rfl⟩ := ex2 hl; rfl
theorem qQ : aF ["_law_found"] ["_law_found"] (ad cH) := ⟨rfl, rfl, rfl, by decide +kernel, rfl, by decide +kernel, by decide +kernel⟩
theorem qU {K : PySem.W.Frag} {f : Addr} {fd : FuncData} (F : Fun K "_law_whole" "_law_whole" cH f fd) : Binds K fd ["_law_found"] [] := F.binds (ps := ["_law_found"]) fun _ _ _ _ _ _ us hl => by obtain ⟨_, rfl⟩ := ex1 hl; rfl
theorem j7 : aF ["_law_cell", "_law_word", "_law_more", "_law_k", "_law_at"] ["_law_cell"] (ad cC) := ⟨rfl, rfl, rfl, by decide +kernel, rfl, by decide +kernel, by decide +kernel⟩
theorem qP {K : PySem.W.Frag} {f : Addr} {fd : FuncData} (F : Fun K "_law_names" "_law_names" cC f fd) : Binds K fd ["_law_cell"] [] := F.binds (ps := ["_law_cell"]) fun _ _ _ _ _ _ us hl => by obtain ⟨_, rfl⟩ := ex1 hl; rfl
theorem fR : aF ["_law_cell", "_law_two"] ["_law_cell"] (ad bw) := ⟨rfl, rfl, rfl, by decide +kernel, rfl, by decide +kernel, by decide +kernel⟩
theorem gj {K : PySem.W.Frag} {f : Addr} {fd : FuncData} (F : Fun K "_law_currencies" "_law_currencies" bw f fd) : Binds K fd ["_law_cell"] [] := F.binds (ps := ["_law_cell"]) fun _ _ _ _ _ _ us hl => by obtain ⟨_, rfl⟩ := ex1 hl; rfl
theorem qL : aF ["_law_year"] ["_law_year"] (ad cB) := ⟨rfl, rfl, rfl, by decide +kernel, rfl, by decide +kernel, by decide +kernel⟩
theorem eU {K : PySem.W.Frag} {f : Addr} {fd : FuncData} (F : Fun K "_law_start" "_law_start" cB f fd) : Binds K fd ["_law_year"] [] := F.binds (ps := ["_law_year"]) fun _ _ _ _ _ _ us hl => by obtain ⟨_, rfl⟩ := ex1 hl; rfl
theorem iR : aF ["_law_year", "_law_second"] ["_law_year"] (ad bQ) := ⟨rfl, rfl, rfl, by decide +kernel, rfl, by decide +kernel, by decide +kernel⟩
theorem ot {K : PySem.W.Frag} {f : Addr} {fd : FuncData} (F : Fun K "_law_lengths" "_law_lengths" bQ f fd) : Binds K fd ["_law_year"] [] := F.binds (ps := ["_law_year"]) fun _ _ _ _ _ _ us hl => by obtain ⟨_, rfl⟩ := ex1 hl; rfl
theorem fY : aF ["_law_month_here", "_law_lengths_here", "_law_first"] ["_law_month_here"] (ad br) := ⟨rfl, rfl, rfl, by decide +kernel, rfl, by decide +kernel, by decide +kernel⟩
theorem dC {K : PySem.W.Frag} {f : Addr} {fd : FuncData} (F : Fun K "_law_month_ends" "_law_month_ends" br f fd) : Binds K fd ["_law_month_here"] [] := F.binds (ps := ["_law_month_here"]) fun _ _ _ _ _ _ us hl => by obtain ⟨_, rfl⟩ := ex1 hl; rfl
theorem j5 : aF ["_law_day_here", "_law_year", "_law_month_here"] ["_law_day_here"] (ad cE) := ⟨rfl, rfl, rfl, by decide +kernel, rfl, by decide +kernel, by decide +kernel⟩
theorem rl {K : PySem.W.Frag} {f : Addr} {fd : FuncData} (F : Fun K "_law_month" "_law_month" cE f fd) : Binds K fd ["_law_day_here"] [] := F.binds (ps := ["_law_day_here"]) fun _ _ _ _ _ _ us hl => by obtain ⟨_, rfl⟩ := ex1 hl; rfl
theorem lP : aF ["_law_script", "_law_cell"] ["_law_script"] (ad c5) := ⟨rfl, rfl, rfl, by decide +kernel, rfl, by decide +kernel, by decide +kernel⟩
theorem io {K : PySem.W.Frag} {f : Addr} {fd : FuncData} (F : Fun K "_law_base" "_law_base" c5 f fd) : Binds K fd ["_law_script"] [] := F.binds (ps := ["_law_script"]) fun _ _ _ _ _ _ us hl => by obtain ⟨_, rfl⟩ := ex1 hl; rfl
theorem uX : aF ["_law_script", "_law_k"] ["_law_script", "_law_k"] (ad dN) := ⟨rfl, rfl, rfl, by decide +kernel, rfl, by decide +kernel, by decide +kernel⟩
theorem nA {K : PySem.W.Frag} {f : Addr} {fd : FuncData} (F : Fun K "_law_day" "_law_day" dN f fd) : Binds K fd ["_law_script", "_law_k"] [] := F.binds (ps := ["_law_script", "_law_k"]) fun _ _ _ _ _ _ us hl => by obtain ⟨_, _, rfl⟩ := ex2 hl; rfl
theorem c9 : aF ["_law_script", "_law_names_here", "_law_currencies_here", "_law_cell", "_law_kinds", "_law_tops", "_law_accounts_here", "_law_k", "_law_some", "_law_more", "_law_upper", "_law_until", "_law_currency"] ["_law_script"] (ad aP) := ⟨rfl, rfl, rfl, by decide +kernel, rfl, by decide +kernel, by decide +kernel⟩
theorem m_ {K : PySem.W.Frag} {f : Addr} {fd : FuncData} (F : Fun K "_law_accounts" "_law_accounts" aP f fd) : Binds K fd ["_law_script"] [] := F.binds (ps := ["_law_script"]) fun _ _ _ _ _ _ us hl => by obtain ⟨_, rfl⟩ := ex1 hl; rfl
theorem ka : aF ["_law_accounts_here", "_law_chart_here", "_law_path", "_law_currency", "_law_first", "_law_until", "_law_kind"] ["_law_accounts_here"] (ad bM) := ⟨rfl, rfl, rfl, by decide +kernel, rfl, by decide +kernel, by decide +kernel⟩
theorem qZ {K : PySem.W.Frag} {f : Addr} {fd : FuncData} (F : Fun K "_law_chart" "_law_chart" bM f fd) : Binds K fd ["_law_accounts_here"] [] := F.binds (ps := ["_law_accounts_here"]) fun _ _ _ _ _ _ us hl => by obtain ⟨_, rfl⟩ := ex1 hl; rfl
theorem iU : aF ["_law_accounts_here", "_law_path", "_law_day_here", "_law_first", "_law_until"] ["_law_accounts_here", "_law_path", "_law_day_here"] (ad bN) := ⟨rfl, rfl, rfl, by decide +kernel, rfl, by decide +kernel, by decide +kernel⟩
theorem ox {K : PySem.W.Frag} {f : Addr} {fd : FuncData} (F : Fun K "_law_is_open" "_law_is_open" bN f fd) : Binds K fd ["_law_accounts_here", "_law_path", "_law_day_here"] [] := F.binds (ps := ["_law_accounts_here", "_law_path", "_law_day_here"]) fun _ _ _ _ _ _ us hl => by obtain ⟨_, _, _, rfl⟩ := ex3 hl; rfl
theorem iV : aF ["_law_cell", "_law_accounts_here", "_law_day_here", "_law_currencies_here", "_law_currency", "_law_paths", "_law_rows", "_law_total", "_law_k", "_law_amount"] ["_law_cell", "_law_accounts_here", "_law_day_here", "_law_currencies_here"] (ad bR) := ⟨rfl, rfl, rfl, by decide +kernel, rfl, by decide +kernel, by decide +kernel⟩
theorem iK {K : PySem.W.Frag} {f : Addr} {fd : FuncData} (F : Fun K "_law_rows_by" "_law_rows_by" bR f fd) : Binds K fd ["_law_cell", "_law_accounts_here", "_law_day_here", "_law_currencies_here"] [] := F.binds (ps := ["_law_cell", "_law_accounts_here", "_law_day_here", "_law_currencies_here"]) fun _ _ _ _ _ _ us hl => by obtain ⟨_, _, _, _, rfl⟩ := ex4 hl; rfl
theorem h9 : aF ["_law_bookings", "_law_day_here", "_law_found", "_law_booking", "_law_path", "_law_currency", "_law_amount"] ["_law_bookings", "_law_day_here"] (ad bJ) := ⟨rfl, rfl, rfl, by decide +kernel, rfl, by decide +kernel, by decide +kernel⟩
theorem nc {K : PySem.W.Frag} {f : Addr} {fd : FuncData} (F : Fun K "_law_balances" "_law_balances" bJ f fd) : Binds K fd ["_law_bookings", "_law_day_here"] [] := F.binds (ps := ["_law_bookings", "_law_day_here"]) fun _ _ _ _ _ _ us hl => by obtain ⟨_, _, rfl⟩ := ex2 hl; rfl
theorem iI : aF ["_law_chart_here", "_law_journal", "_law_cell", "_law_bad", "e"] ["_law_chart_here", "_law_journal", "_law_cell"] (ad bP) := ⟨rfl, rfl, rfl, by decide +kernel, rfl, by decide +kernel, by decide +kernel⟩
theorem oq {K : PySem.W.Frag} {f : Addr} {fd : FuncData} (F : Fun K "_law_refused" "_law_refused" bP f fd) : Binds K fd ["_law_chart_here", "_law_journal", "_law_cell"] [] := F.binds (ps := ["_law_chart_here", "_law_journal", "_law_cell"]) fun _ _ _ _ _ _ us hl => by obtain ⟨_, _, _, rfl⟩ := ex3 hl; rfl
theorem nO : aF ["_law_bookings", "_law_month_here", "_law_day_here", "_law_many"] ["_law_bookings", "_law_month_here"] (ad dF) := ⟨rfl, rfl, rfl, by decide +kernel, rfl, by decide +kernel, by decide +kernel⟩
theorem i7 {K : PySem.W.Frag} {f : Addr} {fd : FuncData} (F : Fun K "_law_due" "_law_due" dF f fd) : Binds K fd ["_law_bookings", "_law_month_here"] [] := F.binds (ps := ["_law_bookings", "_law_month_here"]) fun _ _ _ _ _ _ us hl => by obtain ⟨_, _, rfl⟩ := ex2 hl; rfl
theorem cn : aF ["_law_told", "_law_cell", "_law_month_here", "_law_many", "_law_rows", "_law_more", "_law_at", "_law_path", "_law_currency", "_law_amount", "_law_one", "_law_other", "_law_place"] ["_law_told", "_law_cell"] (ad aN) := ⟨rfl, rfl, rfl, by decide +kernel, rfl, by decide +kernel, by decide +kernel⟩
theorem qw {K : PySem.W.Frag} {f : Addr} {fd : FuncData} (F : Fun K "_law_spoilt" "_law_spoilt" aN f fd) : Binds K fd ["_law_told", "_law_cell"] [] := F.binds (ps := ["_law_told", "_law_cell"]) fun _ _ _ _ _ _ us hl => by obtain ⟨_, _, rfl⟩ := ex2 hl; rfl
theorem eB : aF ["_law_told", "_law_other", "_law_two", "_law_k", "_law_one", "_law_found", "_law_early"] ["_law_told", "_law_other"] (ad a6) := ⟨rfl, rfl, rfl, by decide +kernel, rfl, by decide +kernel, by decide +kernel⟩
theorem sZ {K : PySem.W.Frag} {f : Addr} {fd : FuncData} (F : Fun K "_law_kept" "_law_kept" a6 f fd) : Binds K fd ["_law_told", "_law_other"] [] := F.binds (ps := ["_law_told", "_law_other"]) fun _ _ _ _ _ _ us hl => by obtain ⟨_, _, rfl⟩ := ex2 hl; rfl
theorem gh : aF ["_law_script", "_law_accounts_here", "_law_chart_here", "_law_currencies_here", "_law_journal", "_law_k", "_law_day_here", "_law_month_here", "_law_bookings", "_law_told", "_law_other"] ["_law_script"] (ad bE) := ⟨rfl, rfl, rfl, by decide +kernel, rfl, by decide +kernel, by decide +kernel⟩
theorem lU : aF ["self"] ["self"] (ad bD) := ⟨rfl, rfl, rfl, by decide +kernel, rfl, by decide +kernel, by decide +kernel⟩
theorem mF {K : PySem.W.Frag} {f : Addr} {fd : FuncData} (F : Fun K "__init__" "Seals.__init__" bD f fd) : Binds K fd ["self"] [] := F.binds (ps := ["self"]) fun _ _ _ _ _ _ us hl => by obtain ⟨_, rfl⟩ := ex1 hl; rfl
theorem sO : aF ["self", "told"] ["self", "told"] (ad c8) := ⟨rfl, rfl, rfl, by decide +kernel, rfl, by decide +kernel, by decide +kernel⟩
theorem lD {K : PySem.W.Frag} {f : Addr} {fd : FuncData} (F : Fun K "put" "Seals.put" c8 f fd) : Binds K fd ["self", "told"] [] := F.binds (ps := ["self", "told"]) fun _ _ _ _ _ _ us hl => by obtain ⟨_, _, rfl⟩ := ex2 hl; rfl
theorem qH : aF ["self"] ["self"] (ad ce) := ⟨rfl, rfl, rfl, by decide +kernel, rfl, by decide +kernel, by decide +kernel⟩
theorem gk {K : PySem.W.Frag} {f : Addr} {fd : FuncData} (F : Fun K "every" "Seals.every" ce f fd) : Binds K fd ["self"] [] := F.binds (ps := ["self"]) fun _ _ _ _ _ _ us hl => by obtain ⟨_, rfl⟩ := ex1 hl; rfl
theorem jU : aF ["self", "kind", "currency", "first"] ["self", "kind", "currency", "first"] (ad bq) := ⟨rfl, rfl, rfl, by decide +kernel, rfl, by decide +kernel, by decide +kernel⟩
theorem fE {K : PySem.W.Frag} {f : Addr} {fd : FuncData} (F : Fun K "__init__" "Account.__init__" bq f fd) : Binds K fd ["self", "kind", "currency", "first"] [] := F.binds (ps := ["self", "kind", "currency", "first"]) fun _ _ _ _ _ _ us hl => by obtain ⟨_, _, _, _, rfl⟩ := ex4 hl; rfl
theorem jl : aF ["self", "day"] ["self", "day"] (ad bg) := ⟨rfl, rfl, rfl, by decide +kernel, rfl, by decide +kernel, by decide +kernel⟩
theorem jI {K : PySem.W.Frag} {f : Addr} {fd : FuncData} (F : Fun K "stands_on" "Account.stands_on" bg f fd) : Binds K fd ["self", "day"] [] := F.binds (ps := ["self", "day"]) fun _ _ _ _ _ _ us hl => by obtain ⟨_, _, rfl⟩ := ex2 hl; rfl
theorem g9 : aF ["self", "day"] ["self", "day"] (ad aX) := ⟨rfl, rfl, rfl, by decide +kernel, rfl, by decide +kernel, by decide +kernel⟩
theorem hZ {K : PySem.W.Frag} {f : Addr} {fd : FuncData} (F : Fun K "stands_later" "Account.stands_later" aX f fd) : Binds K fd ["self", "day"] [] := F.binds (ps := ["self", "day"]) fun _ _ _ _ _ _ us hl => by obtain ⟨_, _, rfl⟩ := ex2 hl; rfl
theorem mn : aF ["self"] ["self"] (ad bB) := ⟨rfl, rfl, rfl, by decide +kernel, rfl, by decide +kernel, by decide +kernel⟩
theorem lJ {K : PySem.W.Frag} {f : Addr} {fd : FuncData} (F : Fun K "__init__" "Chart.__init__" bB f fd) : Binds K fd ["self"] [] := F.binds (ps := ["self"]) fun _ _ _ _ _ _ us hl => by obtain ⟨_, rfl⟩ := ex1 hl; rfl
theorem mZ : aF ["self", "name", "kind"] ["self", "name", "kind"] (ad bK) := ⟨rfl, rfl, rfl, by decide +kernel, rfl, by decide +kernel, by decide +kernel⟩
theorem m4 {K : PySem.W.Frag} {f : Addr} {fd : FuncData} (F : Fun K "add_top" "Chart.add_top" bK f fd) : Binds K fd ["self", "name", "kind"] [] := F.binds (ps := ["self", "name", "kind"]) fun _ _ _ _ _ _ us hl => by obtain ⟨_, _, _, rfl⟩ := ex3 hl; rfl
theorem lV : aF ["self", "path", "currency", "day", "upper"] ["self", "path", "currency", "day"] (ad bW) := ⟨rfl, rfl, rfl, by decide +kernel, rfl, by decide +kernel, by decide +kernel⟩
theorem tT {K : PySem.W.Frag} {f : Addr} {fd : FuncData} (F : Fun K "add" "Chart.add" bW f fd) : Binds K fd ["self", "path", "currency", "day"] [] := F.binds (ps := ["self", "path", "currency", "day"]) fun _ _ _ _ _ _ us hl => by obtain ⟨_, _, _, _, rfl⟩ := ex4 hl; rfl
theorem kc : aF ["self", "path", "day", "account"] ["self", "path", "day"] (ad cw) := ⟨rfl, rfl, rfl, by decide +kernel, rfl, by decide +kernel, by decide +kernel⟩
theorem rA {K : PySem.W.Frag} {f : Addr} {fd : FuncData} (F : Fun K "shut" "Chart.shut" cw f fd) : Binds K fd ["self", "path", "day"] [] := F.binds (ps := ["self", "path", "day"]) fun _ _ _ _ _ _ us hl => by obtain ⟨_, _, _, rfl⟩ := ex3 hl; rfl
theorem uz : aF ["self", "path"] ["self", "path"] (ad cU) := ⟨rfl, rfl, rfl, by decide +kernel, rfl, by decide +kernel, by decide +kernel⟩
theorem tI {K : PySem.W.Frag} {f : Addr} {fd : FuncData} (F : Fun K "has" "Chart.has" cU f fd) : Binds K fd ["self", "path"] [] := F.binds (ps := ["self", "path"]) fun _ _ _ _ _ _ us hl => by obtain ⟨_, _, rfl⟩ := ex2 hl; rfl
theorem mY : aF ["self", "path"] ["self", "path"] (ad bL) := ⟨rfl, rfl, rfl, by decide +kernel, rfl, by decide +kernel, by decide +kernel⟩
theorem hX {K : PySem.W.Frag} {f : Addr} {fd : FuncData} (F : Fun K "account" "Chart.account" bL f fd) : Binds K fd ["self", "path"] [] := F.binds (ps := ["self", "path"]) fun _ _ _ _ _ _ us hl => by obtain ⟨_, _, rfl⟩ := ex2 hl; rfl
theorem jW : aF ["self"] ["self"] (ad bp) := ⟨rfl, rfl, rfl, by decide +kernel, rfl, by decide +kernel, by decide +kernel⟩
theorem j0 {K : PySem.W.Frag} {f : Addr} {fd : FuncData} (F : Fun K "__init__" "Journal.__init__" bp f fd) : Binds K fd ["self"] [] := F.binds (ps := ["self"]) fun _ _ _ _ _ _ us hl => by obtain ⟨_, rfl⟩ := ex1 hl; rfl
theorem jy : aF ["self", "day", "note", "rows", "undoes", "number"] ["self", "day", "note", "rows", "undoes"] (ad b_) := ⟨rfl, rfl, rfl, by decide +kernel, rfl, by decide +kernel, by decide +kernel⟩
theorem jp {K : PySem.W.Frag} {f : Addr} {fd : FuncData} (F : Fun K "put" "Journal.put" b_ f fd) : Binds K fd ["self", "day", "note", "rows", "undoes"] [] := F.binds (ps := ["self", "day", "note", "rows", "undoes"]) fun _ _ _ _ _ _ us hl => by obtain ⟨_, _, _, _, _, rfl⟩ := ex5 hl; rfl
theorem m6 : aF ["self"] ["self"] (ad bI) := ⟨rfl, rfl, rfl, by decide +kernel, rfl, by decide +kernel, by decide +kernel⟩
theorem eI {K : PySem.W.Frag} {f : Addr} {fd : FuncData} (F : Fun K "every" "Journal.every" bI f fd) : Binds K fd ["self"] [] := F.binds (ps := ["self"]) fun _ _ _ _ _ _ us hl => by obtain ⟨_, rfl⟩ := ex1 hl; rfl
seal L2.PE L2.PT L2.PW L2.PA L2.PS L2.PSs L2.PI L2.PG L2.PGs L2.PO
open PySem L2 K19 K22
local macro_rules | `(tactic| walk_at "rd") => `(tactic| try simp only [Bu, rdI, V.int.injEq, V.ref.injEq, yr, Bg, xK, yx, AB, Bw, Bf, Az, zZ, L2.iQ, List.map_cons, List.map_nil, List.cons_append, List.nil_append, List.append_nil, List.length_cons, List.length_nil, List.replicate, List.getElem?_cons_zero, List.getElem?_cons_succ, List.set_cons_zero, List.set_cons_succ, Nat.reduceSub, Nat.reduceAdd, Int.reduceLT, Int.reduceLE, Int.reducePow, Int.reduceNeg, Nat.reducePow, List.cons.injEq, exists_eq_left', exists_eq_left, eq_self, if_false, if_true, ↓reduceIte, ite_not, forall_const, Option.bind_some, id_eq, A1, rH, A0, Tp])
local macro_rules | `(tactic| walk_at "om") => `(tactic| first | exact Nat.le_trans (by decide) (by assumption : 1000 <= sizeLine) | omega)
section
variable {pS : Addr} {ns : List Int} {P : Program} {w : World} {K : PySem.W.Frag} {mg : Str -> Option Value} {base : Heap} {a : Adr}
theorem szl : 1000 <= sizeLine := by rw [sizeLine_eq]; decide
theorem GQ : 1000 < sizeLine := by rw [sizeLine_eq]; decide
theorem itp {c : Prop} [Decidable c] {t e : Prop} (h : c) (x : t) : ite c t e := by rw [if_pos h]; exact x
theorem itn {c : Prop} [Decidable c] {t e : Prop} (h : ¬ c) (x : e) : ite c t e := by rw [if_neg h]; exact x
def sp_nM : Sp := sp1 fun x H Q _ => NoT H /\ asK H x fun _ => Q (.bl (isI x)) H
theorem vO (T : Txt K mg a) : bd P w K mg base (XE P w) 1 a.ke a.nE ["thing"] sp_nM := by
 refine T.lh.okG u1 (fun vs H Q E h => sp1.len h) (fun cdv A outer s H vs Q E hr h => ?_)
 obtain ⟨x0, rfl, h⟩ := sp1.inv h
 try dsimp only [sp_nM, sp1] at h
 obtain ⟨hN, h1⟩ := h
 obtain ⟨t, ht, hb, k⟩ := asK.inv h1
 refine ⟨hN, _, (ai (aL (cV (aJ (cN K) rfl T.a8 aW (FA.pa (aa (fv 0) (aa (dt (v := .ty "int") rfl T.A5 wO rfl) ae)))) (df (xz (aJ (cN K) rfl T.a8 aW (FA.pa (aa (fv 0) (aa (dt (v := .ty "bool") rfl T.wU tH rfl) ae))))))))), ?_⟩
 walk_at "rd"
 simp only [ht]
 rw [<- AT ht] at k
 rcases hb with rfl | rfl | rfl | rfl | rfl | rfl | rfl
 all_goals first
  | exact Ea k
  | exact Fm k
def amg (x : V) (lo hi : Int) : Bool := match x with
 | .int i => decide (lo <= i) && decide (i <= hi)
 | _ => false
theorem CZ {x : V} {lo hi : Int} (h : isI x = false) : amg x lo hi = false := by
 unfold amg
 split
 ·cases h
 ·rfl
def sp_nU : Sp := sp3 fun x y z H Q _ => NoT H /\ asI y fun lo => asI z fun hi => asK H x fun _ => Q (.bl (amg x lo hi)) H
theorem nL (T : Txt K mg a) : bd P w K mg base (XE P w) 2 a.lg a.nv ["thing", "least", "most"] sp_nU := by
 refine T.fV.okG vh (fun vs H Q E h => sp3.len h) (fun cdv A outer s H vs Q E hr h => ?_)
 obtain ⟨x0, x1, x2, rfl, h⟩ := sp3.inv h
 try dsimp only [sp_nU, sp3] at h
 obtain ⟨hN, h1⟩ := h
 obtain ⟨lo, rfl, h2⟩ := asI.inv h1
 obtain ⟨hi, rfl, h3⟩ := asI.inv h2
 obtain ⟨t, ht, hb, k⟩ := asK.inv h3
 have G_is_whole := vO (P := P) (w := w) (base := base) T
 have b_is_whole := uO T.lh
 refine ⟨hN, _, (ai (aL (cV (al G_is_whole (hr.mono (by decide)) rfl T.xj T.lh.kp b_is_whole .nil aD (FA.pa (aa (fv 0) ae))) (df (lG fQ fQ (fv 1) (fv 0) (fv 2)))))), ?_⟩
 walk_at "rd"
 refine ⟨hN, asK.of ht ?_⟩
 cases e : isI x0 with
 | false =>
  rw [CZ e] at k
  exact Fm k
 | true =>
  cases x0 with
  | int i =>
   refine Ea ?_
   walk_at "rd"
   split
   ·rename_i h1
    have e : amg (.int i) lo hi = decide (i <= hi) := by simp [amg, h1]
    rw [e] at k; exact k
   ·rename_i h1
    have e : amg (.int i) lo hi = false := by simp [amg, h1]
    rw [e] at k; exact k
  | _ => cases e
def sp_rG : Sp := sp1 fun x H Q _ => NoT H /\ asK H x fun _ => Q (.bl (amg x 0 146096)) H
theorem rC (T : Txt K mg a) : bd P w K mg base (XE P w) 3 a.p_ a.r_ ["thing"] sp_rG := by
 refine T.jm.okG zw (fun vs H Q E h => sp1.len h) (fun cdv A outer s H vs Q E hr h => ?_)
 obtain ⟨x0, rfl, h⟩ := sp1.inv h
 try dsimp only [sp_rG, sp1] at h
 obtain ⟨hN, h1⟩ := h
 have G_is_among := nL (P := P) (w := w) (base := base) T
 have b_is_among := n9 T.fV
 refine ⟨hN, _, (ai (aL (al G_is_among (hr.mono (by decide)) rfl T.qC T.fV.kp b_is_among .nil aD (FA.pa (aa (fv 0) (aa af (aa af ae))))))), ?_⟩
 walk_at "rd"
 exact ⟨hN, h1⟩
theorem Eb (a b : Nat) : leN [a] [b] = decide (a <= b) := by
 unfold leN
 have h : ([b] < [a]) ↔ b < a := by
  rw [List.cons_lt_cons_iff]; simp
 rw [decide_eq_decide.mpr h]
 by_cases h2 : b < a
 ·rw [decide_eq_true h2, decide_eq_false (by walk_at "om")]; rfl
 ·rw [decide_eq_false h2, decide_eq_true (by walk_at "om")]; rfl
local macro_rules | `(tactic| walk_at "rd") => `(tactic| try simp only [Bu, rdI, V.int.injEq, V.ref.injEq, yr, Bg, xK, yx, AB, Bw, Bf, Az, zZ, L2.iQ, List.map_cons, List.map_nil, List.cons_append, List.nil_append, List.append_nil, List.length_cons, List.length_nil, List.replicate, List.getElem?_cons_zero, List.getElem?_cons_succ, List.set_cons_zero, List.set_cons_succ, Nat.reduceSub, Nat.reduceAdd, Int.reduceLT, Int.reduceLE, Int.reducePow, Int.reduceNeg, Nat.reducePow, List.cons.injEq, exists_eq_left', exists_eq_left, eq_self, if_false, if_true, ↓reduceIte, ite_not, forall_const, Option.bind_some, id_eq, A1, rH, A0, Tp, Eb])
def ok (l : List Nat) : Prop := (∀ c ∈ l, c < 128) /\ l.length <= 1000
theorem t8 {l : List Nat} (h : ok l) : l.length <= sizeLine := Nat.le_trans h.2 (by rw [sizeLine_eq]; decide)
def lie (l : List Nat) (a b : Nat) : Bool := l.all fun c => decide (a <= c) && decide (c <= b)
def sp_lZ : Sp := sp3 fun x y z H Q _ => NoT H /\ asT x fun l => asT y fun lo => asT z fun hi => ok l /\ ∃ a b, lo = [a] /\ hi = [b] /\ Q (.bl (lie l a b)) H
theorem mJ (T : Txt K mg a) : bd P w K mg base (XE P w) 1 a.jC a.lC ["text", "least", "most"] sp_lZ := by
 refine T.eX.okG sU (fun vs H Q E h => sp3.len h) (fun cdv A outer s H vs Q E hr h => ?_)
 obtain ⟨x0, x1, x2, rfl, h⟩ := sp3.inv h
 try dsimp only [sp_lZ, sp3] at h
 obtain ⟨hN, h1⟩ := h
 obtain ⟨l, rfl, h2⟩ := asT.inv h1
 obtain ⟨lo, rfl, h3⟩ := asT.inv h2
 obtain ⟨hi, rfl, hl, a, b, rfl, rfl, k⟩ := asT.inv h3
 refine ⟨hN, _, (ai (aL (aJ (uE K rfl) rfl T.BJ xq (FA.pa (aa (c6 rfl (cl := _) (x := "sign") (xs := ["sign"]) (fr := ["least", "most"]) (ks := [1, 2]) (by exact ⟨rfl, by decide +kernel, rfl, by decide +kernel, rfl, dw rfl, rfl, a7 rfl, a7 (k := fun y => List.lookup y _) rfl, dA rfl⟩) rfl (AL (fv 0)) (fun _ _ _ _ _ => (aO (i := 0) (ig (l := ["sign", "least", "most"]) (by decide)) rfl (Or.inl rfl))) (fun _ _ _ _ _ => iA) (fun _ _ _ _ _ => (lG fQ fQ (fv 1) (fv 0) (fv 2)))) ae))))), ?_⟩
 walk_at "rd"
 refine cmS (fun _ => True) (fun _ _ _ => trivial) l (fun _ => true) (fun c => .bl (decide (a <= c) && decide (c <= b))) (fun R r => r) hl.1 (t8 hl) (fun c _ H R _ r => r) (fun c _ _ H R _ r => ?_) (fun D hD => ?_)
 ·walk_at "rd"
  by_cases h1 : a <= c
  ·simp only [h1, decide_true, Bool.true_and] at r ⊢
   exact r
  ·simp only [h1, decide_false, Bool.false_and] at r ⊢
   exact r
 ·refine ⟨l.map fun c => decide (a <= c) && decide (c <= b), SqL.of (by rw [ag, List.filter_eq_self.mpr (by simp), List.map_map]; rfl), H, Gc.none (aq _ hD), ?_⟩
  have e : (l.map fun c => decide (a <= c) && decide (c <= b)).all id = lie l a b := by
   rw [List.all_map]; rfl
  rw [e]; exact k
def cur (l : List Nat) : Bool := decide (l.length = 3) && lie l 65 90
def sp_sC : Sp := sp1 fun x H Q _ => NoT H /\ asT x fun l => cur l = true /\ Q (.bl true) H
theorem xE {l : List Nat} (h : cur l = true) : l.length = 3 /\ lie l 65 90 = true := by
 unfold cur at h
 simpa using h
theorem E3 {l : List Nat} {a b : Nat} (h : lie l a b = true) (hb : b < 128) (hl : l.length <= 1000) : ok l := by
 unfold lie at h
 rw [List.all_eq_true] at h
 exact ⟨fun c hc => by have := h c hc; simp at this; omega, hl⟩
theorem pA (T : Txt K mg a) : bd P w K mg base (XE P w) 2 a.gR a.i9 ["thing"] sp_sC := by
 refine T.gJ.okG qm (fun vs H Q E h => sp1.len h) (fun cdv A outer s H vs Q E hr h => ?_)
 obtain ⟨x0, rfl, h⟩ := sp1.inv h
 try dsimp only [sp_sC, sp1] at h
 have HU := aM hr
 obtain ⟨hN, h1⟩ := h
 obtain ⟨l, rfl, hc, k⟩ := asT.inv h1
 obtain ⟨h3, hl⟩ := xE hc
 have ol := E3 hl (by decide) (by omega)
 have G_signs_lie := mJ (P := P) (w := w) (base := base) T
 have b_signs_lie := mt T.eX
 refine ⟨hN, _, (ai (aL (cV (aJ (cN K) rfl T.a8 aW (FA.pa (aa (fv 0) (aa (dt (v := .ty "str") rfl T.xV ur rfl) ae)))) (cV (d8 (eA K HU) (aJ (cF K) rfl T.fJ dR (FA.pa (aa (fv 0) ae))) af (aY _)) (df (al G_signs_lie (hr.mono (by decide)) rfl T.nW T.eX.kp b_signs_lie .nil aD (FA.pa (aa (fv 0) (aa (aK [65]) (aa (aK [90]) ae)))))))))), ?_⟩
 walk_at "rd"
 refine ⟨t8 ol, itp (by omega) ⟨hN, ol, 65, 90, rfl, rfl, ?_⟩⟩
 rw [hl]; exact k
def nm (l : List Nat) : Bool := decide (1 <= l.length) && decide (l.length <= 12) && lie l 97 122
def sp_pY : Sp := sp1 fun x H Q _ => NoT H /\ asT x fun l => ok l /\ Q (.bl (nm l)) H
theorem pP (T : Txt K mg a) : bd P w K mg base (XE P w) 2 a.nq a.pW ["thing"] sp_pY := by
 refine T.gY.okG wY (fun vs H Q E h => sp1.len h) (fun cdv A outer s H vs Q E hr h => ?_)
 obtain ⟨x0, rfl, h⟩ := sp1.inv h
 try dsimp only [sp_pY, sp1] at h
 obtain ⟨hN, h1⟩ := h
 obtain ⟨l, rfl, hl, k⟩ := asT.inv h1
 have G_signs_lie := mJ (P := P) (w := w) (base := base) T
 have b_signs_lie := mt T.eX
 refine ⟨hN, _, (ai (aL (cV (aJ (cN K) rfl T.a8 aW (FA.pa (aa (fv 0) (aa (dt (v := .ty "str") rfl T.xV ur rfl) ae)))) (cV (lG fQ fQ af (aJ (cF K) rfl T.fJ dR (FA.pa (aa (fv 0) ae))) af) (df (al G_signs_lie (hr.mono (by decide)) rfl T.nW T.eX.kp b_signs_lie .nil aD (FA.pa (aa (fv 0) (aa (aK [97]) (aa (aK [122]) ae)))))))))), ?_⟩
 walk_at "rd"
 refine ⟨t8 hl, ?_⟩
 unfold nm at k
 split
 ·rename_i h1
  rw [decide_eq_true (by omega : 1 <= l.length)] at k
  split
  ·rename_i h2
   rw [decide_eq_true (by omega : l.length <= 12)] at k
   exact ⟨hN, hl, 97, 122, rfl, rfl, k⟩
  ·rename_i h2
   rw [decide_eq_false (by omega : ¬ l.length <= 12)] at k
   exact k
 ·rename_i h1
  rw [decide_eq_false (by omega : ¬ 1 <= l.length)] at k
  exact k
def sp_mH (K : PySem.W.Frag) : Sp := sp1 fun x H Q _ => asR x fun p => NoT H /\ ∃ ls : List (List Nat), SqL K H p (ls.map L2.T) /\ ls.length <= 300 /\ (∀ l ∈ ls, ok l) /\ Q (.bl (decide (1 <= ls.length) && decide (ls.length <= 6) && ls.all nm)) H
theorem tV (T : Txt K mg a) : bd P w K mg base (XE P w) 3 a.jG a.mw ["names"] (sp_mH K) := by
 refine T.jr.okG tq (fun vs H Q E h => sp1.len h) (fun cdv A outer s H vs Q E hr h => ?_)
 obtain ⟨x0, rfl, h⟩ := sp1.inv h
 try dsimp only [sp_mH, sp1] at h
 obtain ⟨p, rfl, hN, ls, hS, hl, hx, k⟩ := asR.inv h
 have G_is_name := pP (P := P) (w := w) (base := base) T
 have b_is_name := qh T.gY
 refine ⟨hN, _, (ai (aL (cV (lG fQ fQ af (aJ (cF K) rfl T.fJ dR (FA.pa (aa (fv 0) ae))) af) (df (aJ (uE K rfl) rfl T.BJ xq (FA.pa (aa (c6 rfl (cl := _) (x := "name") (xs := ["name"]) (fr := []) (ks := []) (by exact ⟨rfl, by decide +kernel, rfl, by decide +kernel, rfl, dw rfl, rfl, a7 rfl, a7 (k := fun y => List.lookup y _) rfl, dA rfl⟩) rfl (dl K (fv 0)) (fun _ _ _ _ _ => (aO (i := 0) (ig (l := ["name"]) (by decide)) rfl (Or.inl rfl))) (fun _ _ _ _ _ => iA) (fun _ _ _ _ _ => (al G_is_name (hr.mono (by decide)) rfl T.rE T.gY.kp b_is_name .nil yR (FA.pa (aa (fv 0) ae))))) ae))))))), ?_⟩
 walk_at "rd"
 refine ⟨_, .inl hS, ?_⟩
 have sz := szl
 rw [List.length_map]
 split
 ·rename_i h1
  rw [decide_eq_true (by omega : 1 <= ls.length)] at k
  split
  ·rename_i h2
   rw [decide_eq_true (by omega : ls.length <= 6)] at k
   refine cmL p (ls.map L2.T) (fun H' => NoT H' /\ SqL K H' p (ls.map L2.T)) (fun D ys hD => ⟨az hN rfl, hS.same (aq _ hD)⟩) (fun H' c => c.2) (fun _ => true) (fun x => match x with | .str y => .bl (nm y.cps.toList) | _ => .non) (fun R r => r) hS (by rw [List.length_map]; omega) (fun x _ H' R _ r => r) (fun x hx' _ H' R c r => ?_) (fun D hD => ?_)
   ·obtain ⟨l, ml, rfl⟩ := List.mem_map.mp hx'
    walk_at "rd"
    exact ⟨c.1, hx l ml, r⟩
   ·refine ⟨ls.map nm, SqL.of (by rw [ag, List.filter_eq_self.mpr (by simp), List.map_map, List.map_map]; rfl), H, Gc.none (aq _ hD), ?_⟩
    rw [List.all_map]; exact k
  ·rename_i h2
   rw [decide_eq_false (by omega : ¬ ls.length <= 6)] at k
   exact k
 ·rename_i h1
  rw [decide_eq_false (by omega : ¬ 1 <= ls.length)] at k
  exact k
def lS (l : List Nat) : Bool := decide (1 <= (spN 58 l).length) && decide ((spN 58 l).length <= 6) && (spN 58 l).all nm
def sp_pF : Sp := sp1 fun x H Q _ => NoT H /\ asT x fun l => ((∀ c ∈ l, c < 128) /\ l.length <= 199) /\ Q (.bl (lS l)) H
theorem oY (T : Txt K mg a) : bd P w K mg base (XE P w) 4 a.mU a.pR ["thing"] sp_pF := by
 refine T.ia.okG wK (fun vs H Q E h => sp1.len h) (fun cdv A outer s H vs Q E hr h => ?_)
 obtain ⟨x0, rfl, h⟩ := sp1.inv h
 try dsimp only [sp_pF, sp1] at h
 obtain ⟨hN, h1⟩ := h
 obtain ⟨l, rfl, hl, k⟩ := asT.inv h1
 have G_are_names := tV (P := P) (w := w) (base := base) T
 have b_are_names := tR T.jr
 refine ⟨hN, _, (ai (aL (cV (aJ (cN K) rfl T.a8 aW (FA.pa (aa (fv 0) (aa (dt (v := .ty "str") rfl T.xV ur rfl) ae)))) (df (al G_are_names (hr.mono (by decide)) rfl T.vj T.jr.kp b_are_names .nil aD (FA.pa (aa (e6 K PySem.F.plainAttrs_str PySem.F.slot_str_split PySem.F.type_str_split qa (fv 0) (FA.pa (aa (aK [58]) ae))) ae))))))), ?_⟩
 walk_at "rd"
 have sz := szl
 have sl := oV 58 l
 refine ⟨by walk_at "om", fun p hp => ⟨az hN rfl, _, SqL.of ag, by omega, fun q hq => ?_, H, Gc.none (aq _ hp), k⟩⟩
 obtain ⟨m1, m2⟩ := mh 58 l q hq
 exact ⟨fun c hc => hl.1 c (m2 c hc), by omega⟩
def tx (ls : List (List Nat)) : HO := .lst (ls.map L2.T)
def sp_nR : Sp := sp1 fun x H Q _ => NoT H /\ asT x fun l => ((∀ c ∈ l, c < 128) /\ l.length <= 199) /\ lS l = true /\ ∀ p, H p = none -> Q (.ref p) (upd H p (tx (spN 58 l)))
theorem uZ (T : Txt K mg a) : bd P w K mg base (XE P w) 5 a.kH a.nY ["path"] sp_nR := by
 refine T.ku.okG v9 (fun vs H Q E h => sp1.len h) (fun cdv A outer s H vs Q E hr h => ?_)
 obtain ⟨x0, rfl, h⟩ := sp1.inv h
 try dsimp only [sp_nR, sp1] at h
 obtain ⟨hN, h1⟩ := h
 obtain ⟨l, rfl, hl, e, k⟩ := asT.inv h1
 have G_is_path := oY (P := P) (w := w) (base := base) T
 have b_is_path := qz T.ia
 refine ⟨hN, _, (ah (bF (dI (cT (al G_is_path (hr.mono (by decide)) rfl T.rV T.ia.kp b_is_path .nil aD (FA.pa (aa (fv 0) ae))))) (ai (bO T.mP PySem.F.excBase_ValueError rfl rfl T.mV cz (FA.pa (aa (aK [116, 104, 105, 115, 32, 105, 115, 32, 110, 111, 32, 112, 97, 116, 104]) ae)))) aS)
  (ai (aL (e6 K PySem.F.plainAttrs_str PySem.F.slot_str_split PySem.F.type_str_split qa (fv 0) (FA.pa (aa (aK [58]) ae)))))), ?_⟩
 walk_at "rd"
 have sz := szl
 refine ⟨hN, hl, itn (by rw [e]; decide) ⟨by walk_at "om", fun p hp => ⟨_, Gc.one (aq _ hp) hp ag rfl, k p hp⟩⟩⟩
theorem pK {l : List Nat} (h : nm l = true) : 1 <= l.length /\ l.length <= 12 /\ ∀ c ∈ l, 97 <= c /\ c <= 122 := by
 unfold nm lie at h
 simp only [Bool.and_eq_true, decide_eq_true_eq, List.all_eq_true] at h
 exact ⟨h.1.1, h.1.2, fun c hc => h.2 c hc⟩
theorem AW (xs : List V) {i : Int} (h : 0 <= i) : jX xs none (some i) = xs.take i.toNat := by
 unfold jX
 have e : i = ((i.toNat : Nat) : Int) := by walk_at "om"
 rw [e, HT.sIx_none, HT.sIx_nat, List.drop_zero, Nat.sub_zero]
 by_cases hl : i.toNat <= xs.length
 ·rw [Nat.min_eq_left hl]; rfl
 ·rw [Nat.min_eq_right (by walk_at "om"), List.take_of_length_le (by walk_at "om"), List.take_of_length_le (by simp; omega)]
theorem yQ (n : Nat) : ∀ (ls : List (List Nat)), (∀ l ∈ ls, l.length <= n) -> (ls.map List.length).sum <= n * ls.length
 | [], _ => by simp
 | l :: r, h => by
  have := yQ n r fun x hx => h x (List.mem_cons_of_mem _ hx)
  have h1 := h l (by simp)
  simp only [List.map_cons, List.sum_cons, List.length_cons, Nat.mul_add, Nat.mul_one]
  omega
theorem A3 {ls : List (List Nat)} (h : ∀ l ∈ ls, l.length <= 1000) (hl : ls.length <= 1000) : BW [58] ls := by
 have := yQ 1000 ls h
 have h2 : 1000 * ls.length <= 1000 * 1000 := Nat.mul_le_mul_left _ hl
 unfold BW
 simp only [List.length_cons, List.length_nil]
 omega
def abN (l : List Nat) : List (List Nat) := (List.range ((spN 58 l).length - 1)).map fun k => cM [58] ((spN 58 l).take (k + 1))
def sp_wk : Sp := sp1 fun x H Q _ => NoT H /\ asT x fun l => ((∀ c ∈ l, c < 128) /\ l.length <= 199) /\ ∀ p, H p = none -> Q (.ref p) (upd H p (tx (abN l)))
theorem Aw (T : Txt K mg a) : bd P w K mg base (XE P w) 1 a.tN a.vX ["path"] sp_wk := by
 refine T.tK.okG vS (fun vs H Q E h => sp1.len h) (fun cdv A outer s H vs Q E hr h => ?_)
 obtain ⟨x0, rfl, h⟩ := sp1.inv h
 try dsimp only [sp_wk, sp1] at h
 have ND := vS.nd
 obtain ⟨hN, h1⟩ := h
 obtain ⟨l, rfl, hl, k⟩ := asT.inv h1
 refine ⟨hN, _, (ah (aH (i := 1) ND rfl (Or.inr rfl) (e6 K PySem.F.plainAttrs_str PySem.F.slot_str_split PySem.F.type_str_split qa (fv 0) (FA.pa (aa (aK [58]) ae))))
  (ai (aL (c6 rfl (cl := _) (x := "many") (xs := ["many"]) (fr := ["names"]) (ks := [1]) (by exact ⟨rfl, by decide +kernel, rfl, by decide +kernel, rfl, dw rfl, rfl, a7 rfl, a7 (k := fun y => List.lookup y _) rfl, dA rfl⟩) rfl (y4 rfl T.jS (FA.pa (aa af (aa (aJ (cF K) rfl T.fJ dR (FA.pa (aa (fv 1) ae))) ae)))) (fun _ _ _ _ _ => (aO (i := 0) (ig (l := ["many", "names"]) (by decide)) rfl (Or.inl rfl))) (fun _ _ _ _ _ => iA) (fun _ _ _ _ _ => (DB (e6 K PySem.F.plainAttrs_str PySem.F.slot_str_join PySem.F.type_str_join (Ax K) (aK [58]) (FA.pa (aa (bv (pM K) (fv 1) b4 (bG (fv 0))) ae))))))))), ?_⟩
 walk_at "rd"
 have sz := szl
 have sl := oV 58 l
 refine ⟨by walk_at "om", fun p hp => ?_⟩
 have sm := aq (HO.lst (List.map L2.T (spN 58 l))) hp
 have nb : ((spN 58 l).length : Int) < 2 ^ 62 := by
  have : (400 : Int) < 2 ^ 62 := by decide
  omega
 refine GD (fun H' => NoT H' /\ SqL K H' p (List.map L2.T (spN 58 l))) (fun D ys hD => ⟨az (az hN rfl) rfl, SqL.same (aq _ hD) (SqL.of ag)⟩) 1 (spN 58 l).length ((spN 58 l).length - 1) (by walk_at "om") (fun _ => true)
  (fun v => match v with | .int i => L2.T (cM [58] ((spN 58 l).take i.toNat)) | _ => .non) (fun R r => ?_) ⟨by decide, by decide, by walk_at "om", nb⟩ (by walk_at "om") (fun x _ H' R _ r => r) (fun j hj _ H' R c r => ?_) (fun D hD => ?_)
 ·walk_at "rd"
  exact ⟨_, .inl (SqL.of ag), by rw [List.length_map]; exact r⟩
 ·walk_at "rd"
  refine ⟨c.1, p, _, rfl, c.2, fun q hq => ⟨(spN 58 l).take (1 + (j : Int)).toNat, SqL.of (by rw [ag, AW _ (by walk_at "om"), List.map_take]), A3 (fun x hx => ?_) (by rw [List.length_take]; omega), H', Gc.none (aq _ hq), r⟩⟩
  have := (mh 58 l x (List.mem_of_mem_take hx)).1
  omega
 ·refine ⟨_, Gc.one (sm.trans (aq _ hD)) (sm.free hD) ag rfl, ?_⟩
  have e : (List.map (fun v => match v with | V.int i => L2.T (cM [58] (List.take i.toNat (spN 58 l))) | _ => V.non) (List.filter (fun _ => true) (List.map (fun k : Nat => V.int (1 + (k : Int))) (List.range ((spN 58 l).length - 1))))) = (abN l).map L2.T := by
   rw [List.filter_eq_self.mpr (by simp), List.map_map]
   unfold abN
   rw [List.map_map]
   apply List.map_congr_left
   intro k _
   show L2.T (cM [58] (List.take (1 + (k : Int)).toNat (spN 58 l))) = L2.T (cM [58] (List.take (k + 1) (spN 58 l)))
   rw [show (1 + (k : Int)).toNat = k + 1 by walk_at "om"]
  rw [e]; exact k D (sm.free hD)
end
open PySem L2 K19 K22
section
variable {pS : Addr} {ns : List Int} {P : Program} {w : World} {K : PySem.W.Frag} {mg : Str -> Option Value} {base : Heap} {a : Adr}
def Keep (S : List Addr) (H H' : Hp) : Prop := ∀ c z, H c = some z -> c ∉ S -> H' c = some z
theorem Keep.refl {S : List Addr} {H : Hp} : Keep S H H := fun _ _ e _ => e
theorem Keep.trans {S : List Addr} {H H1 H2 : Hp} (x : Keep S H H1) (y : Keep S H1 H2) : Keep S H H2 := fun c z e n => y c z (x c z e n) n
theorem Keep.mono {S S' : List Addr} {H H' : Hp} (x : Keep S H H') (h : ∀ c, c ∈ S -> c ∈ S') : Keep S' H H' := fun c z e n => x c z e fun m => n (h c m)
theorem Keep.new {S : List Addr} {H H1 : Hp} {p : Addr} {o : HO} (x : Keep S H H1) (h : H1 p = none) : Keep S H (upd H1 p o) := fun c z e n => by
 rw [aj (au (x c z e n) h)]; exact x c z e n
theorem Keep.put {S : List Addr} {H H1 : Hp} {p : Addr} {o : HO} (x : Keep S H H1) (h : p ∈ S) : Keep S H (upd H1 p o) := fun c z e n => by
 rw [aj (by rintro rfl; exact n h)]; exact x c z e n
theorem Keep.same {S : List Addr} {H H' : Hp} (x : Same H H') : Keep S H H' := fun c z e _ => x c z e
theorem eD {H : Hp} {p q : Addr} {x y : HO} (h : H p = some x) (g : H q = some y) (n : x ≠ y) : p ≠ q := by
 rintro rfl; rw [h] at g; cases g; exact n rfl
def cl : Option Int -> V
 | none => .non
 | some m => .int m
structure Acc where
 pa : List Nat
 ob : Addr
 bl : Addr
 ki : V
 cu : V
 fi : Int
 un : Option Int
 be : List (List Nat)
def iz (k c f u b : V) : List (Str × V) := [("kind", k), ("currency", c), ("first", f), ("until", u), ("below", b)]
theorem fk (k c f u b : V) : List.lookup (Str.ofString "kind") (iz k c f u b) = some k := kA
theorem ff (k c f u b : V) : List.lookup (Str.ofString "first") (iz k c f u b) = some f := by unfold iz; rw [bn (by decide +kernel), bn (by decide +kernel)]; exact kA
theorem fu (k c f u b : V) : List.lookup (Str.ofString "until") (iz k c f u b) = some u := by unfold iz; rw [bn (by decide +kernel), bn (by decide +kernel), bn (by decide +kernel)]; exact kA
theorem fb (k c f u b : V) : List.lookup (Str.ofString "below") (iz k c f u b) = some b := by unfold iz; rw [bn (by decide +kernel), bn (by decide +kernel), bn (by decide +kernel), bn (by decide +kernel)]; exact kA
theorem GA (k c f u b : V) : List.lookup (Str.ofString "stands_on") (iz k c f u b) = none := by unfold iz; rw [bn (by decide +kernel), bn (by decide +kernel), bn (by decide +kernel), bn (by decide +kernel), bn (by decide +kernel)]; rfl
theorem Ft (k c f u b v : V) : eh (Str.ofString "until") v (iz k c f u b) = iz k c f v b := by
 have q1 : ¬ (Str.ofString "kind" = Str.ofString "until") := by decide +kernel
 have q2 : ¬ (Str.ofString "currency" = Str.ofString "until") := by decide +kernel
 have q3 : ¬ (Str.ofString "first" = Str.ofString "until") := by decide +kernel
 simp [eh, iz, q1, q2, q3]
theorem D4 (k c f u b : V) : eh (Str.ofString "below") b (eh (Str.ofString "until") u (eh (Str.ofString "first") f (eh (Str.ofString "currency") c (eh (Str.ofString "kind") k [])))) = iz k c f u b := by
 have q1 : ¬ (Str.ofString "kind" = Str.ofString "until") := by decide +kernel
 have q2 : ¬ (Str.ofString "currency" = Str.ofString "until") := by decide +kernel
 have q3 : ¬ (Str.ofString "first" = Str.ofString "until") := by decide +kernel
 have q4 : ¬ (Str.ofString "kind" = Str.ofString "first") := by decide +kernel
 have q5 : ¬ (Str.ofString "currency" = Str.ofString "first") := by decide +kernel
 have q6 : ¬ (Str.ofString "kind" = Str.ofString "currency") := by decide +kernel
 have q7 : ¬ (Str.ofString "kind" = Str.ofString "below") := by decide +kernel
 have q8 : ¬ (Str.ofString "currency" = Str.ofString "below") := by decide +kernel
 have q9 : ¬ (Str.ofString "first" = Str.ofString "below") := by decide +kernel
 have q0 : ¬ (Str.ofString "until" = Str.ofString "below") := by decide +kernel
 simp [eh, iz, q1, q2, q3, q4, q5, q6, q7, q8, q9, q0]
def sp_rL (A : Addr) : Sp := sp4 fun x k c f H Q _ => NoT H /\ asR x fun p => ∃ dx, H p = some (.ins A dx []) /\ ∀ b H', H b = none -> H' p = some (.ins A dx (iz k c f .non (.ref b))) -> H' b = some (.lst []) -> Keep [p] H H' -> NoT H' -> Q .non H'
theorem fA (T : Txt K mg a) : bd P w K mg base (XE P w) 1 a.cA a.fB ["self", "kind", "currency", "first"] (sp_rL a.aT) := by
 refine T.dE.okX jU (fun vs H Q E h => sp4.len h) (fun cdv A outer s H vs Q E hr h => ?_)
 obtain ⟨x0, x1, x2, x3, rfl, h⟩ := sp4.inv h
 try dsimp only [sp_rL, sp4] at h
 obtain ⟨hN, h1⟩ := h
 obtain ⟨p, rfl, dx, hp, k⟩ := asR.inv h1
 refine ⟨_, (ah (eS K (fv 0) (fv 1))
  (ah (eS K (fv 0) (fv 2))
  (ah (eS K (fv 0) (fv 3))
  (ah (eS K (fv 0) eZ)
  (ai (eS K (fv 0) (cj (FA.pa ae)))))))), ?_⟩
 walk_at "rd"
 refine ⟨_, _, _, hp, T.a_, T.jw, by decide, _, _, _, ag, T.a_, T.kQ, by show 1 < 1000; decide, _, _, _, ag, T.a_, T.fm, by show 2 < 1000; decide, _, _, _, ag, T.a_, T.bU, by show 3 < 1000; decide, Nat.zero_le _, fun b hb => ?_⟩
 rw [oS, oS, oS] at hb ⊢
 have np : p ≠ b := fun q => by rw [<- q, ag] at hb; cases hb
 have hb0 : H b = none := by rw [aj (Ne.symm np)] at hb; exact hb
 refine ⟨_, _, _, (aj np).trans ag, T.a_, T.fq, by show 4 < 1000; decide, ?_⟩
 rw [D4]
 refine k b _ hb0 ag ?_ ?_ ?_
 ·rw [aj (Ne.symm np), ag]
 ·exact ((Keep.refl.put (List.mem_singleton.2 rfl)).new hb).put (List.mem_singleton.2 rfl)
 ·exact az (az (az hN rfl) rfl) rfl
def lat (u : Option Int) (d : Int) : Bool := match u with
 | none => true
 | some t => decide (d < t)
def opn (f : Int) (u : Option Int) (d : Int) : Bool := decide (f <= d) && lat u d
def sp_on (A : Addr) : Sp := sp2 fun x y H Q _ => NoT H /\ asR x fun p => asI y fun d => ∃ dx k c f u b, H p = some (.ins A dx (iz k c (.int f) (cl u) b)) /\ Q (.bl (opn f u d)) H
theorem jd (T : Txt K mg a) : bd P w K mg base (XE P w) 1 a.dh a.eY ["self", "day"] (sp_on a.aT) := by
 refine T.fF.okG jl (fun vs H Q E h => sp2.len h) (fun cdv A outer s H vs Q E hr h => ?_)
 obtain ⟨x0, x1, rfl, h⟩ := sp2.inv h
 try dsimp only [sp_on, sp2] at h
 obtain ⟨hN, h1⟩ := h
 obtain ⟨p, rfl, h2⟩ := asR.inv h1
 obtain ⟨d, rfl, dx, k, c, f, u, b, hp, q⟩ := asI.inv h2
 refine ⟨hN, _, (ai (aL (cV (d8 fQ (bz K (fv 0)) (fv 1) (aY _)) (df (Dj (xg (AA (bz K (fv 0)))) (df (d8 yi (fv 1) (bz K (fv 0)) (aY _)))))))), ?_⟩
 walk_at "rd"
 refine ⟨_, _, _, _, hp, T.a_, T.fm, ff .., ?_⟩
 walk_at "rd"
 split
 ·rename_i h1
  refine ⟨_, _, _, _, hp, T.a_, T.bU, fu .., ?_⟩
  have e : opn f u d = lat u d := by unfold opn; rw [decide_eq_true h1]; rfl
  rw [e] at q
  cases u with
  | none => exact q
  | some t =>
   rw [if_neg (by intro z; cases z)]
   exact ⟨_, _, _, _, hp, T.a_, T.bU, fu .., ⟨H, Gc.refl, q⟩⟩
 ·rename_i h1
  have e : opn f u d = false := by unfold opn; rw [decide_eq_false h1]; rfl
  rw [e] at q; exact q
def sp_sE : Sp := sp2 fun _ _ _ _ _ => False
theorem g8 (T : Txt K mg a) : bd P w K mg base (XE P w) 1 a.cG a.d4 ["self", "day"] sp_sE := by
 refine T.d9.okG g9 (fun vs H Q E h => sp2.len h) (fun cdv A outer s H vs Q E hr h => ?_)
 obtain ⟨x0, x1, rfl, h⟩ := sp2.inv h
 try dsimp only [sp_sE, sp2] at h
def kyA (c : Acc) : Key × V := (.inr ⟨⟨c.pa⟩⟩, .ref c.ob)
structure AAt (A : Addr) (H : Hp) (c : Acc) : Prop where
 ob : ∃ dx, H c.ob = some (.ins A dx (iz c.ki c.cu (.int c.fi) (cl c.un) (.ref c.bl)))
 ls : H c.bl = some (.lst (c.be.map L2.T))
structure CAt (C A : Addr) (H : Hp) (p d : Addr) (cs : List Acc) : Prop where
 ob : ∃ dx, H p = some (.ins C dx [("by_path", .ref d)])
 dc : H d = some (.dK (cs.map kyA))
 ac : ∀ c ∈ cs, AAt A H c
 np : (cs.map (·.pa)).Nodup
 na : (cs.map (·.ob)).Nodup
 nb : (cs.map (·.bl)).Nodup
theorem CAt.keep {C A : Addr} {S : List Addr} {H H' : Hp} {p d : Addr} {cs : List Acc} (j : CAt C A H p d cs) (x : Keep S H H') (hp : p ∉ S) (hd : d ∉ S) (hc : ∀ c ∈ cs, c.ob ∉ S /\ c.bl ∉ S) : CAt C A H' p d cs :=
 ⟨by obtain ⟨dx, e⟩ := j.ob; exact ⟨dx, x _ _ e hp⟩, x _ _ j.dc hd, fun c hm => ⟨by obtain ⟨dx, e⟩ := (j.ac c hm).ob; exact ⟨dx, x _ _ e (hc c hm).1⟩, x _ _ (j.ac c hm).ls (hc c hm).2⟩, j.np, j.na, j.nb⟩
def fnd (cs : List Acc) (l : List Nat) : Option Acc := cs.find? fun c => decide (c.pa = l)
theorem jL (l : List Nat) : ∀ cs : List Acc, ju (cs.map kyA) (.inr ⟨⟨l⟩⟩) = (fnd cs l).map fun c => .ref c.ob
 | [] => rfl
 | c :: r => by
  have ih := jL l r
  by_cases h : c.pa = l
  ·rw [List.map_cons, gT (by show Sum.inr _ = Sum.inr _; rw [h])]
   simp [fnd, h, kyA]
  ·rw [List.map_cons, fX (fun z => h (by simpa [kyA] using z)), ih]
   simp [fnd, h]
theorem B8 {cs : List Acc} {l : List Nat} {c : Acc} (h : fnd cs l = some c) : c ∈ cs /\ c.pa = l :=
 ⟨List.mem_of_find?_eq_some h, by simpa using List.find?_some h⟩
theorem pN {cs : List Acc} {l : List Nat} (h : fnd cs l = none) : ∀ c ∈ cs, c.pa ≠ l := fun c hc => by
 simpa using List.find?_eq_none.mp h c hc
theorem jK {β : Type} {f : Acc -> β} : ∀ {cs : List Acc} {c c' : Acc}, (cs.map f).Nodup -> c ∈ cs -> c' ∈ cs -> f c = f c' -> c = c'
 | [], _, _, _, h, _, _ => nomatch h
 | x :: r, c, c', hn, h, h', e => by
  rw [List.map_cons, List.nodup_cons] at hn
  rcases List.mem_cons.mp h with h1 | h1
  ·rcases List.mem_cons.mp h' with h2 | h2
   ·rw [h1, h2]
   ·subst h1
    exact absurd (by rw [e]; exact List.mem_map_of_mem h2) hn.1
  ·rcases List.mem_cons.mp h' with h2 | h2
   ·subst h2
    exact absurd (by rw [<- e]; exact List.mem_map_of_mem h1) hn.1
   ·exact jK hn.2 h1 h2 e
theorem Aq {cs : List Acc} (hn : (cs.map (·.pa)).Nodup) {c : Acc} (hc : c ∈ cs) : fnd cs c.pa = some c := by
 cases e : fnd cs c.pa with
 | none => exact absurd rfl (pN e c hc)
 | some c' =>
  obtain ⟨h1, h2⟩ := B8 e
  rw [jK hn h1 hc h2]
theorem lkp (x : V) : List.lookup (Str.ofString "by_path") [(Str.ofString "by_path", x)] = some x := kA
def sp_rO (C A : Addr) : Sp := sp1 fun x H Q _ => NoT H /\ asR x fun p => ∃ dx, H p = some (.ins C dx []) /\ ∀ d H', H d = none -> CAt C A H' p d [] -> Keep [p] H H' -> NoT H' -> Q .non H'
theorem mq (T : Txt K mg a) : bd P w K mg base (XE P w) 1 a.da a.gt ["self"] (sp_rO a.bA a.aT) := by
 refine T.gW.okX mn (fun vs H Q E h => sp1.len h) (fun cdv A outer s H vs Q E hr h => ?_)
 obtain ⟨x0, rfl, h⟩ := sp1.inv h
 try dsimp only [sp_rO, sp1] at h
 obtain ⟨hN, h1⟩ := h
 obtain ⟨p, rfl, dx, hp, k⟩ := asR.inv h1
 refine ⟨_, (ai (eS K (fv 0) tm)), ?_⟩
 walk_at "rd"
 intro d hd
 have np : p ≠ d := au hp hd
 refine ⟨_, _, _, (aj np).trans hp, T.cp, T.bH, by show 0 < 1000; decide, ?_⟩
 refine k d _ hd ⟨⟨dx, ?_⟩, ?_, (fun _ h => nomatch h), .nil, .nil, .nil⟩ ?_ ?_
 ·rw [ag]; simp [eh]
 ·rw [aj (Ne.symm np), ag]; rfl
 ·exact (Keep.refl.new hd).put (List.mem_singleton.2 rfl)
 ·exact az (az hN rfl) rfl
def sp_Bd (C A : Addr) : Sp := sp2 fun x y H Q _ => NoT H /\ asR x fun p => asT y fun l => ∃ d cs, CAt C A H p d cs /\ Q (.bl (fnd cs l).isSome) H
theorem t7 (T : Txt K mg a) : bd P w K mg base (XE P w) 1 a.i6 a.mL ["self", "path"] (sp_Bd a.bA a.aT) := by
 refine T.nN.okG uz (fun vs H Q E h => sp2.len h) (fun cdv A outer s H vs Q E hr h => ?_)
 obtain ⟨x0, x1, rfl, h⟩ := sp2.inv h
 try dsimp only [sp_Bd, sp2] at h
 have HU := aM hr
 obtain ⟨hN, h1⟩ := h
 obtain ⟨p, rfl, h2⟩ := asR.inv h1
 obtain ⟨l, rfl, d, cs, J, k⟩ := asT.inv h2
 obtain ⟨dx, hp⟩ := J.ob
 refine ⟨hN, _, (ai (aL (cV (aJ (cN K) rfl T.a8 aW (FA.pa (aa (fv 1) (aa (dt (v := .ty "str") rfl T.xV ur rfl) ae)))) (df (xg (xc (Nat.lt_of_le_of_lt (Nat.add_le_add_left (by decide) _) HU) (fv 1) (bz K (fv 0))) (by with_unfolding_all rfl)))))), ?_⟩
 walk_at "rd"
 refine ⟨_, _, _, _, hp, T.cp, T.bH, lkp _, d, _, rfl, DGet.k (k := .inr ⟨⟨l⟩⟩) J.dc, ?_⟩
 rw [jL, Option.isSome_map]; exact k
def sp_qo (C A no : Addr) : Sp := sp2 fun x y H Q E => NoT H /\ asR x fun p => asT y fun l => ∃ d cs, CAt C A H p d cs /\ match fnd cs l with | some c => Q (.ref c.ob) H | none => E (.ref no) none H
theorem DS (x : V) : List.lookup (Str.ofString "has") [(Str.ofString "by_path", x)] = none := by rw [bn (by decide +kernel)]; rfl
theorem pV (x : V) : List.lookup (Str.ofString "account") [(Str.ofString "by_path", x)] = none := by rw [bn (by decide +kernel)]; rfl
theorem gX (T : Txt K mg a) : bd P w K mg base (XE P w) 2 a.fj a.h_ ["self", "path"] (sp_qo a.bA a.aT a.jh) := by
 refine T.fo.okG mY (fun vs H Q E h => sp2.len h) (fun cdv A outer s H vs Q E hr h => ?_)
 obtain ⟨x0, x1, rfl, h⟩ := sp2.inv h
 try dsimp only [sp_qo, sp2] at h
 have HU := aM hr
 obtain ⟨hN, h1⟩ := h
 obtain ⟨p, rfl, h2⟩ := asR.inv h1
 obtain ⟨l, rfl, d, cs, J, k⟩ := asT.inv h2
 obtain ⟨dx, hp⟩ := J.ob
 have one : 1 <= sizeLine := by rw [sizeLine_eq]; decide
 have G_Chart_has := t7 (P := P) (w := w) (base := base) T
 have b_Chart_has := tI T.nN
 refine ⟨hN, _, (ah (bF (dI (cT (cK (fv 0) T.cp T.ud G_Chart_has (hr.mono (by decide)) b_Chart_has .nil aD (FA.pa (aa (fv 1) ae))))) (ai (bO T.vd PySem.F.excBase_ValueError rfl rfl T.v8 cz (FA.pa (aa (aK [116, 104, 101, 114, 101, 32, 105, 115, 32, 110, 111, 32, 115, 117, 99, 104, 32, 97, 99, 99, 111, 117, 110, 116]) ae)))) aS)
  (ai (aL (dB (Nat.lt_of_le_of_lt (Nat.add_le_add_left (by decide) _) HU) (bz K (fv 0)) (fv 1) (fun _ _ => rfl))))), ?_⟩
 walk_at "rd"
 refine ⟨_, _, hp, DS _, hN, d, cs, J, ?_⟩
 cases e : fnd cs l with
 | none =>
  rw [e] at k
  split
  ·exact ⟨one, k⟩
  ·rename_i z; exact absurd rfl z
 | some c =>
  rw [e] at k
  rw [if_neg (by intro z; cases z)]
  refine ⟨_, _, _, _, hp, T.cp, T.bH, lkp _, d, .ref c.ob, rfl, ?_, k⟩
  have g := DGet.k (k := .inr ⟨⟨l⟩⟩) J.dc
  rw [jL, e] at g
  exact g
end
open PySem L2 K19 K22
section
variable {pS : Addr} {ns : List Int} {P : Program} {w : World} {K : PySem.W.Frag} {mg : Str -> Option Value} {base : Heap} {a : Adr}
theorem kK {β : Type} {l : List β} {x : β} (h : l.Nodup) (n : x ∉ l) : (l ++ [x]).Nodup :=
 List.nodup_append.mpr ⟨h, List.nodup_cons.mpr ⟨List.not_mem_nil, List.nodup_nil⟩, fun a ha b hb => by rw [List.mem_singleton.mp hb]; rintro rfl; exact n ha⟩
theorem CAt.bl_d {C A : Addr} {H : Hp} {p d : Addr} {cs : List Acc} (J : CAt C A H p d cs) {c : Acc} (hc : c ∈ cs) : c.bl ≠ d := eD (J.ac c hc).ls J.dc (by intro z; cases z)
theorem CAt.ob_d {C A : Addr} {H : Hp} {p d : Addr} {cs : List Acc} (J : CAt C A H p d cs) {c : Acc} (hc : c ∈ cs) : c.ob ≠ d := by
 obtain ⟨dx, e⟩ := (J.ac c hc).ob; exact eD e J.dc (by intro z; cases z)
theorem CAt.p_d {C A : Addr} {H : Hp} {p d : Addr} {cs : List Acc} (J : CAt C A H p d cs) : p ≠ d := by
 obtain ⟨dx, e⟩ := J.ob; exact eD e J.dc (by intro z; cases z)
theorem CAt.p_bl {C A : Addr} {H : Hp} {p d : Addr} {cs : List Acc} (J : CAt C A H p d cs) {c : Acc} (hc : c ∈ cs) : p ≠ c.bl := by
 obtain ⟨dx, e⟩ := J.ob; exact eD e (J.ac c hc).ls (by intro z; cases z)
theorem CAt.ob_bl {C A : Addr} {H : Hp} {p d : Addr} {cs : List Acc} (J : CAt C A H p d cs) {c c' : Acc} (hc : c ∈ cs) (hc' : c' ∈ cs) : c.ob ≠ c'.bl := by
 obtain ⟨dx, e⟩ := (J.ac c hc).ob; exact eD e (J.ac c' hc').ls (by intro z; cases z)
theorem vq {cs : List Acc} {l : List Nat} (h : fnd cs l = none) (c : Acc) (e : c.pa = l) : iG (cs.map kyA) (.inr ⟨⟨l⟩⟩) (.ref c.ob) = (cs ++ [c]).map kyA := by
 rw [v4 _ (by rw [jL, h]; rfl), List.map_append, <- e]; rfl
theorem CAt.more {C A : Addr} {H H' : Hp} {p d : Addr} {cs : List Acc} (J : CAt C A H p d cs) (kp : Keep [] H H') {c : Acc} (hf : fnd cs c.pa = none) (h0 : H c.ob = none) (h1 : H c.bl = none) (hc : AAt A H' c) :
 CAt C A (upd H' d (.dK ((cs ++ [c]).map kyA))) p d (cs ++ [c]) := by
 have J1 := J.keep kp List.not_mem_nil List.not_mem_nil fun _ _ => ⟨List.not_mem_nil, List.not_mem_nil⟩
 have dn := J1.dc
 obtain ⟨dc, eo⟩ := hc.ob
 have n1 : c.ob ≠ d := eD eo dn (by intro z; cases z)
 have n2 : c.bl ≠ d := eD hc.ls dn (by intro z; cases z)
 refine ⟨?_, ag, fun z hz => ?_, ?_, ?_, ?_⟩
 ·obtain ⟨dx, e⟩ := J1.ob
  exact ⟨dx, (aj J1.p_d).trans e⟩
 ·rcases List.mem_append.mp hz with hz | hz
  ·obtain ⟨dz, e⟩ := (J1.ac z hz).ob
   exact ⟨⟨dz, (aj (J1.ob_d hz)).trans e⟩, (aj (J1.bl_d hz)).trans (J1.ac z hz).ls⟩
  ·rw [List.mem_singleton.mp hz]
   exact ⟨⟨dc, (aj n1).trans eo⟩, (aj n2).trans hc.ls⟩
 ·rw [List.map_append]
  refine kK J.np fun h => ?_
  obtain ⟨z, hz, e⟩ := List.mem_map.mp h
  exact pN hf z hz e
 ·rw [List.map_append]
  refine kK J.na fun h => ?_
  obtain ⟨z, hz, e⟩ := List.mem_map.mp h
  obtain ⟨dz, eo⟩ := (J.ac z hz).ob
  rw [e, h0] at eo; cases eo
 ·rw [List.map_append]
  refine kK J.nb fun h => ?_
  obtain ⟨z, hz, e⟩ := List.mem_map.mp h
  have eo := (J.ac z hz).ls
  rw [e, h1] at eo; cases eo
theorem hV {H H' : Hp} {x dx : Addr} {o o' : HO} (hx : H x = none) (hd : H dx = none) (kp : Keep [x] (upd (upd H dx o) x o') H') : Keep [] H H' := fun c z e _ => by
 have n1 : c ≠ x := au e hx
 have n2 : c ≠ dx := au e hd
 exact kp c z (by rw [aj n1, aj n2]; exact e) (by simpa using n1)
theorem eG {H : Hp} {x dx b : Addr} {o o' : HO} (h : upd (upd H dx o) x o' b = none) : H b = none := by
 have n1 : b ≠ x := fun z => by rw [z, ag] at h; cases h
 rw [aj n1] at h
 have n2 : b ≠ dx := fun z => by rw [z, ag] at h; cases h
 rw [aj n2] at h; exact h
abbrev KDS : List (List Nat) := [[104, 97, 118, 101], [111, 119, 101], [111, 119, 110], [103, 97, 105, 110], [99, 111, 115, 116]]
def sp_qv (C A : Addr) : Sp := sp3 fun x y z H Q _ => NoT H /\ asR x fun p => asT y fun l => nm l = true /\ asT z fun kd => kd ∈ KDS /\ ∃ d cs, CAt C A H p d cs /\ cs.length <= 100 /\ fnd cs l = none /\
 (∀ c H', c.pa = l -> c.ki = L2.T kd -> c.fi = 0 -> c.un = none -> c.be = [] -> H c.ob = none -> H c.bl = none -> CAt C A H' p d (cs ++ [c]) -> Keep [d] H H' -> NoT H' -> Q .non H')
theorem zT {l : List Nat} (h : l ∈ KDS) : inV (L2.T l) (KDS.map L2.T) = true := by
 simp only [List.mem_cons, List.not_mem_nil, or_false] at h
 rcases h with rfl | rfl | rfl | rfl | rfl <;> decide
theorem FR {l : List Nat} (h : nm l = true) : ok l := by
 obtain ⟨_, h2, h3⟩ := pK h
 exact ⟨fun c hc => by have := h3 c hc; omega, by omega⟩
theorem mX (T : Txt K mg a) : bd P w K mg base (XE P w) 4 a.ft a.ic ["self", "name", "kind"] (sp_qv a.bA a.aT) := by
 refine T.iJ.okX mZ (fun vs H Q E h => sp3.len h) (fun cdv A outer s H vs Q E hr h => ?_)
 obtain ⟨x0, x1, x2, rfl, h⟩ := sp3.inv h
 try dsimp only [sp_qv, sp3] at h
 have HU := aM hr
 obtain ⟨hN, h1⟩ := h
 obtain ⟨p, rfl, h2⟩ := asR.inv h1
 obtain ⟨l, rfl, e, h3⟩ := asT.inv h2
 obtain ⟨kd, rfl, hz, d, cs, J, len, ef, k⟩ := asT.inv h3
 obtain ⟨dx, hp⟩ := J.ob
 have G_Account___init__ := fA (P := P) (w := w) (base := base) T
 have b_Account___init__ := fE T.dE
 have G_is_name := pP (P := P) (w := w) (base := base) T
 have b_is_name := qh T.gY
 refine ⟨_, (ah (bF (dI (cT (al G_is_name (hr.mono (by decide)) rfl T.rE T.gY.kp b_is_name .nil aD (FA.pa (aa (fv 1) ae))))) (ai (bO T.zq PySem.F.excBase_ValueError rfl rfl T.zB cz (FA.pa (aa (aK [116, 104, 105, 115, 32, 105, 115, 32, 110, 111, 32, 110, 97, 109, 101]) ae)))) aS)
  (ah (bF (bo (zr K) (fv 2) (oJ (v := .ref a.lB) rfl T.CQ rfl) (by with_unfolding_all rfl)) (ai (bO T.zF PySem.F.excBase_ValueError rfl rfl T.yX cz (FA.pa (aa (aK [116, 104, 101, 114, 101, 32, 105, 115, 32, 110, 111, 32, 115, 117, 99, 104, 32, 107, 105, 110, 100]) ae)))) aS)
  (ah (bF (nX (xc (Nat.lt_of_le_of_lt (Nat.add_le_add_left (by decide) _) HU) (fv 1) (bz K (fv 0))) (by with_unfolding_all rfl)) (ai (bO T.xH PySem.F.excBase_ValueError rfl rfl T.xL cz (FA.pa (aa (aK [116, 104, 101, 114, 101, 32, 105, 115, 32, 115, 117, 99, 104, 32, 97, 110, 32, 97, 99, 99, 111, 117, 110, 116]) ae)))) aS)
  (ai (iu (Nat.lt_of_le_of_lt (Nat.add_le_add_left (by decide) _) HU) (bz K (fv 0)) (fv 1) (wf T.qG G_Account___init__ (hr.mono (by decide)) rfl T.si b_Account___init__ .nil aD (FA.pa (aa (fv 2) (aa eZ (aa af ae))))) rfl))))), ?_⟩
 walk_at "rd"
 refine ⟨hN, FR e, itn (by rw [e]; decide) ?_⟩
 refine ⟨_, .inr (.inr T.lB), rfl, by decide, ?_⟩
 rw [show inV (L2.T kd) _ = true from zT hz, if_neg (by decide)]
 refine ⟨_, _, _, _, hp, T.cp, T.bH, lkp _, d, _, rfl, DGet.k (k := .inr ⟨⟨l⟩⟩) J.dc, ?_⟩
 rw [jL, Option.isSome_map, ef, if_neg (by intro z; cases z)]
 intro x dx hx hdx ne
 refine ⟨az (az hN rfl) rfl, _, ag, fun b H' hb h1 h2 kp hN' => ?_⟩
 have kp0 := hV hx hdx kp
 have J1 := J.keep kp0 List.not_mem_nil List.not_mem_nil fun _ _ => ⟨List.not_mem_nil, List.not_mem_nil⟩
 obtain ⟨dx1, hp1⟩ := J1.ob
 let c : Acc := ⟨l, x, b, L2.T kd, .non, 0, none, []⟩
 have smk : (cs.map kyA).length < sizeLine := by rw [List.length_map, sizeLine_eq]; omega
 refine ⟨_, _, _, _, hp1, T.cp, T.bH, lkp _, d, _, rfl, DPut.k (k := .inr ⟨⟨l⟩⟩) J1.dc smk, ?_⟩
 rw [vq ef c rfl]
 exact k c _ rfl rfl rfl rfl rfl hx (eG hb) (J.more kp0 ef hx (eG hb) ⟨⟨dx, h1⟩, h2⟩) ((kp0.mono (fun _ h => nomatch h)).put (.head _)) (az hN' rfl)
theorem qj (s x : List Nat) : ∀ (r : List (List Nat)), r ≠ [] -> cM s (r ++ [x]) = cM s r ++ s ++ x
 | [], h => absurd rfl h
 | [y], _ => by simp [cM]
 | y :: z :: r, _ => by
  have := qj s x (z :: r) (by simp)
  rw [List.cons_append, List.cons_append, cM, <- List.cons_append, this, cM]
  simp
theorem gq {v n : List Nat} (hn : 58 ∉ n) : spN 58 (v ++ 58 :: n) = spN 58 v ++ [n] := by
 have h := pf 58 (spN 58 v ++ [n]) (by simp) fun p hp => by
  rcases List.mem_append.mp hp with h | h
  ·exact jP 58 v p h
  ·rw [List.mem_singleton.mp h]; exact hn
 rw [qj _ _ _ (kW 58 v), qg] at h
 rw [<- h]; simp
theorem Cr {v n : List Nat} (hn : 58 ∉ n) : abN (v ++ 58 :: n) = abN v ++ [v] := by
 unfold abN
 rw [gq hn, List.length_append, List.length_singleton, Nat.add_sub_cancel]
 have hp : 0 < (spN 58 v).length := List.length_pos_iff.mpr (kW 58 v)
 obtain ⟨m, hm⟩ : ∃ m, (spN 58 v).length = m + 1 := ⟨(spN 58 v).length - 1, by omega⟩
 rw [hm, List.range_succ, List.map_append, Nat.add_sub_cancel]
 congr 1
 ·apply List.map_congr_left
  intro k hk
  have := List.mem_range.mp hk
  rw [List.take_append_of_le_length (by omega)]
 ·rw [List.map_singleton, <- hm, List.take_left', qg]
  rfl
def mm (cs : List Acc) (l : List Nat) (f : Acc -> Acc) : List Acc := cs.map fun z => if z.pa = l then f z else z
theorem eC {β : Type} {cs : List Acc} {l : List Nat} {f : Acc -> Acc} (g : Acc -> β) (h : ∀ z, g (f z) = g z) : (mm cs l f).map g = cs.map g := by
 unfold mm
 rw [List.map_map]
 apply List.map_congr_left
 intro z _
 show g (if z.pa = l then f z else z) = g z
 split
 ·exact h z
 ·rfl
theorem i_ {cs : List Acc} {l : List Nat} {f : Acc -> Acc} {z : Acc} (h : z ∈ mm cs l f) : ∃ y ∈ cs, z = if y.pa = l then f y else y := by
 obtain ⟨y, hy, e⟩ := List.mem_map.mp h
 exact ⟨y, hy, e.symm⟩
def grw (l : List Nat) (z : Acc) : Acc := { z with be := z.be ++ [l] }
def shu (t : Int) (z : Acc) : Acc := { z with un := some t }
theorem CAt.grow {C A : Addr} {H : Hp} {p d : Addr} {cs : List Acc} (J : CAt C A H p d cs) {u : Acc} (hu : u ∈ cs) (l : List Nat) : CAt C A (upd H u.bl (.lst (u.be.map L2.T ++ [L2.T l]))) p d (mm cs u.pa (grw l)) := by
 refine ⟨?_, ?_, fun z hz => ?_, ?_, ?_, ?_⟩
 ·obtain ⟨dx, e⟩ := J.ob
  exact ⟨dx, (aj (J.p_bl hu)).trans e⟩
 ·rw [eC (f := grw l) kyA fun _ => rfl, aj (Ne.symm (J.bl_d hu))]; exact J.dc
 ·obtain ⟨y, hy, e⟩ := i_ hz
  obtain ⟨dy, ho⟩ := (J.ac y hy).ob
  by_cases h : y.pa = u.pa
  ·have : y = u := jK J.np hy hu h
   subst this
   rw [if_pos rfl] at e
   subst e
   exact ⟨⟨dy, (aj (J.ob_bl hy hu)).trans ho⟩, by show upd H y.bl _ y.bl = some (.lst ((y.be ++ [l]).map L2.T)); rw [ag, List.map_append]; rfl⟩
  ·rw [if_neg h] at e
   subst e
   have nb : z.bl ≠ u.bl := fun q => h (by rw [jK J.nb hy hu q])
   exact ⟨⟨dy, (aj (J.ob_bl hy hu)).trans ho⟩, (aj nb).trans (J.ac z hy).ls⟩
 ·rw [eC (f := grw l) _ fun _ => rfl]; exact J.np
 ·rw [eC (f := grw l) _ fun _ => rfl]; exact J.na
 ·rw [eC (f := grw l) _ fun _ => rfl]; exact J.nb
theorem Af {cs : List Acc} {v l : List Nat} {f : Acc -> Acc} (hf : ∀ z, (f z).pa = z.pa) (h : fnd cs l = none) : fnd (mm cs v f) l = none := by
 refine List.find?_eq_none.mpr fun z hz => ?_
 obtain ⟨y, hy, e⟩ := i_ hz
 have := pN h y hy
 subst e
 split
 ·simpa [hf] using this
 ·simpa using this
theorem Gw {p q : Prop} (f : p -> q) (x : p) : q := f x
theorem E5 {x : V} {l : List Nat} {f : List Nat -> Prop} (h : x = L2.T l) (k : f l) : asT x f := by subst h; exact k
def sp_Ba (C A : Addr) : Sp := sp4 fun x y z t H Q _ => NoT H /\ asR x fun p => asT y fun l => ((∀ c ∈ l, c < 128) /\ l.length <= 199) /\ (z = .non \/ ∃ cl, z = L2.T cl /\ cur cl = true) /\ asI t fun day => (0 <= day /\ day <= 146096) /\ ∃ v n d cs u, l = v ++ 58 :: n /\ 58 ∉ n /\ lS l = true /\ CAt C A H p d cs /\ cs.length <= 100 /\ (∀ c ∈ cs, c.be.length <= 100) /\
 fnd cs l = none /\ u ∈ cs /\ u.pa = v /\ u.un = none /\ u.fi <= day /\
 ∀ c H', c.pa = l -> c.ki = u.ki -> c.fi = day -> c.un = none -> c.be = [] -> H c.ob = none -> H c.bl = none -> CAt C A H' p d (mm cs v (grw l) ++ [c]) -> Keep (d :: cs.map (·.bl)) H H' -> NoT H' -> Q .non H'
theorem uI (T : Txt K mg a) : bd P w K mg base (XE P w) 7 a.gF a.lN ["self", "path", "currency", "day"] (sp_Ba a.bA a.aT) := by
 refine T.nz.okX lV (fun vs H Q E h => sp4.len h) (fun cdv A outer s H vs Q E hr h => ?_)
 obtain ⟨x0, x1, x2, x3, rfl, h⟩ := sp4.inv h
 try dsimp only [sp_Ba, sp4] at h
 have ND := lV.nd
 have HU := aM hr
 obtain ⟨hN, h1⟩ := h
 obtain ⟨p, rfl, h2⟩ := asR.inv h1
 obtain ⟨l, rfl, hl, hz, h3⟩ := asT.inv h2
 obtain ⟨day, rfl, hd, v, n, d, cs, u, el, hn, e, J, len, lb, ef, hu, pu, un, uf, k⟩ := asI.inv h3
 obtain ⟨dx, hp⟩ := J.ob
 have G_Account___init__ := fA (P := P) (w := w) (base := base) T
 have b_Account___init__ := fE T.dE
 have G_Account_stands_on := jd (P := P) (w := w) (base := base) T
 have b_Account_stands_on := jI T.fF
 have G_Chart_account := gX (P := P) (w := w) (base := base) T
 have b_Chart_account := hX T.fo
 have G_above := Aw (P := P) (w := w) (base := base) T
 have b_above := zS T.tK
 have G_is_day := rC (P := P) (w := w) (base := base) T
 have b_is_day := rQ T.jm
 have G_is_currency := pA (P := P) (w := w) (base := base) T
 have b_is_currency := pI T.gJ
 have G_names_of := uZ (P := P) (w := w) (base := base) T
 have b_names_of := vU T.ku
 have c4 : ∃ z, PSs (cW (XE P w) P w K mg base ["self", "path", "currency", "day", "upper"] "Chart.add" (ad bW) a.gF cdv A outer s H E) (List.drop 4 (av bW)) z /\ z { nx := fun _ H' => Q .non H', rt := Q } [some (.ref p), some (L2.T l), some x2, some (.int day), none] H := by
  refine ⟨_, (ah (aH (i := 4) ND rfl (Or.inl rfl) (cK (fv 0) T.cp T.hG G_Chart_account (hr.mono (by decide)) b_Chart_account .nil aD (FA.pa (aa (DB (aQ (aA K) (al G_above (hr.mono (by decide)) rfl T.Co T.tK.kp b_above .nil aD (FA.pa (aa (fv 1) ae))) (BV xf af) (fun _ _ => rfl))) ae))))
   (ah (bF (L2.PW.pt (pU (nX (lT (bz K (fv 4)))) (pw (dI (cT (cK (fv 4) T.a_ T.jE G_Account_stands_on (hr.mono (by decide)) b_Account_stands_on .nil aD (FA.pa (aa (fv 3) ae)))))))) (ai (bO T.sw PySem.F.excBase_ValueError rfl rfl T.sf cz (FA.pa (aa (aK [116, 104, 101, 32, 97, 99, 99, 111, 117, 110, 116, 32, 97, 98, 111, 118, 101, 32, 105, 115, 110, 39, 116, 32, 111, 112, 101, 110]) ae)))) aS)
   (ah (cg (e6 K PySem.F.plainAttrs_list PySem.F.slot_list_append PySem.F.type_list_append d5 (bz K (fv 4)) (FA.pa (aa (fv 1) ae))))
   (ai (iu (Nat.lt_of_le_of_lt (Nat.add_le_add_left (by decide) _) HU) (bz K (fv 0)) (fv 1) (wf T.qG G_Account___init__ (hr.mono (by decide)) rfl T.si b_Account___init__ .nil aD (FA.pa (aa (bz K (fv 4)) (aa (fv 2) (aa (fv 3) ae))))) rfl))))), ?_⟩
  walk_at "rd"
  refine ⟨_, _, hp, pV _, hN, hN, hl, fun q2 hq2 => ⟨_, L2.T v, .inl (SqL.of ag), ?_, ?_⟩⟩
  ·rw [el, Cr hn, List.map_append]; exact AM _ _
  refine ⟨H, Gc.none (aq _ hq2), hN, ?_⟩
  walk_at "rd"
  refine ⟨d, cs, J, ?_⟩
  rw [show fnd cs v = some u by rw [<- pu]; exact Aq J.np hu]
  obtain ⟨du, ho⟩ := (J.ac u hu).ob
  refine ⟨_, _, _, _, ho, T.a_, T.bU, fu .., ?_⟩
  rw [un]
  have eo : opn u.fi u.un day = true := by rw [un]; unfold opn; rw [decide_eq_true uf]; rfl
  refine itp rfl ⟨_, _, ho, GA .., hN, _, _, _, _, _, _, ho, ?_⟩
  rw [eo]
  have sml : (u.be.map L2.T).length < sizeLine := by have := lb u hu; rw [List.length_map, sizeLine_eq]; omega
  refine itn (by decide) ⟨_, _, _, _, ho, T.a_, T.fq, fb .., .inl ⟨rfl, _, SqL.of (J.ac u hu).ls⟩, u.bl, _, _, rfl, rfl, (J.ac u hu).ls, sml, ?_⟩
  have J1 := J.grow hu l
  have N1 : NoT (upd H u.bl (.lst (u.be.map L2.T ++ [L2.T l]))) := az hN rfl
  have ho1 := (aj (o := .lst (u.be.map L2.T ++ [L2.T l])) (J.ob_bl hu hu)).trans ho
  have K1 : Keep (d :: cs.map (·.bl)) H (upd H u.bl (.lst (u.be.map L2.T ++ [L2.T l]))) := Keep.refl.put (.tail _ (List.mem_map_of_mem hu))
  have n58 : ∀ q, upd H u.bl (.lst (u.be.map L2.T ++ [L2.T l])) q = none -> H q = none := fun q hq => by
   by_cases hc : q = u.bl
   ·rw [hc, ag] at hq; cases hq
   ·rw [aj hc] at hq; exact hq
  generalize upd H u.bl (.lst (u.be.map L2.T ++ [L2.T l])) = H1 at J1 N1 ho1 K1 n58 ⊢
  refine ⟨_, _, _, _, ho1, T.a_, T.jw, fk .., fun x dx1 hx hdx ne => ?_⟩
  refine ⟨az (az N1 rfl) rfl, _, ag, fun b H' hb h1 h2 kp hN' => ?_⟩
  have kp0 := hV hx hdx kp
  have J2 := J1.keep kp0 List.not_mem_nil List.not_mem_nil fun _ _ => ⟨List.not_mem_nil, List.not_mem_nil⟩
  obtain ⟨dx2, hp2⟩ := J2.ob
  let c : Acc := ⟨l, x, b, u.ki, x2, day, none, []⟩
  have smk : ((mm cs u.pa (grw l)).map kyA).length < sizeLine := by rw [eC (f := grw l) kyA fun _ => rfl, List.length_map, sizeLine_eq]; omega
  have ef1 : fnd (mm cs u.pa (grw l)) l = none := Af (fun _ => rfl) ef
  refine ⟨_, _, _, _, hp2, T.cp, T.bH, lkp _, d, _, rfl, DPut.k (k := .inr ⟨⟨l⟩⟩) J2.dc smk, ?_⟩
  rw [vq ef1 c rfl]
  have J3 := J1.more kp0 (c := c) ef1 hx (eG hb) ⟨⟨dx1, h1⟩, h2⟩
  rw [pu] at J3 ⊢
  exact k c _ rfl rfl rfl rfl rfl (n58 _ hx) (n58 _ (eG hb)) J3 ((K1.trans (kp0.mono (fun _ h => nomatch h))).put (.head _)) (az hN' rfl)
 obtain ⟨u4, hu4, c4⟩ := c4
 refine ⟨_, (ah (bF (rJ (bo (eA K HU) (aJ (cF K) rfl T.fJ dR (FA.pa (aa (al G_names_of (hr.mono (by decide)) rfl T.wL T.ku.kp b_names_of .nil aD (FA.pa (aa (fv 1) ae))) ae))) af (aY _))) (ai (bO T.mP PySem.F.excBase_ValueError rfl rfl T.mV cz (FA.pa (aa (aK [97, 32, 115, 105, 110, 103, 108, 101, 32, 110, 97, 109, 101, 32, 105, 115, 32, 97, 32, 116, 111, 112]) ae)))) aS)
  (ah (bF (L2.PW.pt (uC (nX (lT (fv 2))) (oP (dI (cT (al G_is_currency (hr.mono (by decide)) rfl T.rf T.gJ.kp b_is_currency .nil aD (FA.pa (aa (fv 2) ae)))))))) (ai (bO T.qV PySem.F.excBase_ValueError rfl rfl T.ra cz (FA.pa (aa (aK [116, 104, 105, 115, 32, 105, 115, 32, 110, 111, 32, 99, 117, 114, 114, 101, 110, 99, 121]) ae)))) aS)
  (ah (bF (dI (cT (al G_is_day (hr.mono (by decide)) rfl T.vJ T.jm.kp b_is_day .nil aD (FA.pa (aa (fv 3) ae))))) (ai (bO T.vn PySem.F.excBase_ValueError rfl rfl T.uV cz (FA.pa (aa (aK [116, 104, 105, 115, 32, 105, 115, 32, 110, 111, 32, 100, 97, 121]) ae)))) aS)
  (ah (bF (nX (xc (Nat.lt_of_le_of_lt (Nat.add_le_add_left (by decide) _) HU) (fv 1) (bz K (fv 0))) (by with_unfolding_all rfl)) (ai (bO T.xH PySem.F.excBase_ValueError rfl rfl T.xL cz (FA.pa (aa (aK [116, 104, 101, 114, 101, 32, 105, 115, 32, 115, 117, 99, 104, 32, 97, 110, 32, 97, 99, 99, 111, 117, 110, 116]) ae)))) aS)
  hu4)))), ?_⟩
 walk_at "rd"
 refine ⟨hN, hN, hl, e, fun q hq => ?_⟩
 refine ⟨_, .inl (SqL.of ag), H, Gc.none (aq _ hq), ?_⟩
 rw [List.length_map, el, gq hn, List.length_append, if_neg (by
  have hp : 0 < (spN 58 v).length := List.length_pos_iff.mpr (kW 58 v)
  simp only [List.length_singleton]; omega)]
 rw [<- el]
 refine' Gw (fun key => _) _
 rotate_left 1
 ·rcases hz with hz | ⟨cl', hz, hcl⟩
  ·exact itp hz key
  ·exact itn (by rw [hz]; intro z; cases z) ⟨hN, E5 hz ⟨hcl, key⟩⟩
 have ed : amg (.int day) 0 146096 = true := by show (decide (0 <= day) && decide (day <= 146096)) = true; rw [decide_eq_true hd.1, decide_eq_true hd.2]; rfl
 rw [ed]
 refine ⟨hN, itn (by decide) ⟨_, _, _, _, hp, T.cp, T.bH, lkp _, d, _, rfl, DGet.k (k := .inr ⟨⟨l⟩⟩) J.dc, ?_⟩⟩
 rw [jL, Option.isSome_map, ef, if_neg (by intro z; cases z)]
 exact c4
end
open PySem L2 K19 K22
section
variable {P : Program} {w : World} {K : PySem.W.Frag} {mg : Str -> Option Value} {base : Heap} {a : Adr}
theorem CAt.shutA {C A : Addr} {H : Hp} {p d : Addr} {cs : List Acc} (J : CAt C A H p d cs) {u : Acc} (hu : u ∈ cs) (t : Int) {dx : Addr} (ho : H u.ob = some (.ins A dx (iz u.ki u.cu (.int u.fi) (cl u.un) (.ref u.bl)))) : CAt C A (upd H u.ob (.ins A dx (iz u.ki u.cu (.int u.fi) (.int t) (.ref u.bl)))) p d (mm cs u.pa (shu t)) := by
 have pob : p ≠ u.ob \/ p = u.ob := (Decidable.em _).symm
 refine ⟨?_, ?_, fun z hz => ?_, ?_, ?_, ?_⟩
 ·obtain ⟨dp, e⟩ := J.ob
  have : p ≠ u.ob := eD e ho (by intro z; cases z)
  exact ⟨dp, (aj this).trans e⟩
 ·rw [eC (f := shu t) kyA fun _ => rfl, aj (Ne.symm (J.ob_d hu))]; exact J.dc
 ·obtain ⟨y, hy, e⟩ := i_ hz
  obtain ⟨dy, hoy⟩ := (J.ac y hy).ob
  by_cases h : y.pa = u.pa
  ·have : y = u := jK J.np hy hu h
   subst this
   rw [if_pos rfl] at e
   subst e
   exact ⟨⟨dx, ag⟩, (aj (Ne.symm (J.ob_bl hy hu))).trans (J.ac y hy).ls⟩
  ·rw [if_neg h] at e
   subst e
   have nb : z.ob ≠ u.ob := fun q => h (by rw [jK J.na hy hu q])
   exact ⟨⟨dy, (aj nb).trans hoy⟩, (aj (Ne.symm (J.ob_bl hu hy))).trans (J.ac z hy).ls⟩
 ·rw [eC (f := shu t) _ fun _ => rfl]; exact J.np
 ·rw [eC (f := shu t) _ fun _ => rfl]; exact J.na
 ·rw [eC (f := shu t) _ fun _ => rfl]; exact J.nb
def sp_yP (C A : Addr) : Sp := sp3 fun x y z H Q _ => NoT H /\ asR x fun p => asT y fun l => ((∀ c ∈ l, c < 128) /\ l.length <= 199) /\ asI z fun day => (0 <= day /\ day <= 146096) /\ ∃ d cs u, CAt C A H p d cs /\ u ∈ cs /\ u.pa = l /\ lS l = true /\ u.un = none /\ u.fi < day /\ u.be = [] /\
 ∀ H', CAt C A H' p d (mm cs l (shu day)) -> Keep (cs.map (·.ob)) H H' -> NoT H' -> Q .non H'
theorem rj (T : Txt K mg a) : bd P w K mg base (XE P w) 6 a.iy a.j6 ["self", "path", "day"] (sp_yP a.bA a.aT) := by
 refine T.mj.okX kc (fun vs H Q E h => sp3.len h) (fun cdv A outer s H vs Q E hr h => ?_)
 obtain ⟨x0, x1, x2, rfl, h⟩ := sp3.inv h
 try dsimp only [sp_yP, sp3] at h
 have ND := kc.nd
 have HU := aM hr
 obtain ⟨hN, h1⟩ := h
 obtain ⟨p, rfl, h2⟩ := asR.inv h1
 obtain ⟨l, rfl, hl, h3⟩ := asT.inv h2
 obtain ⟨day, rfl, hd, d, cs, u, J, hu, pu, e, un, uf, ub, k⟩ := asI.inv h3
 obtain ⟨dx, hp⟩ := J.ob
 have G_Account_stands_later := g8 (P := P) (w := w) (base := base) T
 have b_Account_stands_later := hZ T.d9
 have G_is_day := rC (P := P) (w := w) (base := base) T
 have b_is_day := rQ T.jm
 have G_Chart_account := gX (P := P) (w := w) (base := base) T
 have b_Chart_account := hX T.fo
 have G_is_path := oY (P := P) (w := w) (base := base) T
 have b_is_path := qz T.ia
 refine ⟨_, (ah (bF (dI (cT (al G_is_path (hr.mono (by decide)) rfl T.rV T.ia.kp b_is_path .nil aD (FA.pa (aa (fv 1) ae))))) (ai (bO T.mP PySem.F.excBase_ValueError rfl rfl T.mV cz (FA.pa (aa (aK [116, 104, 105, 115, 32, 105, 115, 32, 110, 111, 32, 112, 97, 116, 104]) ae)))) aS)
  (ah (aH (i := 3) ND rfl (Or.inl rfl) (cK (fv 0) T.cp T.hG G_Chart_account (hr.mono (by decide)) b_Chart_account .nil aD (FA.pa (aa (fv 1) ae))))
  (ah (bF (L2.PW.pt (pU (dI (cT (al G_is_day (hr.mono (by decide)) rfl T.vJ T.jm.kp b_is_day .nil aD (FA.pa (aa (fv 2) ae))))) (pw (bo fQ (fv 2) (bz K (fv 3)) (aY _))))) (ai (bO T.vn PySem.F.excBase_ValueError rfl rfl T.uV cz (FA.pa (aa (aK [116, 104, 105, 115, 32, 105, 115, 32, 110, 111, 32, 100, 97, 121, 32, 98, 101, 104, 105, 110, 100, 32, 116, 104, 101, 32, 97, 99, 99, 111, 117, 110, 116, 39, 115, 32, 102, 105, 114, 115, 116, 32, 111, 110, 101]) ae)))) aS)
  (ah (bF (nX (lT (bz K (fv 3)))) (ai (bO T.sw PySem.F.excBase_ValueError rfl rfl T.sf cz (FA.pa (aa (aK [116, 104, 101, 32, 97, 99, 99, 111, 117, 110, 116, 32, 119, 97, 115, 32, 115, 104, 117, 116]) ae)))) aS)
  (ah (bF (rJ (cT (aJ (Ck K rfl) rfl T.Gg Eu (FA.pa (aa (c6 rfl (cl := _) (x := "lower") (xs := ["lower"]) (fr := ["day", "self"]) (ks := [2, 0]) (by exact ⟨rfl, by decide +kernel, rfl, by decide +kernel, rfl, dw rfl, rfl, a7 rfl, a7 (k := fun y => List.lookup y _) rfl, dA rfl⟩) rfl (dl K (bz K (fv 3))) (fun _ _ _ _ _ => (aO (i := 0) (ig (l := ["lower", "day", "self"]) (by decide)) rfl (Or.inl rfl))) (fun _ _ _ _ _ => iA) (fun _ _ _ _ _ => (cK (dB (Nat.lt_of_le_of_lt (Nat.add_le_add_left (by decide) _) HU) (bz K (fv 2)) (fv 0) (fun _ _ => rfl)) T.a_ T.g7 G_Account_stands_later (hr.mono (by decide)) b_Account_stands_later .nil yR (FA.pa (aa (fv 1) ae))))) ae))))) (ai (bO T.xb PySem.F.excBase_ValueError rfl rfl T.w4 cz (FA.pa (aa (aK [97, 110, 32, 97, 99, 99, 111, 117, 110, 116, 32, 98, 101, 110, 101, 97, 116, 104, 32, 105, 115, 32, 111, 112, 101, 110, 32, 116, 104, 101, 110]) ae)))) aS)
  (ai (eS K (fv 3) (fv 2)))))))), ?_⟩
 walk_at "rd"
 refine ⟨hN, hl, itn (by rw [e]; decide) ?_⟩
 refine ⟨_, _, hp, pV _, hN, d, cs, J, ?_⟩
 rw [show fnd cs l = some u by rw [<- pu]; exact Aq J.np hu]
 obtain ⟨du, ho⟩ := (J.ac u hu).ob
 dsimp only
 refine ⟨hN, ?_⟩
 have ed : amg (.int day) 0 146096 = true := by show (decide (0 <= day) && decide (day <= 146096)) = true; rw [decide_eq_true hd.1, decide_eq_true hd.2]; rfl
 rw [ed]
 refine itn (by decide) ⟨_, _, _, _, ho, T.a_, T.fm, ff .., ?_⟩
 walk_at "rd"
 refine itn (by omega) ⟨_, _, _, _, ho, T.a_, T.bU, fu .., ?_⟩
 rw [un]
 refine itp rfl ⟨hN, ?_⟩
 have hb : SqL K H u.bl [] := SqL.of (by rw [(J.ac u hu).ls, ub]; rfl)
 refine cmL u.bl [] (fun H' => SqL K H' u.bl []) (fun D ys hD => hb.same (aq _ hD)) (fun H' c => c) (fun _ => true) (fun x => x) (fun R r => ?_) hb (Nat.zero_le _) (fun x hx => nomatch hx) (fun x hx => nomatch hx) (fun D hD => ?_)
 ·walk_at "rd"
  exact ⟨_, _, _, _, ho, T.a_, T.fq, fb .., r⟩
 ·refine ⟨[], SqL.of ag, H, Gc.none (aq _ hD), itn (by decide) ⟨_, _, _, ho, T.a_, T.bU, by show 5 < 1000; decide, ?_⟩⟩
  rw [Ft]
  have J1 := J.shutA hu day ho
  rw [pu] at J1
  exact k _ J1 (Keep.refl.put (List.mem_map_of_mem hu)) (az hN rfl)
end
open PySem L2 K19 K22
section
variable {P : Program} {w : World} {K : PySem.W.Frag} {mg : Str -> Option Value} {base : Heap} {a : Adr}
def Fy (C dx b u : Addr) : HO := .ins C dx [("bookings", .ref b), ("undoings", .ref u)]
theorem lkb (x y : V) : List.lookup (Str.ofString "bookings") [(Str.ofString "bookings", x), (Str.ofString "undoings", y)] = some x := kA
structure JAt (C : Addr) (H : Hp) (p b u : Addr) (bs : List V) : Prop where
 ob : ∃ dx, H p = some (Fy C dx b u)
 ls : H b = some (.lst bs)
 dc : H u = some (.dK [])
theorem JAt.keep {C : Addr} {S : List Addr} {H H' : Hp} {p b u : Addr} {bs : List V} (j : JAt C H p b u bs) (x : Keep S H H') (hp : p ∉ S) (hb : b ∉ S) (hu : u ∉ S) : JAt C H' p b u bs :=
 ⟨by obtain ⟨dx, e⟩ := j.ob; exact ⟨dx, x _ _ e hp⟩, x _ _ j.ls hb, x _ _ j.dc hu⟩
def sp_r6 (C : Addr) : Sp := sp1 fun x H Q _ => NoT H /\ asR x fun p => ∃ dx, H p = some (.ins C dx []) /\ ∀ b u H', H b = none -> H u = none -> JAt C H' p b u [] -> Keep [p] H H' -> NoT H' -> Q .non H'
theorem jY (T : Txt K mg a) : bd P w K mg base (XE P w) 1 a.cJ a.fz ["self"] (sp_r6 a.aR) := by
 refine T.fW.okX jW (fun vs H Q E h => sp1.len h) (fun cdv A outer s H vs Q E hr h => ?_)
 obtain ⟨x0, rfl, h⟩ := sp1.inv h
 try dsimp only [sp_r6, sp1] at h
 obtain ⟨hN, h1⟩ := h
 obtain ⟨p, rfl, dx, hp, k⟩ := asR.inv h1
 refine ⟨_, (ah (eS K (fv 0) (cj (FA.pa ae)))
  (ai (eS K (fv 0) tm))), ?_⟩
 walk_at "rd"
 refine ⟨Nat.zero_le _, fun b hb => ?_⟩
 have np : p ≠ b := au hp hb
 refine ⟨_, _, _, (aj np).trans hp, T.b9, T.cI, by show 0 < 1000; decide, fun u hu => ?_⟩
 have nu : p ≠ u := fun q => by rw [<- q, ag] at hu; cases hu
 have nb : b ≠ u := fun q => by rw [<- q, aj (Ne.symm np), ag] at hu; cases hu
 refine ⟨_, _, _, (aj nu).trans ag, T.b9, T.ko, by show 1 < 1000; decide, ?_⟩
 have hu0 : H u = none := by
  rw [aj (Ne.symm nu), aj (Ne.symm nb)] at hu; exact hu
 refine k b u _ hb hu0 ⟨⟨dx, ?_⟩, ?_, ?_⟩ ?_ ?_
 ·rw [ag]
  have e : eh (Str.ofString "undoings") (V.ref u) (eh (Str.ofString "bookings") (V.ref b) []) = [(Str.ofString "bookings", .ref b), (Str.ofString "undoings", .ref u)] := by
   have q : ¬ (Str.ofString "bookings" = Str.ofString "undoings") := by decide +kernel
   simp [eh, q]
  rw [e]; rfl
 ·rw [aj (Ne.symm np), aj nb, aj (Ne.symm np), ag]
 ·rw [aj (Ne.symm nu), ag]
 ·exact (((Keep.refl.new hb).put (List.mem_singleton.2 rfl)).new hu).put (List.mem_singleton.2 rfl)
 ·exact az (az (az (az hN rfl) rfl) rfl) rfl
def sp_wu (C : Addr) : Sp := sp5 fun x d n r o H Q _ => NoT H /\ asR x fun p => asR r fun r => o = .non /\ ∃ b u bs rs, JAt C H p b u bs /\ bs.length <= 100 /\ H r = some (.lst rs) /\
 ∀ t q H', H t = none -> H' t = some (.tup rs) -> H q = none -> H' q = some (.tup [.int bs.length, d, n, .ref t, .non]) -> JAt C H' p b u (bs ++ [.ref q]) -> Keep [b] H H' -> NoT H' -> Q (.int bs.length) H'
theorem jB (T : Txt K mg a) : bd P w K mg base (XE P w) 1 a.gS a.i4 ["self", "day", "note", "rows", "undoes"] (sp_wu a.aR) := by
 refine T.gL.okX jy (fun vs H Q E h => sp5.len h) (fun cdv A outer s H vs Q E hr h => ?_)
 obtain ⟨x0, x1, x2, x3, x4, rfl, h⟩ := sp5.inv h
 try dsimp only [sp_wu, sp5] at h
 have ND := jy.nd
 have HU := aM hr
 obtain ⟨hN, h1⟩ := h
 obtain ⟨p, rfl, h2⟩ := asR.inv h1
 obtain ⟨r, rfl, rfl, b, u, bs, rs, J, l1, hs, k⟩ := asR.inv h2
 obtain ⟨dx, hp⟩ := J.ob
 refine ⟨_, (ah (aH (i := 5) ND rfl (Or.inl rfl) (aJ (cF K) rfl T.fJ dR (FA.pa (aa (bz K (fv 0)) ae))))
  (ah (cg (e6 K PySem.F.plainAttrs_list PySem.F.slot_list_append PySem.F.type_list_append d5 (bz K (fv 0)) (FA.pa (aa (aZ (FA.pa (aa (fv 5) (aa (fv 1) (aa (fv 2) (aa (fI (ph K) rfl T.mD jq (FA.pa (aa (fv 3) ae))) (aa (fv 4) ae))))))) ae))))
  (ah (bF (nX (lT (fv 4))) (ai (iu (Nat.lt_of_le_of_lt (Nat.add_le_add_left (by decide) _) HU) (bz K (fv 0)) (fv 4) (fv 5) rfl)) aS)
  (ai (aL (fv 5)))))), ?_⟩
 walk_at "rd"
 refine ⟨_, _, _, _, hp, T.b9, T.cI, lkb _ _, bs, .inl (.inl (.inl J.ls)), _, _, _, _, hp, T.b9, T.cI, lkb _ _, .inl ⟨rfl, bs, .inl (.inl J.ls)⟩, rs, .inl ⟨SqL.of hs, fun t ht => ⟨by rw [sizeLine_eq]; decide, fun q hq => ?_⟩⟩⟩
 have nb : p ≠ b := eD hp J.ls (by intro z; cases z)
 have bu : b ≠ u := eD J.ls J.dc (by intro z; cases z)
 have tp : p ≠ t := au hp ht
 have tb : b ≠ t := au J.ls ht
 have tu : u ≠ t := au J.dc ht
 have s1 := aq (HO.tup rs) ht
 have qb := au (s1 _ _ J.ls) hq
 have qu := au (s1 _ _ J.dc) hq
 have qp := au (s1 _ _ hp) hq
 have qt : t ≠ q := au ag hq
 have q0 : H q = none := s1.free hq
 refine ⟨b, bs, _, rfl, rfl, by rw [aj qb, aj tb]; exact J.ls, by rw [sizeLine_eq]; omega, ?_⟩
 refine k t q _ ht ?_ q0 ?_ ⟨⟨dx, ?_⟩, ag, ?_⟩ (((Keep.refl.new ht).new hq).put (.head _)) (az (az (az hN rfl) rfl) rfl)
 ·rw [aj (Ne.symm tb), aj qt, ag]
 ·rw [aj (Ne.symm qb), ag]
 ·rw [aj nb, aj qp, aj tp]; exact hp
 ·rw [aj (Ne.symm bu), aj qu, aj tu]; exact J.dc
def sp_qi (C : Addr) : Sp := sp1 fun x H Q _ => NoT H /\ asR x fun p => ∃ b u bs, JAt C H p b u bs /\ ∀ q, H q = none -> Q (.ref q) (upd H q (.lst bs))
theorem eN (T : Txt K mg a) : bd P w K mg base (XE P w) 1 a.e9 a.hU ["self"] (sp_qi a.aR) := by
 refine T.dv.okG m6 (fun vs H Q E h => sp1.len h) (fun cdv A outer s H vs Q E hr h => ?_)
 obtain ⟨x0, rfl, h⟩ := sp1.inv h
 try dsimp only [sp_qi, sp1] at h
 obtain ⟨hN, h1⟩ := h
 obtain ⟨p, rfl, b, u, bs, J, k⟩ := asR.inv h1
 obtain ⟨dx, hp⟩ := J.ob
 refine ⟨hN, _, (ai (aL (fI (yU K) rfl T.AK xG (FA.pa (aa (bz K (fv 0)) ae))))), ?_⟩
 walk_at "rd"
 exact ⟨_, _, _, _, hp, T.b9, T.cI, lkb _ _, bs, .inl (.inl (.inl J.ls)), fun l hl => ⟨_, Gc.one (aq _ hl) hl ag rfl, k l hl⟩⟩
end
open PySem L2 K19 K22
section
variable {pS : Addr} {ns : List Int} {P : Program} {w : World} {K : PySem.W.Frag} {mg : Str -> Option Value} {base : Heap} {a : Adr}
theorem eJ {H H' : Hp} {D : Addr} {o : HO} (s : Same H H') (h : H D = none) : Same H (upd H' D o) := fun c z e => by
 rw [aj (au e h)]; exact s c z e
def RwAt (H : Hp) (v : V) (r : Row) : Prop := ∃ q, v = .ref q /\ H q = some (.tup [L2.T r.pa, L2.T r.cu, .int r.am])
def BkAt (H : Hp) (v : V) (b : Bk) : Prop := ∃ q t vs nt, v = .ref q /\ H q = some (.tup [.int b.k, .int b.d, L2.T nt, .ref t, .non]) /\ H t = some (.tup vs) /\ A2 (RwAt H) vs b.rs
def LW (W : List Addr) (H : Hp) : Prop := ∀ s ∈ W, ∃ l, H s = some (.lst l)
theorem LW.nil {H : Hp} : LW [] H := fun _ h => nomatch h
theorem LW.one {H : Hp} {s : Addr} {xs : List V} (h : H s = some (.lst xs)) : LW [s] H := fun z m => by rw [List.mem_singleton.mp m]; exact ⟨_, h⟩
theorem LW.no {W : List Addr} {H : Hp} (t : LW W H) {q : Addr} {o : HO} (h : H q = some o) (n : ∀ l, o ≠ .lst l) : q ∉ W := fun m => by
 obtain ⟨l, e⟩ := t q m
 rw [h] at e; cases e; exact n _ rfl
theorem LW.tup {W : List Addr} {H : Hp} (t : LW W H) {q : Addr} {l : List V} (h : H q = some (.tup l)) : q ∉ W := t.no h (by intro _ z; cases z)
section
variable {W : List Addr} {H H' : Hp} (x : Keep W H H') (t : LW W H)
include x t
theorem RwAt.keep {v : V} {r : Row} (h : RwAt H v r) : RwAt H' v r := by
 obtain ⟨q, rfl, e⟩ := h
 exact ⟨q, rfl, x _ _ e (t.tup e)⟩
theorem dX {vs : List V} {rs : List Row} (h : A2 (RwAt H) vs rs) : A2 (RwAt H') vs rs := h.imp fun _ _ _ _ r => r.keep x t
theorem BkAt.keep {v : V} {b : Bk} (h : BkAt H v b) : BkAt H' v b := by
 obtain ⟨q, u, vs, nt, rfl, e1, e2, r⟩ := h
 exact ⟨q, u, vs, nt, rfl, x _ _ e1 (t.tup e1), x _ _ e2 (t.tup e2), dX x t r⟩
theorem pE {vs : List V} {bs : List Bk} (h : A2 (BkAt H) vs bs) : A2 (BkAt H') vs bs := h.imp fun _ _ _ _ r => r.keep x t
end
theorem dY {H H' : Hp} (s : Same H H') {vs : List V} {rs : List Row} (h : A2 (RwAt H) vs rs) : A2 (RwAt H') vs rs := dX (W := []) (Keep.same s) LW.nil h
theorem mi {H H' : Hp} (s : Same H H') {vs : List V} {bs : List Bk} (h : A2 (BkAt H) vs bs) : A2 (BkAt H') vs bs := pE (W := []) (Keep.same s) LW.nil h
end
open PySem L2 K19 K22
section
variable {P : Program} {w : World} {K : PySem.W.Frag} {mg : Str -> Option Value} {base : Heap} {a : Adr}
theorem pX (x y : V) : List.lookup (Str.ofString "every") [(Str.ofString "bookings", x), (Str.ofString "undoings", y)] = none := by rw [bn (by decide +kernel), bn (by decide +kernel)]; rfl
theorem eP {α : Type} {l : List α} {i : Nat} {x : α} (h : l[i]? = some x) : l.take (i + 1) = l.take i ++ [x] := by rw [List.take_succ, h]; rfl
theorem yj (o : Option Int) (j : Int) : (o.map V.int).getD (.int j) = .int (o.getD j) := by cases o <;> rfl
def EL (H : Hp) (Q : VK) (rs : List Row) : Prop := ∀ out r ws H', out.Perm ((dk rs).map (·.1)) -> rm out -> H r = none -> H' r = some (.lst ws) -> A2 (RwAt H') ws (res rs out) -> Same H H' -> NoT H' -> Q (.ref r) H'
def flt (H H' : Hp) : Hp := fun p => match H p with
 | some o => some o
 | none => match H' p with
  | some o => if ll o = true then some o else none
  | none => none
theorem xI {H H' : Hp} {p : Addr} {o : HO} (h : H p = some o) : flt H H' p = some o := by unfold flt; rw [h]
theorem xk {H H' : Hp} (s : Same H H') {p : Addr} {o : HO} (h : H' p = some o) (n : ll o = true) : flt H H' p = some o := by
 cases e : H p with
 | some z => rw [s _ _ e] at h; cases h; exact xI e
 | none => unfold flt; simp only [e, h, n, if_true]
theorem um {H H' : Hp} {p : Addr} {o : HO} (h : flt H H' p = some o) : H p = some o \/ (H' p = some o /\ ll o = true) := by
 unfold flt at h
 cases e : H p with
 | some z => rw [e] at h; exact .inl h
 | none =>
  simp only [e] at h
  cases e2 : H' p with
  | none => rw [e2] at h; cases h
  | some z =>
   simp only [e2] at h
   split at h
   ·rename_i q; cases h; exact .inr ⟨rfl, q⟩
   ·cases h
theorem Gc.flt {H H' : Hp} (s : Same H H') : Gc H (flt H H') H' := ⟨fun _ _ e => xI e, fun p o e => (um e).elim (s p o) (·.1), fun p o e => (um e).imp id (·.2)⟩
theorem yl {H H' : Hp} (n : NoT H) : NoT (flt H H') := fun p o e => by
 rcases um e with q | ⟨_, q⟩
 ·exact n p o q
 ·cases o <;> first | rfl | cases q
theorem vK {H H' : Hp} (s : Same H H') {vs : List V} {rs : List Row} (h : A2 (RwAt H') vs rs) : A2 (RwAt (flt H H')) vs rs := h.imp fun _ _ _ _ ⟨q, e, r⟩ => ⟨q, e, xk s r rfl⟩
theorem v7 {H0 F : Hp} {D p : Addr} {ys : List V} {rs : List Row} (r : Row) (s : Same H0 F) (fD : H0 D = none) (hD : F D = some (.lst ys)) (hp : F p = none) (aw : A2 (RwAt F) ys rs) :
 upd F p (.tup [L2.T r.pa, L2.T r.cu, .int r.am]) D = some (.lst ys) /\ Same H0 (upd (upd F p (.tup [L2.T r.pa, L2.T r.cu, .int r.am])) D (.lst (ys ++ [.ref p]))) /\ A2 (RwAt (upd (upd F p (.tup [L2.T r.pa, L2.T r.cu, .int r.am])) D (.lst (ys ++ [.ref p])))) (ys ++ [.ref p]) (rs ++ [r]) := by
 have s1 := aq (HO.tup [L2.T r.pa, L2.T r.cu, .int r.am]) hp
 have hD1 := s1 _ _ hD
 have kp : Keep [D] (upd F p (.tup [L2.T r.pa, L2.T r.cu, .int r.am])) (upd (upd F p (.tup [L2.T r.pa, L2.T r.cu, .int r.am])) D (.lst (ys ++ [.ref p]))) := Keep.refl.put (.head _)
 exact ⟨hD1, eJ (s.trans s1) fD, (dX kp (LW.one hD1) (dY s1 aw)).snoc ⟨p, rfl, (aj (Ne.symm (au hD hp))).trans ag⟩⟩
def sp_yH : Sp := sp1 fun x H Q _ => NoT H /\ asR x fun p => ∃ vs rs, H p = some (.lst vs) /\ A2 (RwAt H) vs rs /\ rs.length <= 1000 /\ (dk rs).length < 64 /\ EL H Q rs
theorem vo (d : List (Pt × Int)) : (d.map jT).map (·.1) = (d.map (·.1)).map kP := by rw [List.map_map, List.map_map]; rfl
theorem xt (T : Txt K mg a) : bd P w K mg base (XE P w) 1 a.nk a.oZ ["rows"] sp_yH := by
 refine T.mW.okG qc (fun vs H Q E h => sp1.len h) (fun cdv A outer s H vs Q E hr h => ?_)
 obtain ⟨x0, rfl, h⟩ := sp1.inv h
 try dsimp only [sp_yH, sp1] at h
 have ND := qc.nd
 have HU := aM hr
 obtain ⟨hN, h1⟩ := h
 obtain ⟨p, rfl, vs, rs, hp, ha, len, l64, k⟩ := asR.inv h1
 have sz := szl
 refine ⟨hN, _, (ah (aH (i := 1) ND rfl (Or.inr rfl) vR)
  (ah (e_ (by passes_own) rfl (dl K (fv 0)) (jR K (n := 3) rfl (bf (aO (i := 2) ND rfl (Or.inl rfl)) (bf (aO (i := 3) ND rfl (Or.inl rfl)) (bf (aO (i := 4) ND rfl (Or.inl rfl)) gE)))) (ai (iu (Nat.lt_of_le_of_lt (Nat.add_le_add_left (by decide) _) HU) (fv 1) (aZ (FA.pa (aa (fv 2) (aa (fv 3) ae)))) (ak aI (uU (Nat.lt_of_le_of_lt (Nat.add_le_add_left (by decide) _) HU) (fv 1) (aZ (FA.pa (aa (fv 2) (aa (fv 3) ae)))) af ⟨rfl, rfl, rfl, rfl⟩) (fv 4)) rfl)))
  (ai (aL (c6 rfl (cl := _) (x := "path") (xs := ["path", "currency"]) (fr := ["together"]) (ks := [1]) (by exact ⟨rfl, by decide +kernel, rfl, by decide +kernel, rfl, dw rfl, rfl, a7 rfl, a7 (k := fun y => List.lookup y _) rfl, dA rfl⟩) rfl (dl K (aJ (sx rfl) rfl T.vx r8 (FA.pa (aa (fv 1) ae)))) (fun _ _ _ _ _ => (jR K (n := 2) rfl (bf (aO (i := 0) (ig (l := ["path", "currency", "together"]) (by decide)) rfl (Or.inl rfl)) (bf (aO (i := 1) (ig (l := ["path", "currency", "together"]) (by decide)) rfl (Or.inl rfl)) gE)))) (fun _ _ _ _ _ => (lW (bo (gM K HU) (dB (Nat.lt_of_le_of_lt (Nat.add_le_add_left (by decide) _) HU) (fv 2) (aZ (FA.pa (aa (fv 0) (aa (fv 1) ae)))) (fun _ _ => rfl)) af (aY _)))) (fun _ _ _ _ _ => (aZ (FA.pa (aa (fv 0) (aa (fv 1) (aa (dB (Nat.lt_of_le_of_lt (Nat.add_le_add_left (by decide) _) HU) (fv 2) (aZ (FA.pa (aa (fv 0) (aa (fv 1) ae)))) (fun _ _ => rfl)) ae))))))))))), ?_⟩
 walk_at "rd"
 intro d hd
 refine pQ ?_
 walk_at "rd"
 refine qf (SqL.of ((aq _ hd) _ _ hp)) (qy (fun i σ' H' => Same H H' /\ ∃ x2 x3 x4, H' d = some (.dT ((dk (rs.take i)).map jT)) /\ σ' = [some (.ref p), some (.ref d), x2, x3, x4]) ⟨aq _ hd, none, none, none, ag, rfl⟩ (fun i σ' H' _ h => SqL.of (h.1 _ _ hp)) ?_ ?_)
 ·rintro i x σ' H' hx ⟨sm, x2, x3, x4, hd', rfl⟩
  obtain ⟨r, hr, q, rfl, hq⟩ := ha.at_ hx
  have hq' := sm _ _ hq
  walk_at "rd"
  refine ⟨_, _, rfl, SqT.of hq', rfl, _, _, rfl, _, _, rfl, _, _, rfl, rfl, ?_⟩
  walk_at "rd"
  have l1 := (yz (rs.take i)).2.2
  have l2 : (rs.take i).length <= 1000 := by rw [List.length_take]; omega
  refine ⟨.inr ⟨_, .inl hd'⟩, by walk_at "om", fun p1 hp1 => ⟨_, DGet.t (k := kP (r.pa, r.cu)) ((aq _ hp1) _ _ hd') ag, ?_⟩⟩
  rw [jJ, yj]
  walk_at "rd"
  have s1 := aq (HO.tup [L2.T r.pa, L2.T r.cu]) hp1
  refine ⟨by walk_at "om", fun p2 hp2 => ?_⟩
  have s2 := s1.trans (aq (HO.tup [L2.T r.pa, L2.T r.cu]) hp2)
  refine ⟨d, _, rfl, DPut.t (k := kP (r.pa, r.cu)) (s2 _ _ hd') ag (by rw [List.length_map, sizeLine_eq]; omega), ?_⟩
  rw [uJ]
  refine ⟨eJ (sm.trans s2) hd, _, _, _, ?_, rfl, rfl, rfl⟩
  rw [ag, eP hr, tS]; rfl
 ·rintro σ' H' ⟨sm, x2, x3, x4, hd', rfl⟩
  rw [ha.len, List.take_length] at hd'
  walk_at "rd"
  refine v0 ?_
  walk_at "rd"
  refine ⟨_, (dk rs).map (·.1), hd', vo _, by rw [List.length_map]; exact l64, fun out as po oo ao l hl => ?_⟩
  have sl := aq (HO.lst (as.map V.ref)) hl
  have lo := po.length_eq
  rw [List.length_map] at lo
  have la := ao.len
  refine ⟨⟨_, SqL.of ag⟩, yf l (as.map V.ref) (fun D i ys G => Same (upd H' l (.lst (as.map V.ref))) G /\ G D = some (.lst ys) /\ upd H' l (.lst (as.map V.ref)) D = none /\ A2 (RwAt G) ys (res rs (out.take i))) (by rw [List.length_map, sizeLine_eq]; omega) (fun D hD => ⟨aq _ hD, ag, hD, .nil⟩) (fun D i ys G h => ⟨h.2.1, SqL.of (h.1 _ _ ag), ?_⟩) ?_ ?_⟩
  ·rw [h.2.2.2.len]
   exact Nat.le_trans (oR _ _) (by rw [List.length_take]; omega)
  ·rintro D i y ys G zs N1 N0 hy ⟨sG, hD, fD, aG⟩ hz n1 n0
   rw [List.getElem?_map] at hy
   obtain ⟨b, hb, rfl⟩ := Option.map_eq_some_iff.mp hy
   obtain ⟨e, he, kb⟩ := ao.at_ hb
   have kG := sG _ _ (sl _ _ kb)
   have dG := sG _ _ (sl _ _ hd')
   have ve := Aa (po.mem_iff.mp (List.mem_of_getElem? he))
   obtain ⟨z1, z2, rfl⟩ := ex2 hz
   walk_at "rd"
   refine ⟨_, _, rfl, SqT.of kG, rfl, _, _, rfl, _, _, rfl, rfl, ?_⟩
   walk_at "rd"
   have gd : ∀ (F : Hp) (q : Addr), KAt F q e -> F d = some (.dT ((dk (rs)).map jT)) -> DGet F d (.ref q) (some (.int (val (rs) e))) := fun F q h1 h2 => by
    have g := DGet.t (k := kP e) h2 h1
    rwa [jJ, ve] at g
   rw [eP he, vB] at n1 n0
   refine ⟨⟨[some (L2.T e.1), some (L2.T e.2)], rfl, rfl⟩, by walk_at "om", fun p1 hp1 => ?_⟩
   have s1 := aq (HO.tup (tP e)) hp1
   refine ⟨d, _, rfl, gd _ p1 ag (s1 _ _ dG), ?_⟩
   walk_at "rd"
   by_cases hv : val rs e = 0
   ·rw [if_neg fun z => z hv, List.append_nil] at n0
    exact itp hv (n0 _ ⟨sG.trans s1, s1 _ _ hD, fD, dY s1 aG⟩)
   ·rw [if_pos hv] at n1
    refine itn hv ⟨by walk_at "om", fun p2 hp2 => ?_⟩
    have s2 := s1.trans (aq (HO.tup (tP e)) hp2)
    refine ⟨d, _, rfl, gd _ p2 ag (s2 _ _ dG), by walk_at "om", fun p3 hp3 => ?_⟩
    obtain ⟨m1, m2, m3⟩ := v7 ⟨e.1, e.2, val rs e⟩ (sG.trans s2) fD (s2 _ _ hD) hp3 (dY s2 aG)
    exact n1 _ _ m1 ⟨m2, ag, fD, m3⟩
  ·rintro D ys G ⟨sG, hD, fD, aG⟩
   rw [List.length_map, la, List.take_length] at aG
   have sg := (sm.trans sl).trans sG
   exact ⟨_, Gc.flt sg, k out D ys _ po oo ((sm.trans sl).free fD) (xk sg hD rfl) (vK sg aG) (Gc.flt sg).a (yl hN)⟩
def sp_pL : Sp := sp1 fun x H Q _ => NoT H /\ asR x fun p => ∃ vs bs, H p = some (.lst vs) /\ A2 (BkAt H) vs bs /\ bs.length <= 20 /\ (∀ b ∈ bs, b.rs.length <= 40) /\ ∀ r ws H', H r = none -> H' r = some (.lst ws) -> A2 (RwAt H') ws (bs.flatMap (·.rs)) -> Same H H' -> NoT H' -> Q (.ref r) H'
theorem v6 : ∀ {bs : List Bk}, (∀ b ∈ bs, b.rs.length <= 40) -> (bs.flatMap (·.rs)).length <= 40 * bs.length
 | [], _ => Nat.le_refl _
 | b :: r, h => by
  have ih := v6 (bs := r) fun x m => h x (.tail _ m)
  have hb := h b (.head _)
  rw [List.flatMap_cons, List.length_append, List.length_cons]; omega
theorem wJ (T : Txt K mg a) : bd P w K mg base (XE P w) 1 a.m5 a.qd ["bookings"] sp_pL := by
 refine T.nh.okX pC (fun vs H Q E h => sp1.len h) (fun cdv A outer s H vs Q E hr h => ?_)
 obtain ⟨x0, rfl, h⟩ := sp1.inv h
 try dsimp only [sp_pL, sp1] at h
 have ND := pC.nd
 obtain ⟨hN, h1⟩ := h
 obtain ⟨p, rfl, vs, bs, hp, ha, len, ok, k⟩ := asR.inv h1
 have sz := szl
 refine ⟨_, (ah (aH (i := 1) ND rfl (Or.inl rfl) (cj (FA.pa ae)))
  (ah (e_ (by passes_own) rfl (dl K (fv 0)) (aO (i := 2) ND rfl (Or.inl rfl)) (ai (cg (e6 K PySem.F.plainAttrs_list PySem.F.slot_list_extend PySem.F.type_list_extend Cm (fv 1) (FA.pa (aa (aQ (aA K) (fv 2) af (fun _ _ => rfl)) ae))))))
  (ai (aL (fv 1))))), ?_⟩
 walk_at "rd"
 refine ⟨Nat.zero_le _, fun r hr => pQ ?_⟩
 walk_at "rd"
 refine qf (SqL.of ((aq _ hr) _ _ hp)) (qy (fun i σ' H' => Same H H' /\ NoT H' /\ ∃ ws x2, H' r = some (.lst ws) /\ A2 (RwAt H') ws ((bs.take i).flatMap (·.rs)) /\ σ' = [some (.ref p), some (.ref r), x2]) ⟨aq _ hr, az hN rfl, [], none, ag, .nil, rfl⟩ (fun i σ' H' _ h => SqL.of (h.1 _ _ hp)) ?_ ?_)
 ·rintro i x σ' H' hx ⟨sm, nT, ws, x2, hr', aw, rfl⟩
  obtain ⟨b, hb, q, u, us, nt, rfl, e1, e2, ar⟩ := ha.at_ hx
  have e1' := sm _ _ e1
  have e2' := sm _ _ e2
  have lw := aw.len
  have lf := v6 (bs := bs.take i) fun x m => ok x (List.mem_of_mem_take m)
  rw [List.length_take] at lf
  have lb := ok b (List.mem_of_getElem? hb)
  have lu := ar.len
  walk_at "rd"
  refine ⟨.inl ⟨_, SqL.of hr'⟩, _, _, .inr (SqT.of e1'), aB (j := 3) rfl, r, u, ws, us, rfl, rfl, hr', e2', by rw [sizeLine_eq]; omega, eJ sm hr, az nT rfl, _, _, ag, ?_, rfl⟩
  have kp : Keep [r] H' (upd H' r (.lst (ws ++ us))) := Keep.refl.put (.head _)
  rw [eP hb, List.flatMap_append, List.flatMap_cons, List.flatMap_nil, List.append_nil]
  exact (dX kp (LW.one hr') aw).app (dX kp (LW.one hr') (dY sm ar))
 ·rintro σ' H' ⟨sm, nT, ws, x2, hr', aw, rfl⟩
  rw [ha.len, List.take_length] at aw
  walk_at "rd"
  exact k r ws H' hr hr' aw sm nT
def sp_vG (J : Addr) : Sp := sp2 fun x y H Q _ => NoT H /\ asR x fun j => asI y fun t => ∃ b u vs bs, JAt J H j b u vs /\ A2 (BkAt H) vs bs /\ bs.length <= 20 /\ ∀ r ws H', H r = none -> H' r = some (.lst ws) -> A2 (BkAt H') ws (bs.filter fun b => decide (b.d <= t)) -> Same H H' -> NoT H' -> Q (.ref r) H'
theorem gp (T : Txt K mg a) : bd P w K mg base (XE P w) 2 a.eK a.gn ["journal", "day"] (sp_vG a.aR) := by
 refine T.cq.okX lX (fun vs H Q E h => sp2.len h) (fun cdv A outer s H vs Q E hr h => ?_)
 obtain ⟨x0, x1, rfl, h⟩ := sp2.inv h
 try dsimp only [sp_vG, sp2] at h
 obtain ⟨hN, h1⟩ := h
 obtain ⟨j, rfl, h2⟩ := asR.inv h1
 obtain ⟨t, rfl, b, u, vs, bs, JJ, hv, len, k⟩ := asI.inv h2
 have sz := szl
 have G_Journal_every := eN (P := P) (w := w) (base := base) T
 have b_Journal_every := eI T.dv
 refine ⟨_, (ai (aL (c6 rfl (cl := _) (x := "booking") (xs := ["booking"]) (fr := ["day"]) (ks := [1]) (by exact ⟨rfl, by decide +kernel, rfl, by decide +kernel, rfl, dw rfl, rfl, a7 rfl, a7 (k := fun y => List.lookup y _) rfl, dA rfl⟩) rfl (dl K (dZ (fv 0) T.b9 T.eF G_Journal_every (hr.mono (by decide)) b_Journal_every .nil aD)) (fun _ _ _ _ _ => (aO (i := 0) (ig (l := ["booking", "day"]) (by decide)) rfl (Or.inl rfl))) (fun _ _ _ _ _ => (lW (bo fQ (aQ (aA K) (fv 0) af (fun _ _ => rfl)) (fv 1) (aY _)))) (fun _ _ _ _ _ => (fv 0))))), ?_⟩
 obtain ⟨dj, hj⟩ := JJ.ob
 walk_at "rd"
 refine v0 ?_
 walk_at "rd"
 refine ⟨_, _, hj, pX _ _, hN, b, u, vs, JJ, fun l hl => ?_⟩
 have sl := aq (HO.lst vs) hl
 have lv := hv.len
 refine ⟨⟨_, SqL.of ag⟩, yf l vs (fun D i ys G => Same (upd H l (.lst vs)) G /\ NoT G /\ G D = some (.lst ys) /\ upd H l (.lst vs) D = none /\ A2 (BkAt G) ys ((bs.take i).filter fun b => decide (b.d <= t))) (by rw [sizeLine_eq]; omega) (fun D hD => ⟨aq _ hD, az (az hN rfl) rfl, ag, hD, .nil⟩) (fun D i ys G h => ⟨h.2.2.1, SqL.of (h.1 _ _ ag), ?_⟩) ?_ ?_⟩
 ·rw [h.2.2.2.2.len]
  exact Nat.le_trans (List.length_filter_le _ _) (by rw [List.length_take]; omega)
 ·rintro D i y ys G zs N1 N0 hy ⟨sG, nG, hD, fD, aG⟩ hz n1 n0
  obtain ⟨bb, hb1, hb2⟩ := hv.at_ hy
  have hb3 := hb2.keep (W := []) (Keep.same (sl.trans sG)) LW.nil
  obtain ⟨qb, tb, vb, nt, rfl, e1, e2, rw_⟩ := id hb3
  obtain ⟨z1, rfl⟩ := ex1 hz
  walk_at "rd"
  refine ⟨⟨[some (.ref qb)], rfl, rfl⟩, _, _, .inr (SqT.of e1), aB (j := 1) rfl, ?_⟩
  walk_at "rd"
  rw [eP hb1, List.filter_append] at n1 n0
  by_cases h : bb.d <= t
  ·rw [List.filter_cons_of_pos (by simpa using h)] at n1
   have kp : Keep [D] G (upd G D (.lst (ys ++ [.ref qb]))) := Keep.refl.put (.head _)
   exact itp h (n1 _ _ hD ⟨eJ sG fD, az nG rfl, ag, fD, (pE kp (LW.one hD) aG).snoc (hb3.keep kp (LW.one hD))⟩)
  ·rw [List.filter_cons_of_neg (by simpa using h), List.filter_nil, List.append_nil] at n0
   exact itn h (n0 _ ⟨sG, nG, hD, fD, aG⟩)
 ·rintro D ys G ⟨sG, nG, hD, fD, aG⟩
  rw [lv, List.take_length] at aG
  exact k D ys G (sl.free fD) hD aG (sl.trans sG) nG
def sp_AE (J : Addr) : Sp := sp3 fun _ y z H Q _ => NoT H /\ asR y fun j => asI z fun t => ∃ b u vs bs, JAt J H j b u vs /\ A2 (BkAt H) vs bs /\ bs.length <= 20 /\ (∀ b ∈ bs, b.rs.length <= 40) /\ (dk (rsd t bs)).length < 64 /\ EL H Q (rsd t bs)
theorem uR (T : Txt K mg a) : bd P w K mg base (XE P w) 3 a.lm a.og ["chart", "journal", "day"] (sp_AE a.aR) := by
 refine T.kj.okX wt (fun vs H Q E h => sp3.len h) (fun cdv A outer s H vs Q E hr h => ?_)
 obtain ⟨x0, x1, x2, rfl, h⟩ := sp3.inv h
 try dsimp only [sp_AE, sp3] at h
 obtain ⟨hN, h1⟩ := h
 obtain ⟨j, rfl, h2⟩ := asR.inv h1
 obtain ⟨t, rfl, b, u, vs, bs, JJ, hv, len, ok, l64, k⟩ := asI.inv h2
 have G_sums_of := xt (P := P) (w := w) (base := base) T
 have b_sums_of := xn T.mW
 have G_rows_of := wJ (P := P) (w := w) (base := base) T
 have b_rows_of := xh T.nh
 have G_bookings_up_to := gp (P := P) (w := w) (base := base) T
 have b_bookings_up_to := gu T.cq
 refine ⟨_, (ai (aL (al G_sums_of (hr.mono (by decide)) rfl T.zD T.mW.kp b_sums_of .nil aD (FA.pa (aa (al G_rows_of (hr.mono (by decide)) rfl T.y_ T.nh.kp b_rows_of .nil aD (FA.pa (aa (al G_bookings_up_to (hr.mono (by decide)) rfl T.ib T.cq.kp b_bookings_up_to .nil aD (FA.pa (aa (fv 1) (aa (fv 2) ae)))) ae))) ae))))), ?_⟩
 walk_at "rd"
 refine ⟨hN, b, u, vs, bs, JJ, hv, len, fun r ws H1 fr hr aw s1 N1 => ?_⟩
 walk_at "rd"
 refine ⟨N1, ws, _, hr, aw, Nat.le_trans (List.length_filter_le _ _) len, fun x m => ok x (List.mem_filter.mp m).1, fun r2 ws2 H2 fr2 hr2 aw2 s2 N2 => ?_⟩
 walk_at "rd"
 rw [qA] at aw2
 have lr := pB (t := t) ok
 exact ⟨N2, ws2, _, hr2, aw2, by omega, l64, fun out r3 ws3 H3 po oo f3 h3 a3 s3 N3 => k out r3 ws3 H3 po oo ((s1.trans s2).free f3) h3 a3 ((s1.trans s2).trans s3) N3⟩
def sp_yV : Sp := sp2 fun x y H Q _ => NoT H /\ asR x fun m => asI y fun t => ∃ ws bs, H m = some (.lst ws) /\ A2 (BkAt H) ws bs /\ bs.length <= 20 /\ (∀ b ∈ bs, b.rs.length <= 40) /\ (dk (rsd t bs)).length < 64 /\ EL H Q (rsd t bs)
theorem mS (T : Txt K mg a) : bd P w K mg base (XE P w) 3 a.fc a.gU ["_law_bookings", "_law_day_here"] sp_yV := by
 refine T.e7.okG h9 (fun vs H Q E h => sp2.len h) (fun cdv A outer s H vs Q E hr h => ?_)
 obtain ⟨x0, x1, rfl, h⟩ := sp2.inv h
 try dsimp only [sp_yV, sp2] at h
 have ND := h9.nd
 have HU := aM hr
 obtain ⟨hN, h1⟩ := h
 obtain ⟨m0, rfl, h2⟩ := asR.inv h1
 obtain ⟨t, rfl, ws, bs, hm0, hv, len, ok, l64, k⟩ := asI.inv h2
 have sz := szl
 refine ⟨hN, _, (ah (aH (i := 2) ND rfl (Or.inr rfl) vR)
  (ah (e_ (by passes_own) rfl (dl K (fv 0)) (aO (i := 3) ND rfl (Or.inl rfl)) (ai (bF (bo fQ (aQ (aA K) (fv 3) af (fun _ _ => rfl)) (fv 1) (aY _)) (ai (e_ (by passes_own) rfl (xU K (aQ (aA K) (fv 3) af (fun _ _ => rfl))) (jR K (n := 3) rfl (bf (aO (i := 4) ND rfl (Or.inl rfl)) (bf (aO (i := 5) ND rfl (Or.inl rfl)) (bf (aO (i := 6) ND rfl (Or.inl rfl)) gE)))) (ai (iu (Nat.lt_of_le_of_lt (Nat.add_le_add_left (by decide) _) HU) (fv 2) (aZ (FA.pa (aa (fv 4) (aa (fv 5) ae)))) (ak aI (uU (Nat.lt_of_le_of_lt (Nat.add_le_add_left (by decide) _) HU) (fv 2) (aZ (FA.pa (aa (fv 4) (aa (fv 5) ae)))) af ⟨rfl, rfl, rfl, rfl⟩) (fv 6)) rfl)))) aS)))
  (ai (aL (c6 rfl (cl := _) (x := "_law_pair") (xs := ["_law_pair"]) (fr := ["_law_found"]) (ks := [2]) (by exact ⟨rfl, by decide +kernel, rfl, by decide +kernel, rfl, dw rfl, rfl, a7 rfl, a7 (k := fun y => List.lookup y _) rfl, dA rfl⟩) rfl (dl K (aJ (sx rfl) rfl T.vx r8 (FA.pa (aa (fv 2) ae)))) (fun _ _ _ _ _ => (aO (i := 0) (ig (l := ["_law_pair", "_law_found"]) (by decide)) rfl (Or.inl rfl))) (fun _ _ _ _ _ => (lW (bo (gM K HU) (dB (Nat.lt_of_le_of_lt (Nat.add_le_add_left (by decide) _) HU) (fv 1) (fv 0) (fun _ _ => rfl)) af (aY _)))) (fun _ _ _ _ _ => (aZ (FA.pa (aa (aQ (aA K) (fv 0) af (fun _ _ => rfl)) (aa (aQ (aA K) (fv 0) af (fun _ _ => rfl)) (aa (dB (Nat.lt_of_le_of_lt (Nat.add_le_add_left (by decide) _) HU) (fv 1) (fv 0) (fun _ _ => rfl)) ae))))))))))), ?_⟩
 walk_at "rd"
 intro d hd
 refine pQ ?_
 walk_at "rd"
 refine qf (SqL.of ((aq _ hd) _ _ hm0)) (qy (fun i σ' H' => Same H H' /\ ∃ x3 x4 x5 x6, H' d = some (.dT ((dk (rsd t (bs.take i))).map jT)) /\ σ' = [some (.ref m0), some (.int t), some (.ref d), x3, x4, x5, x6]) ⟨aq _ hd, none, none, none, none, ag, rfl⟩ (fun i σ' H' _ h => SqL.of (h.1 _ _ hm0)) ?_ ?_)
 ·rintro i x σ' H' hx ⟨sm, x3, x4, x5, x6, hd', rfl⟩
  obtain ⟨b, hb, q, u, us, nt, rfl, e1, e2, ar⟩ := hv.at_ hx
  have e1' := sm _ _ e1
  have lb := ok b (List.mem_of_getElem? hb)
  have l1 : (rsd t (bs.take i)).length <= 800 := by
   have := pB (t := t) (bs := bs.take i) fun x m => ok x (List.mem_of_mem_take m)
   rw [List.length_take] at this; omega
  rw [eP hb, uY]
  walk_at "rd"
  refine ⟨_, _, .inr (SqT.of e1'), aB (j := 1) rfl, ?_⟩
  walk_at "rd"
  by_cases h : ¬ b.d <= t
  ·refine itn h ⟨sm, _, _, _, _, ?_, rfl, rfl, rfl, rfl⟩
   rw [if_neg h, List.append_nil]; exact hd'
  have h := Decidable.not_not.mp h
  refine itp h (zW ?_)
  walk_at "rd"
  refine ⟨_, _, .inr (SqT.of e1'), aB (j := 3) rfl, ?_⟩
  refine BU (SqT.of (sm _ _ e2)) (CY (fun j σ' G => Same H G /\ ∃ x4 x5 x6, G d = some (.dT ((dk (rsd t (bs.take i) ++ b.rs.take j)).map jT)) /\ σ' = [some (.ref m0), some (.int t), some (.ref d), some (.ref q), x4, x5, x6]) ⟨sm, _, _, _, by rw [List.take_zero, List.append_nil]; exact hd', rfl⟩ (fun j σ' G _ h => SqT.of (h.1 _ _ e2)) ?_ ?_)
  ·rintro j x σ' G hx ⟨sG, x4, x5, x6, dG, rfl⟩
   obtain ⟨r, hr, q2, rfl, hq⟩ := ar.at_ hx
   have hq' := sG _ _ hq
   walk_at "rd"
   refine ⟨_, _, rfl, SqT.of hq', rfl, _, _, rfl, _, _, rfl, _, _, rfl, rfl, ?_⟩
   walk_at "rd"
   have l2 := (yz (rsd t (bs.take i) ++ b.rs.take j)).2.2
   have l3 : (rsd t (bs.take i) ++ b.rs.take j).length <= 1000 := by rw [List.length_append, List.length_take]; omega
   refine ⟨.inr ⟨_, .inl dG⟩, by walk_at "om", fun p1 hp1 => ⟨_, DGet.t (k := kP (r.pa, r.cu)) ((aq _ hp1) _ _ dG) ag, ?_⟩⟩
   rw [jJ, yj]
   walk_at "rd"
   have s1 := aq (HO.tup [L2.T r.pa, L2.T r.cu]) hp1
   refine ⟨by walk_at "om", fun p2 hp2 => ?_⟩
   have s2 := s1.trans (aq (HO.tup [L2.T r.pa, L2.T r.cu]) hp2)
   refine ⟨d, _, rfl, DPut.t (k := kP (r.pa, r.cu)) (s2 _ _ dG) ag (by rw [List.length_map, sizeLine_eq]; omega), ?_⟩
   rw [uJ]
   refine ⟨eJ (sG.trans s2) hd, _, _, _, ?_, rfl, rfl, rfl⟩
   rw [ag, eP hr, <- List.append_assoc, tS]; rfl
  ·rintro σ' G ⟨sG, x4, x5, x6, dG, rfl⟩
   rw [ar.len, List.take_length] at dG
   exact ⟨sG, _, _, _, _, by rw [if_pos h]; exact dG, rfl⟩
 ·rintro σ' H' ⟨sm, x3, x4, x5, x6, hd', rfl⟩
  rw [hv.len, List.take_length] at hd'
  walk_at "rd"
  refine v0 ?_
  walk_at "rd"
  refine ⟨_, (dk (rsd t bs)).map (·.1), hd', vo _, by rw [List.length_map]; exact l64, fun out as po oo ao l hl => ?_⟩
  have sl := aq (HO.lst (as.map V.ref)) hl
  have lo := po.length_eq
  rw [List.length_map] at lo
  have la := ao.len
  refine ⟨⟨_, SqL.of ag⟩, yf l (as.map V.ref) (fun D i ys G => Same (upd H' l (.lst (as.map V.ref))) G /\ G D = some (.lst ys) /\ upd H' l (.lst (as.map V.ref)) D = none /\ A2 (RwAt G) ys (res (rsd t bs) (out.take i))) (by rw [List.length_map, sizeLine_eq]; omega) (fun D hD => ⟨aq _ hD, ag, hD, .nil⟩) (fun D i ys G h => ⟨h.2.1, SqL.of (h.1 _ _ ag), ?_⟩) ?_ ?_⟩
  ·rw [h.2.2.2.len]
   exact Nat.le_trans (oR _ _) (by rw [List.length_take]; omega)
  ·rintro D i y ys G zs N1 N0 hy ⟨sG, hD, fD, aG⟩ hz n1 n0
   rw [List.getElem?_map] at hy
   obtain ⟨b, hb, rfl⟩ := Option.map_eq_some_iff.mp hy
   obtain ⟨e, he, kb⟩ := ao.at_ hb
   have kG := sG _ _ (sl _ _ kb)
   have dG := sG _ _ (sl _ _ hd')
   have ve := Aa (po.mem_iff.mp (List.mem_of_getElem? he))
   obtain ⟨z1, rfl⟩ := ex1 hz
   have gd : ∀ (F : Hp) (q : Addr), KAt F q e -> F d = some (.dT ((dk (rsd t bs)).map jT)) -> DGet F d (.ref q) (some (.int (val (rsd t bs) e))) := fun F q h1 h2 => by
    have g := DGet.t (k := kP e) h2 h1
    rwa [jJ, ve] at g
   rw [eP he, vB] at n1 n0
   walk_at "rd"
   refine ⟨⟨[some (.ref b)], rfl, rfl⟩, d, _, rfl, gd _ b kG dG, ?_⟩
   walk_at "rd"
   by_cases hv : val (rsd t bs) e = 0
   ·rw [if_neg fun z => z hv, List.append_nil] at n0
    exact itp hv (n0 _ ⟨sG, hD, fD, aG⟩)
   ·rw [if_pos hv] at n1
    refine itn hv ⟨_, _, .inr (SqT.of kG), aB (j := 0) rfl, _, _, .inr (SqT.of kG), aB (j := 1) rfl, d, _, rfl, gd _ b kG dG, by walk_at "om", fun p3 hp3 => ?_⟩
    obtain ⟨m1, m2, m3⟩ := v7 ⟨e.1, e.2, val (rsd t bs) e⟩ sG fD hD hp3 aG
    exact n1 _ _ m1 ⟨m2, ag, fD, m3⟩
  ·rintro D ys G ⟨sG, hD, fD, aG⟩
   rw [List.length_map, la, List.take_length] at aG
   have sg := (sm.trans sl).trans sG
   exact ⟨_, Gc.flt sg, k out D ys _ po oo ((sm.trans sl).free fD) (xk sg hD rfl) (vK sg aG) (Gc.flt sg).a (yl hN)⟩
end
open PySem L2 K19 K22
section
variable {P : Program} {w : World} {K : PySem.W.Frag} {mg : Str -> Option Value} {base : Heap} {a : Adr}
open K3
def sp_lL : Sp := sp1 fun x H Q _ => NoT H /\ asI x fun y => Q (.int (LD y)) H
theorem sR (T : Txt K mg a) : bd P w K mg base (XE P w) 1 a.jF a.lQ ["years"] sp_lL := by
 refine T.gw.okX ua (fun vs H Q E h => sp1.len h) (fun cdv A outer s H vs Q E hr h => ?_)
 obtain ⟨x0, rfl, h⟩ := sp1.inv h
 try dsimp only [sp_lL, sp1] at h
 obtain ⟨hN, h1⟩ := h
 obtain ⟨y, rfl, k⟩ := asI.inv h1
 refine ⟨_, (ai (aL (ak aI (ak dP (ak a9 (ak aI (fv 0) af) af) (ak a9 (ak aI (fv 0) af) af)) (ak a9 (ak aI (fv 0) af) af)))), ?_⟩
 walk_at "rd"
 exact k
def LEN : List Int := [31, 28, 31, 30, 31, 30, 31, 31, 30, 31, 30, 31]
theorem Av {i : Int} (h0 : 0 <= i) (h1 : i < 12) : (LEN.take i.toNat).sum = K3.S i := by
 obtain ⟨j, rfl⟩ := Int.eq_ofNat_of_zero_le h0
 exact (show ∀ j : Nat, j < 12 -> (LEN.take j).sum = K3.S (j : Int) by decide) j (by omega)
theorem FS (T : Txt K mg a) (H : Hp) : SqT K H a.dW (LEN.map V.int) := .inr T.dW
def sp_lM : Sp := sp1 fun x H Q _ => NoT H /\ asI x fun m => Q (.int (FD m)) H
theorem tj (T : Txt K mg a) : bd P w K mg base (XE P w) 2 a.jk a.lY ["month"] sp_lM := by
 refine T.je.okG lF (fun vs H Q E h => sp1.len h) (fun cdv A outer s H vs Q E hr h => ?_)
 obtain ⟨x0, rfl, h⟩ := sp1.inv h
 try dsimp only [sp_lM, sp1] at h
 have ND := lF.nd
 obtain ⟨hN, h1⟩ := h
 obtain ⟨m, rfl, k⟩ := asI.inv h1
 have G_leap_days := sR (P := P) (w := w) (base := base) T
 have b_leap_days := s_ T.gw
 refine ⟨hN, _, (ah (aH (i := 1) ND rfl (Or.inl rfl) (ak a9 (fv 0) af))
  (ah (aH (i := 2) ND rfl (Or.inl rfl) (ak aV (fv 0) af))
  (ah (aH (i := 3) ND rfl (Or.inl rfl) (Bl (bo xW (fv 2) af (aY _)) (al G_leap_days (hr.mono (by decide)) rfl T.nJ T.gw.kp b_leap_days .nil aD (FA.pa (aa (ak aI (fv 1) af) ae))) (al G_leap_days (hr.mono (by decide)) rfl T.nJ T.gw.kp b_leap_days .nil aD (FA.pa (aa (fv 1) ae)))))
  (ai (aL (ak aI (ak aI (ak iE af (fv 1)) (fv 3)) (aJ (yN K rfl) rfl T.Dl Ao (FA.pa (aa (bv (CM K) (oJ (v := .ref a.dW) rfl T.zg rfl) b4 (bG (fv 2))) ae))))))))), ?_⟩
 walk_at "rd"
 have b0 : 0 <= m % 12 := Int.emod_nonneg _ (by decide)
 have b1 : m % 12 < 12 := Int.emod_lt_of_pos _ (by decide)
 have nw : ¬ (HT.sIx (LEN.map V.int).length 0 none = 0 /\ HT.sIx (LEN.map V.int).length (LEN.map V.int).length (some (m % 12)) = (LEN.map V.int).length) := fun ⟨_, z⟩ => by
  have e : m % 12 = (((m % 12).toNat : Nat) : Int) := by omega
  rw [e, HT.sIx_nat] at z
  have l : (LEN.map V.int).length = 12 := rfl
  rw [l] at z
  omega
 have fin : ∀ (p : Addr), (upd H p (.tup (jX (LEN.map V.int) none (some (m % 12))))) p = some (.tup ((LEN.take (m % 12).toNat).map V.int)) := fun p => by
  rw [ag, AW _ b0, List.map_take]
 split
 ·rename_i h1
  refine ⟨hN, a.dW, _, rfl, FS T _, nw, fun p hp => ⟨LEN.take (m % 12).toNat, .inr (SqT.of (fin p)), ?_⟩⟩
  have e : 365 * (m / 12) + LD (m / 12 + 1) + (LEN.take (m % 12).toNat).sum = FD m := by
   rw [Av b0 b1]; unfold FD; rw [if_pos h1]
  refine ⟨H, Gc.none (aq _ hp), ?_⟩
  rw [e]; exact k
 ·rename_i h1
  refine ⟨hN, a.dW, _, rfl, FS T _, nw, fun p hp => ⟨LEN.take (m % 12).toNat, .inr (SqT.of (fin p)), ?_⟩⟩
  have e : 365 * (m / 12) + LD (m / 12) + (LEN.take (m % 12).toNat).sum = FD m := by
   rw [Av b0 b1]; unfold FD; rw [if_neg h1]
  refine ⟨H, Gc.none (aq _ hp), ?_⟩
  rw [e]; exact k
def sp_oj : Sp := sp1 fun x H Q _ => NoT H /\ asI x fun m => Q (.int (FD (m + 1) - 1)) H
theorem uL (T : Txt K mg a) : bd P w K mg base (XE P w) 3 a.lj a.nK ["month"] sp_oj := by
 refine T.lq.okX u_ (fun vs H Q E h => sp1.len h) (fun cdv A outer s H vs Q E hr h => ?_)
 obtain ⟨x0, rfl, h⟩ := sp1.inv h
 try dsimp only [sp_oj, sp1] at h
 obtain ⟨hN, h1⟩ := h
 obtain ⟨m, rfl, k⟩ := asI.inv h1
 have G_first_day := tj (P := P) (w := w) (base := base) T
 have b_first_day := tw T.je
 refine ⟨_, (ai (aL (ak dP (al G_first_day (hr.mono (by decide)) rfl T.vH T.je.kp b_first_day .nil aD (FA.pa (aa (ak aI (fv 0) af) ae))) af))), ?_⟩
 walk_at "rd"
 exact ⟨hN, k⟩
structure La where
 pa : List Nat
 cu : Option (List Nat)
 fi : Int
 un : Option Int
 ki : List Nat
 ls : Addr
def cuV : Option (List Nat) -> V
 | none => .non
 | some l => L2.T l
def kyL (x : La) : Key × V := (.inr ⟨⟨x.pa⟩⟩, .ref x.ls)
structure AcAt (H : Hp) (d : Addr) (as : List La) : Prop where
 dc : Rd H d (.dK (as.map kyL))
 ls : ∀ x ∈ as, H x.ls = some (.lst [cuV x.cu, .int x.fi, cl x.un, L2.T x.ki])
theorem F8 (l : List Nat) : ∀ ls : List (List Nat), inV (L2.T l) (ls.map L2.T) = decide (l ∈ ls)
 | [] => rfl
 | x :: r => by
  have ih := F8 l r
  unfold inV at ih ⊢
  rw [List.map_cons, List.any_cons, ih]
  by_cases c : x = l
  ·subst c; simp [eqV]
  ·have c2 : ¬ l = x := fun z => c z.symm
   simp [eqV, c, c2]
structure GF (C A : Addr) (H : Hp) (p : Addr) (as : List La) (d : Addr) (cs : List Acc) : Prop where
 at_ : CAt C A H p d cs
 kd : ∀ x ∈ as, ∃ c ∈ cs, c.pa = x.pa /\ c.ki = L2.T x.ki
structure BsOk (as : List La) (cy : List (List Nat)) (bs : List Bk) : Prop where
 l1 : bs.length <= 20
 l2 : ∀ b ∈ bs, b.rs.length <= 40
 mem : ∀ b ∈ bs, ∀ r ∈ b.rs, r.pa ∈ as.map (·.pa) /\ r.cu ∈ cy
theorem BsOk.row {as : List La} {cy : List (List Nat)} {bs : List Bk} (h : BsOk as cy bs) {t : Int} : ∀ r ∈ rsd t bs, r.pa ∈ as.map (·.pa) /\ r.cu ∈ cy := fun r m => by
 obtain ⟨b, mb, mr⟩ := Cj m
 exact h.mem b mb r mr
theorem BsOk.few {as : List La} {cy : List (List Nat)} {bs : List Bk} (h : BsOk as cy bs) (la : as.length <= 8) (lc : cy.length = 3) {t : Int} : (dk (rsd t bs)).length <= 24 := by
 have := Fh (h.row (t := t))
 rw [List.length_map, lc] at this
 omega
theorem AcAt.same {H H' : Hp} {d : Addr} {as : List La} (h : AcAt H d as) (s : Same H H') : AcAt H' d as :=
 ⟨by rcases h.dc with e | ⟨o, e⟩; exact .inl (s _ _ e); exact .inr ⟨o, s _ _ e⟩, fun x m => s _ _ (h.ls x m)⟩
theorem AcAt.val {H : Hp} {d : Addr} {as : List La} (nd : (as.map (·.pa)).Nodup) {x : La} (m : x ∈ as) : ju (as.map kyL) (.inr ⟨⟨x.pa⟩⟩) = some (.ref x.ls) := by
 induction as with
 | nil => cases m
 | cons y r ih =>
  rw [List.map_cons] at nd
  obtain ⟨n1, n2⟩ := List.nodup_cons.mp nd
  by_cases c : y.pa = x.pa
  ·rw [List.map_cons, gT (by unfold kyL; rw [c])]
   rcases List.mem_cons.mp m with rfl | m
   ·rfl
   ·exact absurd (c ▸ List.mem_map_of_mem (f := (·.pa)) m) n1
  ·rw [List.map_cons, fX (fun z => c (by simpa [kyL] using z))]
   rcases List.mem_cons.mp m with rfl | m
   ·exact absurd rfl c
   ·exact ih n2 m
theorem AcAt.get {H : Hp} {d : Addr} {as : List La} (h : AcAt H d as) (nd : (as.map (·.pa)).Nodup) {x : La} (m : x ∈ as) : DGet H d (L2.T x.pa) (some (.ref x.ls)) :=
 .inl ⟨_, .inr ⟨⟨x.pa⟩⟩, h.dc, rfl, (AcAt.val (H := H) (d := d) nd m).symm⟩
theorem Bx : ∀ ls : List (List Nat), A2 (fun (v : V) (c : List Nat) => v = L2.T c) (ls.map L2.T) ls
 | [] => .nil
 | _ :: r => .cons rfl (Bx r)
end
open PySem L2 K19 K22
section
variable {P : Program} {w : World} {K : PySem.W.Frag} {mg : Str -> Option Value} {base : Heap} {a : Adr}
open K3
def sp_at (K : PySem.W.Frag) : Sp := sp2 fun x y H Q _ => asR x fun p => asI y fun k => ∃ ns : List Int, SqL K H p (ns.map V.int) /\ 0 <= k /\ ∀ i, Q (.int i) H
theorem bc (T : Txt K mg a) : bd P w K mg base (XE P w) 1 a.fK a.iL ["_law_script", "_law_k"] (sp_at K) := by
 refine T.aE.okX oz (fun vs H Q E h => sp2.len h) (fun cdv A outer s H vs Q E hr h => ?_)
 obtain ⟨x0, x1, rfl, h⟩ := sp2.inv h
 try dsimp only [sp_at, sp2] at h
 obtain ⟨p, rfl, h1⟩ := asR.inv h
 obtain ⟨k, rfl, ns, hp, k0, q⟩ := asI.inv h1
 refine ⟨_, (ah (bF (bo yi (fv 1) (aJ (cF K) rfl T.fJ dR (FA.pa (aa (fv 0) ae))) (aY _)) (ai (aL (ak aI (aQ (aA K) (fv 0) (fv 1) (fun _ _ => rfl)) (ak iE (ak aV (aQ (aA K) (fv 0) (fv 1) (fun _ _ => rfl)) af) af)))) aS)
  (ai (aL af))), ?_⟩
 walk_at "rd"
 refine ⟨_, .inl hp, ?_⟩
 rw [List.length_map]
 by_cases hk : k < ns.length
 ·obtain ⟨j, rfl⟩ : ∃ j : Nat, k = j := ⟨k.toNat, by omega⟩
  have hj : j < ns.length := by omega
  have e : atI (ns.map V.int) (j : Int) = some (.int ns[j]) := aB (by rw [List.getElem?_map, List.getElem?_eq_getElem hj]; rfl)
  refine itp hk ⟨_, _, .inl hp, e, ?_⟩
  walk_at "rd"
  refine ⟨_, _, .inl hp, e, ?_⟩
  walk_at "rd"
  exact q _
 ·exact itn hk (q _)
def sp_sk : Sp := sp1 fun x H Q _ => asI x fun _ => Q (.bl true) H
theorem qS (T : Txt K mg a) : bd P w K mg base (XE P w) 1 a.im a.j8 ["_law_found"] sp_sk := by
 refine T.d6.okX qQ (fun vs H Q E h => sp1.len h) (fun cdv A outer s H vs Q E hr h => ?_)
 obtain ⟨x0, rfl, h⟩ := sp1.inv h
 try dsimp only [sp_sk, sp1] at h
 obtain ⟨i, rfl, k⟩ := asI.inv h
 refine ⟨_, (ai (aL (cV (aJ (cN K) rfl T.a8 aW (FA.pa (aa (fv 0) (aa (dt (v := .ty "int") rfl T.A5 wO rfl) ae)))) (df (xz (aJ (cN K) rfl T.a8 aW (FA.pa (aa (fv 0) (aa (dt (v := .ty "bool") rfl T.wU tH rfl) ae))))))))), ?_⟩
 walk_at "rd"
 first | exact k | exact Ea k
def sp_wm : Sp := sp1 fun x H Q _ => asI x fun y => Q (.int (365 * y + LD y)) H
theorem eR (T : Txt K mg a) : bd P w K mg base (XE P w) 1 a.ir a.j_ ["_law_year"] sp_wm := by
 refine T.bx.okX qL (fun vs H Q E h => sp1.len h) (fun cdv A outer s H vs Q E hr h => ?_)
 obtain ⟨x0, rfl, h⟩ := sp1.inv h
 try dsimp only [sp_wm, sp1] at h
 obtain ⟨y, rfl, k⟩ := asI.inv h
 refine ⟨_, (ai (aL (ak aI (ak dP (ak aI (ak iE af (fv 0)) (ak a9 (ak aI (fv 0) af) af)) (ak a9 (ak aI (fv 0) af) af)) (ak a9 (ak aI (fv 0) af) af)))), ?_⟩
 walk_at "rd"
 have e : 365 * y + (y + 3) / 4 - (y + 99) / 100 + (y + 399) / 400 = 365 * y + LD y := by unfold LD; omega
 rw [e]; exact k
theorem DK {y : Int} (h : 0 <= y) : 0 <= LD y := by unfold LD; omega
theorem DM (y : Int) : FD (12 * y) = 365 * y + LD y := by
 unfold FD
 rw [show 12 * y / 12 = y by omega, show 12 * y % 12 = 0 by omega, if_neg (by decide)]
 show _ + S 0 = _
 rw [show S 0 = 0 by decide]; omega
abbrev LNG (y : Int) : List Int := 31 :: (28 + (LD (y + 1) - LD y)) :: R10
theorem BF (y : Int) : (28 : Int) + (if 365 * (y + 1) + LD (y + 1) - (365 * y + LD y) = 366 then 1 else 0) = 28 + (LD (y + 1) - LD y) := by
 have h : LD (y + 1) = LD y + 1 \/ LD (y + 1) = LD y := by
  rw [yw]
  split
  ·exact .inl rfl
  ·exact .inr (Int.add_zero _)
 rcases h with h | h
 ·rw [h, if_pos (by omega)]; omega
 ·rw [h, if_neg (by omega)]; omega
def sp_o7 : Sp := sp1 fun x H Q _ => NoT H /\ asI x fun y => ∀ p, H p = none -> Q (.ref p) (upd H p (.lst ((LNG y).map V.int)))
theorem oC (T : Txt K mg a) : bd P w K mg base (XE P w) 2 a.f_ a.iO ["_law_year"] sp_o7 := by
 refine T.gg.okX iR (fun vs H Q E h => sp1.len h) (fun cdv A outer s H vs Q E hr h => ?_)
 obtain ⟨x0, rfl, h⟩ := sp1.inv h
 try dsimp only [sp_o7, sp1] at h
 have ND := iR.nd
 have HU := aM hr
 obtain ⟨hN, h1⟩ := h
 obtain ⟨y, rfl, k⟩ := asI.inv h1
 have sz := szl
 have G__law_start := eR (P := P) (w := w) (base := base) T
 have b__law_start := eU T.bx
 refine ⟨_, (ah (aH (i := 1) ND rfl (Or.inl rfl) (ak aI af (fI Cw rfl T.A5 wO (FA.pa (aa (d8 (eA K HU) (ak dP (al G__law_start (hr.mono (by decide)) rfl T.c_ T.bx.kp b__law_start .nil aD (FA.pa (aa (ak aI (fv 0) af) ae))) (al G__law_start (hr.mono (by decide)) rfl T.c_ T.bx.kp b__law_start .nil aD (FA.pa (aa (fv 0) ae)))) af (aY _)) ae)))))
  (ai (aL (cj (FA.pa (aa af (aa (fv 1) (aa af (aa af (aa af (aa af (aa af (aa af (aa af (aa af (aa af (aa af ae))))))))))))))))), ?_⟩
 walk_at "rd"
 refine ⟨by walk_at "om", fun p hp => ?_⟩
 rw [BF]; exact k p hp
def sp_yI : Sp := sp1 fun x H Q _ => NoT H /\ asI x fun m => ∀ p H', Same H H' -> NoT H' -> H' p = some (.tup [.int (FD m), .int (FD (m + 1) - 1)]) -> Q (.ref p) H'
theorem dD (T : Txt K mg a) : bd P w K mg base (XE P w) 3 a.eg a.fT ["_law_month_here"] sp_yI := by
 refine T.bt.okX fY (fun vs H Q E h => sp1.len h) (fun cdv A outer s H vs Q E hr h => ?_)
 obtain ⟨x0, rfl, h⟩ := sp1.inv h
 try dsimp only [sp_yI, sp1] at h
 have ND := fY.nd
 obtain ⟨hN, h1⟩ := h
 obtain ⟨m, rfl, k⟩ := asI.inv h1
 have sz := szl
 have G__law_start := eR (P := P) (w := w) (base := base) T
 have b__law_start := eU T.bx
 have G__law_lengths := oC (P := P) (w := w) (base := base) T
 have b__law_lengths := ot T.gg
 refine ⟨_, (ah (aH (i := 1) ND rfl (Or.inl rfl) (al G__law_lengths (hr.mono (by decide)) rfl T.qF T.gg.kp b__law_lengths .nil aD (FA.pa (aa (ak a9 (fv 0) af) ae))))
  (ah (aH (i := 2) ND rfl (Or.inl rfl) (ak aI (al G__law_start (hr.mono (by decide)) rfl T.c_ T.bx.kp b__law_start .nil aD (FA.pa (aa (ak a9 (fv 0) af) ae))) (aJ (yN K rfl) rfl T.Dl Ao (FA.pa (aa (bv (pM K) (fv 1) b4 (bG (ak aV (fv 0) af))) ae)))))
  (ai (aL (aZ (FA.pa (aa (fv 2) (aa (ak dP (ak aI (fv 2) (aQ (aA K) (fv 1) (ak aV (fv 0) af) (fun _ _ => rfl))) af) ae)))))))), ?_⟩
 walk_at "rd"
 refine ⟨hN, fun p hp => ?_⟩
 have s1 := aq (HO.lst ((LNG (m / 12)).map V.int)) hp
 have N1 : NoT (upd H p (HO.lst ((LNG (m / 12)).map V.int))) := az hN rfl
 have g1 : upd H p (HO.lst ((LNG (m / 12)).map V.int)) p = some (HO.lst ((LNG (m / 12)).map V.int)) := ag
 change E0 K (V.ref p) none (some (m % 12)) (upd H p (HO.lst ((LNG (m / 12)).map V.int))) _
 generalize upd H p (HO.lst ((LNG (m / 12)).map V.int)) = G1 at s1 N1 g1 ⊢
 have m0 : 0 <= m % 12 /\ m % 12 < 12 := by omega
 refine ⟨p, _, rfl, SqL.of g1, fun q hq => ?_⟩
 rw [AW _ m0.1, <- List.map_take]
 have s2 := aq (HO.lst (((LNG (m / 12)).take (m % 12).toNat).map V.int)) hq
 have g2 : upd G1 q (HO.lst (((LNG (m / 12)).take (m % 12).toNat).map V.int)) q = some (HO.lst (((LNG (m / 12)).take (m % 12).toNat).map V.int)) := ag
 have N2 : NoT (upd G1 q (HO.lst (((LNG (m / 12)).take (m % 12).toNat).map V.int))) := az N1 rfl
 generalize upd G1 q (HO.lst (((LNG (m / 12)).take (m % 12).toNat).map V.int)) = G2 at s2 g2 N2 ⊢
 refine ⟨_, .inl (SqL.of g2), ?_⟩
 walk_at "rd"
 rw [show 365 * (m / 12) + LD (m / 12) + ((LNG (m / 12)).take (m % 12).toNat).sum = FD m from FJ m]
 have hl : (m % 12).toNat < (LNG (m / 12)).length := by show _ < 12; omega
 have ix : atI ((LNG (m / 12)).map V.int) (m % 12) = some (.int (LG (2000 + m / 12) (1 + m % 12))) := by
  have e := Gs m
  have e2 : m % 12 = ((m % 12).toNat : Int) := by omega
  rw [<- e]
  conv => lhs; rw [e2]
  exact aB (by rw [List.getElem?_map, List.getElem?_eq_getElem hl]; simp [List.getD, List.getElem?_eq_getElem hl])
 refine ⟨_, _, .inl (SqL.of (s2 _ _ g1)), ix, ?_⟩
 walk_at "rd"
 rw [<- yt]
 refine ⟨by walk_at "om", fun p3 hp3 => k p3 _ ((s1.trans s2).trans (aq _ hp3)) (az N2 rfl) ag⟩
def sp_vp : Sp := sp1 fun x H Q _ => NoT H /\ asI x fun d => (0 <= d /\ d <= 146096) /\ ∀ (i : Int) H', 0 <= i -> FD i <= d -> Same H H' -> NoT H' -> Q (.int i) H'
theorem qM (T : Txt K mg a) : bd P w K mg base (XE P w) 4 a.iC a.j2 ["_law_day_here"] sp_vp := by
 refine T.iH.okX j5 (fun vs H Q E h => sp1.len h) (fun cdv A outer s H vs Q E hr h => ?_)
 obtain ⟨x0, rfl, h⟩ := sp1.inv h
 try dsimp only [sp_vp, sp1] at h
 have ND := j5.nd
 obtain ⟨hN, h1⟩ := h
 obtain ⟨d, rfl, ⟨d0, d1⟩, k⟩ := asI.inv h1
 have sz := szl
 have G__law_month_ends := dD (P := P) (w := w) (base := base) T
 have b__law_month_ends := dC T.bt
 have G__law_start := eR (P := P) (w := w) (base := base) T
 have b__law_start := eU T.bx
 refine ⟨_, (ah (aH (i := 1) ND rfl (Or.inl rfl) (ak a9 (ak iE (fv 0) af) af))
  (ah (pj (by passes_own) (bo xW (al G__law_start (hr.mono (by decide)) rfl T.c_ T.bx.kp b__law_start .nil aD (FA.pa (aa (fv 1) ae))) (fv 0) (aY _)) (ai (aH (i := 1) ND rfl (Or.inl rfl) (ak dP (fv 1) af))))
  (ah (pj (by passes_own) (bo fQ (al G__law_start (hr.mono (by decide)) rfl T.c_ T.bx.kp b__law_start .nil aD (FA.pa (aa (ak aI (fv 1) af) ae))) (fv 0) (aY _)) (ai (aH (i := 1) ND rfl (Or.inl rfl) (ak aI (fv 1) af))))
  (ah (aH (i := 2) ND rfl (Or.inl rfl) af)
  (ah (pj (by passes_own) (bo yi (aQ (aA K) (al G__law_month_ends (hr.mono (by decide)) rfl T.d7 T.bt.kp b__law_month_ends .nil aD (FA.pa (aa (ak aI (ak iE af (fv 1)) (fv 2)) ae))) af (fun _ _ => rfl)) (fv 0) (aY _)) (ai (aH (i := 2) ND rfl (Or.inl rfl) (ak aI (fv 2) af))))
  (ai (aL (ak aI (ak iE af (fv 1)) (fv 2))))))))), ?_⟩
 walk_at "rd"
 refine ⟨fun n σ H1 => ∃ y : Int, σ = [some (.int d), some (.int y), none] /\ H = H1 /\ 0 <= y /\ n = y.toNat, ⟨_, _, rfl, rfl, by omega, rfl⟩, ?_⟩
 rintro n σ H1 ⟨y, rfl, rfl, y0, rfl⟩
 walk_at "rd"
 by_cases h2 : d < 365 * y + LD y
 ·have y1 : 1 <= y := by
   by_cases z : y = 0
   ·rw [z] at h2
    have : LD 0 = 0 := by decide
    omega
   ·omega
  exact itp h2 ⟨_, fun σ' H' z => z, (y - 1).toNat, by omega, y - 1, rfl, rfl, by omega, rfl⟩
 ·refine itn h2 ⟨fun n σ H1 => ∃ y : Int, σ = [some (.int d), some (.int y), none] /\ H = H1 /\ 0 <= y /\ 365 * y + LD y <= d /\ n = (d - y).toNat, ⟨_, _, rfl, rfl, y0, by omega, rfl⟩, ?_⟩
  rintro n σ H1 ⟨y, rfl, rfl, y0, h3, rfl⟩
  walk_at "rd"
  by_cases h4 : 365 * (y + 1) + LD (y + 1) <= d
  ·have := DK (y := y + 1) (by omega)
   exact itp h4 ⟨_, fun σ' H' z => z, (d - (y + 1)).toNat, by omega, y + 1, rfl, rfl, by omega, h4, rfl⟩
  ·refine itn h4 ?_
   walk_at "rd"
   refine ⟨fun n σ H1 => ∃ m : Int, σ = [some (.int d), some (.int y), some (.int m)] /\ Same H H1 /\ NoT H1 /\ 0 <= m /\ m <= 11 /\ FD (12 * y + m) <= d /\ n = (11 - m).toNat, ⟨_, _, rfl, Same.refl _, hN, by omega, by omega, by rw [Int.add_zero, DM]; exact h3, rfl⟩, ?_⟩
   rintro n σ H1 ⟨m, rfl, s1, N1, m0, m1, h6, rfl⟩
   walk_at "rd"
   refine ⟨N1, fun p H2 s2 N2 hp => ⟨_, _, .inr (SqT.of hp), aB (j := 1) rfl, ?_⟩⟩
   walk_at "rd"
   by_cases h5 : FD (12 * y + m + 1) - 1 < d
   ·have m2 : m + 1 <= 11 := by
     by_cases z : m = 11
     ·exfalso
      rw [z, show 12 * y + 11 + 1 = 12 * (y + 1) by omega, DM] at h5
      omega
     ·omega
    exact itp h5 ⟨_, fun σ' H' z => z, (11 - (m + 1)).toNat, by omega, m + 1, rfl, s1.trans s2, N2, by omega, m2, by rw [<- Int.add_assoc]; omega, rfl⟩
   ·exact itn h5 (k _ _ (by omega) h6 (s1.trans s2) N2)
def sp_yg (K : PySem.W.Frag) : Sp := sp1 fun x H Q _ => asR x fun p => ∃ ns : List Int, SqL K H p (ns.map V.int) /\ ∀ i : Int, 300 <= i -> i <= 145800 -> Q (.int i) H
theorem iq (T : Txt K mg a) : bd P w K mg base (XE P w) 2 a.jA a.mI ["_law_script"] (sp_yg K) := by
 refine T.cO.okX lP (fun vs H Q E h => sp1.len h) (fun cdv A outer s H vs Q E hr h => ?_)
 obtain ⟨x0, rfl, h⟩ := sp1.inv h
 try dsimp only [sp_yg, sp1] at h
 have ND := lP.nd
 obtain ⟨p, rfl, ns, hp, k⟩ := asR.inv h
 have G__law_start := eR (P := P) (w := w) (base := base) T
 have b__law_start := eU T.bx
 have G__law_cell_at := bc (P := P) (w := w) (base := base) T
 have b__law_cell_at := ba T.aE
 refine ⟨_, (ah (aH (i := 1) ND rfl (Or.inl rfl) (al G__law_cell_at (hr.mono (by decide)) rfl T.aU T.aE.kp b__law_cell_at .nil aD (FA.pa (aa (fv 0) (aa af ae)))))
  (ai (aL (aJ (uB rfl) rfl T.xP tZ (FA.pa (aa af (aa (ak aI (ak dP (al G__law_start (hr.mono (by decide)) rfl T.c_ T.bx.kp b__law_start .nil aD (FA.pa (aa (ak aI (ak aV (fv 1) af) af) ae))) af) (ak aV (ak a9 (fv 1) af) af)) ae))))))), ?_⟩
 walk_at "rd"
 refine ⟨ns, hp, fun i => ?_⟩
 have y1 : 1 <= i % 399 + 1 /\ i % 399 + 1 <= 399 := by omega
 have z1 : 0 <= i / 399 % 50 /\ i / 399 % 50 < 50 := by omega
 generalize i % 399 + 1 = y at y1
 generalize i / 399 % 50 = z at z1
 have f1 := DK (show 0 <= y by omega)
 have f2 : LD y <= 101 := by unfold LD; clear z1 f1; omega
 generalize LD y = t at f1 f2
 refine k _ ?_ ?_
 ·split <;> omega
 ·split <;> omega
def sp_BL (K : PySem.W.Frag) : Sp := sp2 fun x y H Q _ => asR x fun p => asI y fun k => ∃ ns : List Int, SqL K H p (ns.map V.int) /\ 0 <= k /\ ∀ i : Int, 0 <= i -> i <= 146096 -> Q (.int i) H
theorem oa (T : Txt K mg a) : bd P w K mg base (XE P w) 3 a.kf a.nB ["_law_script", "_law_k"] (sp_BL K) := by
 refine T.fO.okX uX (fun vs H Q E h => sp2.len h) (fun cdv A outer s H vs Q E hr h => ?_)
 obtain ⟨x0, x1, rfl, h⟩ := sp2.inv h
 try dsimp only [sp_BL, sp2] at h
 obtain ⟨p, rfl, h1⟩ := asR.inv h
 obtain ⟨j, rfl, ns, hp, k0, k⟩ := asI.inv h1
 have G__law_base := iq (P := P) (w := w) (base := base) T
 have b__law_base := io T.cO
 have G__law_cell_at := bc (P := P) (w := w) (base := base) T
 have b__law_cell_at := ba T.aE
 refine ⟨_, (ai (aL (aJ (BO rfl) rfl T.Dm By (FA.pa (aa af (aa (ak aI (al G__law_base (hr.mono (by decide)) rfl T.jc T.cO.kp b__law_base .nil aD (FA.pa (aa (fv 0) ae))) (ak aV (al G__law_cell_at (hr.mono (by decide)) rfl T.aU T.aE.kp b__law_cell_at .nil aD (FA.pa (aa (fv 0) (aa (fv 1) ae)))) af)) ae)))))), ?_⟩
 walk_at "rd"
 refine ⟨ns, hp, fun i i0 i1 => ⟨ns, hp, k0, fun x => ?_⟩⟩
 refine k _ ?_ ?_
 ·split <;> omega
 ·split <;> omega
end
open PySem L2 K19 K22
section
variable {P : Program} {w : World} {K : PySem.W.Frag} {mg : Str -> Option Value} {base : Heap} {a : Adr}
open K3
theorem jx {ta : TA} {g : TG} {tb : TS} {D : cv} {σ : St} {H : Hp} (h : ta σ H fun vs H1 => ∃ j : Int, vs = [.int j] /\ -(2 ^ 62) <= j /\ j < 2 ^ 62 /\ FE (Itr 0 j.toNat) g tb D σ H1) : qK (Dq ta) g tb D σ H := h
theorem yF (l : List Nat) (lo hi : Option Int) : (h8 l lo hi).length <= l.length := by
 unfold h8; rw [List.length_take, List.length_drop]; omega
theorem oH {l : List Nat} {lo hi : Option Int} {x : Nat} (h : x ∈ h8 l lo hi) : x ∈ l := by
 unfold h8 at h; exact List.mem_of_mem_drop (List.mem_of_mem_take h)
abbrev AH : List Nat := [97, 98, 99, 100, 101, 102, 103, 104]
theorem A7 {l : List Nat} (h : l.length = 8) (x : Int) : ∃ z ∈ l, atI l (x % 8) = some z := by
 obtain ⟨j, e⟩ := Int.eq_ofNat_of_zero_le (Int.emod_nonneg x (show (8 : Int) ≠ 0 by decide))
 have b := Int.emod_lt_of_pos x (show (0 : Int) < 8 by decide)
 rw [e] at b ⊢
 have hj : j < l.length := by omega
 exact ⟨l[j], List.getElem_mem hj, aB (List.getElem?_eq_getElem hj)⟩
structure NmOk (ls : List (List Nat)) : Prop where
 len : ls.length = 5
 nd : ls.Nodup
 nm : ∀ l ∈ ls, nm l = true
def sgs : List (List Nat) := [[107], [109], [112], [107, 109], [122]]
theorem FL {u v s : List Nat} (hs : s ∈ sgs) (lu : u.length + v.length <= 10) (hu : ∀ x ∈ u, x ∈ AH) (hv : ∀ x ∈ v, x ∈ AH) : nm (u ++ s ++ v) = true := by
 have hs2 : 1 <= s.length /\ s.length <= 2 /\ ∀ x ∈ s, 97 <= x /\ x <= 122 := by
  have : ∀ s ∈ sgs, 1 <= s.length /\ s.length <= 2 /\ ∀ x ∈ s, 97 <= x /\ x <= 122 := by decide
  exact this s hs
 have ha : ∀ x ∈ AH, 97 <= x /\ x <= 122 := by decide
 have l : (u ++ s ++ v).length = u.length + s.length + v.length := by rw [List.length_append, List.length_append]
 unfold nm lie
 rw [decide_eq_true (by omega), decide_eq_true (by omega), Bool.true_and, Bool.true_and, List.all_eq_true]
 intro x m
 have : 97 <= x /\ x <= 122 := by
  rcases List.mem_append.mp m with m | m
  ·rcases List.mem_append.mp m with m | m
   ·exact ha x (hu x m)
   ·exact hs2.2.2 x m
  ·exact ha x (hv x m)
 rw [decide_eq_true this.1, decide_eq_true this.2]; rfl
theorem NmOk.of {u v : List Nat} (lu : u.length + v.length <= 10) (hu : ∀ x ∈ u, x ∈ AH) (hv : ∀ x ∈ v, x ∈ AH) : NmOk (sgs.map fun s => u ++ s ++ v) := by
 refine ⟨rfl, ?_, fun l m => ?_⟩
 ·refine List.pairwise_map.mpr ((show sgs.Nodup by decide).imp fun {x y} h e => h ?_)
  exact List.append_cancel_left (List.append_cancel_right e)
 ·obtain ⟨s, ms, rfl⟩ := List.mem_map.mp m
  exact FL ms lu hu hv
theorem B2 {ws : List V} {ls : List (List Nat)} (h : A2 (fun (v : V) (c : List Nat) => v = L2.T c) ws ls) : ws = ls.map L2.T := by
 induction h with
 | nil => rfl
 | cons e _ ih => rw [List.map_cons, e, ih]
def sp_vm : Sp := sp1 fun x H Q _ => NoT H /\ asI x fun c => ∀ p H' (ls : List (List Nat)), Same H H' -> NoT H' -> H p = none -> H' p = some (.lst (ls.map L2.T)) -> NmOk ls -> Q (.ref p) H'
theorem qN (T : Txt K mg a) : bd P w K mg base (XE P w) 1 a.ij a.j4 ["_law_cell"] sp_vm := by
 refine T.ii.okX j7 (fun vs H Q E h => sp1.len h) (fun cdv A outer s H vs Q E hr h => ?_)
 obtain ⟨x0, rfl, h⟩ := sp1.inv h
 try dsimp only [sp_vm, sp1] at h
 have ND := j7.nd
 obtain ⟨hN, h1⟩ := h
 obtain ⟨c, rfl, k⟩ := asI.inv h1
 have sz := szl
 refine ⟨_, (ah (aH (i := 1) ND rfl (Or.inr rfl) (aK []))
  (ah (aH (i := 2) ND rfl (Or.inl rfl) (ak a9 (fv 0) af))
  (ah (e_ (by passes_own) rfl (g_ rfl T.jS (FA.pa (aa (ak aV (fv 0) af) ae))) (aO (i := 3) ND rfl (Or.inl rfl)) (ah (aH (i := 1) ND rfl (Or.inr rfl) (ak aI (fv 1) (aQ (aA K) (aK [97, 98, 99, 100, 101, 102, 103, 104]) (ak aV (fv 2) af) (fun _ _ => rfl))))
  (ai (aH (i := 2) ND rfl (Or.inl rfl) (ak a9 (fv 2) af)))))
  (ah (aH (i := 4) ND rfl (Or.inr rfl) (ak aV (ak a9 (fv 0) af) (ak aI (aJ (cF K) rfl T.fJ dR (FA.pa (aa (fv 1) ae))) af)))
  (ai (aL (c6 rfl (cl := _) (x := "_law_sign") (xs := ["_law_sign"]) (fr := ["_law_word", "_law_at"]) (ks := [1, 4]) (by exact ⟨rfl, by decide +kernel, rfl, by decide +kernel, rfl, dw rfl, rfl, a7 rfl, a7 (k := fun y => List.lookup y _) rfl, dA rfl⟩) rfl (dl K (cj (FA.pa (aa (aK [107]) (aa (aK [109]) (aa (aK [112]) (aa (aK [107, 109]) (aa (aK [122]) ae)))))))) (fun _ _ _ _ _ => (aO (i := 0) (ig (l := ["_law_sign", "_law_word", "_law_at"]) (by decide)) rfl (Or.inl rfl))) (fun _ _ _ _ _ => iA) (fun _ _ _ _ _ => (ak aI (ak aI (bv ql (fv 1) b4 (bG (fv 2))) (fv 0)) (bv ql (fv 1) (bG (fv 2)) b4)))))))))), ?_⟩
 walk_at "rd"
 refine jx ?_
 walk_at "rd"
 refine ⟨by omega, by omega, g6 (lo := 0) (n := (c % 6).toNat) (fun i σ' H' => H = H' /\ ∃ wd x2 x3, wd.length = i /\ (∀ x ∈ wd, x ∈ AH) /\ σ' = [some (.int c), some (L2.T wd), some (.int x2), x3, none]) ⟨rfl, [], _, _, rfl, (fun _ m => nomatch m), rfl⟩ ?_ ?_⟩
 ·rintro i σ' H' hi ⟨rfl, wd, x2, x3, lw, hw, rfl⟩
  obtain ⟨z, mz, ez⟩ := A7 (l := AH) rfl x2
  walk_at "rd"
  refine ⟨by show 8 <= sizeLine; omega, ?_⟩
  show match atI AH (x2 % 8) with | some c => _ | none => False
  rw [ez]
  refine ⟨by omega, wd ++ [z], _, _, by rw [List.length_append, lw]; rfl, fun x m => ?_, rfl, rfl, rfl⟩
  rcases List.mem_append.mp m with m | m
  ·exact hw x m
  ·rw [List.mem_singleton.mp m]; exact mz
 ·rintro σ' H' ⟨rfl, wd, x2, x3, lw, hw, rfl⟩
  walk_at "rd"
  refine ⟨by omega, by omega, v0 ?_⟩
  walk_at "rd"
  refine ⟨by walk_at "om", fun p hp => ⟨⟨_, SqL.of ag⟩, ?_⟩⟩
  generalize c / 8 % ((wd.length : Int) + 1) = t
  have l1 := yF wd none (some t)
  have l2 := yF wd (some t) none
  have s1 := aq (HO.lst (sgs.map L2.T)) hp
  refine ceA (S := fun _ v c => v = L2.T c) (fun _ _ _ _ _ h => h) p (sgs.map L2.T) sgs (fun v c => v = L2.T c) (fun _ => true) (fun s => h8 wd none (some t) ++ s ++ h8 wd (some t) none) ag (az hN rfl) (Bx sgs) (by show 5 < sizeLine; omega) (fun v s ms hs G zs M1 M0 sG nG hz n1 n0 => ?_) fun D ws G hD sG nG gD aG => ?_
  ·subst hs
   obtain ⟨z1, rfl⟩ := ex1 hz
   have ls : s.length <= 2 := (show ∀ s ∈ sgs, s.length <= 2 by decide) s ms
   walk_at "rd"
   exact ⟨⟨[_], rfl, rfl⟩, by omega, by omega, by omega, by rw [List.length_append]; omega, n1 rfl _ _ (Same.refl _) nG rfl⟩
  ·rw [List.filter_eq_self.mpr (fun _ _ => rfl)] at aG
   rw [B2 aG] at gD
   exact k D G _ (s1.trans sG) nG (s1.free hD) gD (NmOk.of (by omega) (fun x m => hw x (oH m)) fun x m => hw x (oH m))
def sp_yC : Sp := sp1 fun x H Q _ => NoT H /\ asI x fun c => ∀ p H' (ls : List (List Nat)), Same H H' -> NoT H' -> H p = none -> H' p = some (.lst (ls.map L2.T)) -> ls.length = 3 -> (∀ l ∈ ls, cur l = true) -> Q (.ref p) H'
theorem fZ (T : Txt K mg a) : bd P w K mg base (XE P w) 1 a.d_ a.fL ["_law_cell"] sp_yC := by
 refine T.b5.okX fR (fun vs H Q E h => sp1.len h) (fun cdv A outer s H vs Q E hr h => ?_)
 obtain ⟨x0, rfl, h⟩ := sp1.inv h
 try dsimp only [sp_yC, sp1] at h
 have ND := fR.nd
 obtain ⟨hN, h1⟩ := h
 obtain ⟨c, rfl, k⟩ := asI.inv h1
 have sz := szl
 refine ⟨_, (ah (aH (i := 1) ND rfl (Or.inr rfl) (ak aI (aQ (aA K) (aK [65, 66, 67, 68, 69, 70, 71, 72]) (ak aV (ak a9 (fv 0) af) af) (fun _ _ => rfl)) (aQ (aA K) (aK [83, 84, 85, 86, 87, 88, 89, 90]) (ak aV (ak a9 (fv 0) af) af) (fun _ _ => rfl))))
  (ai (aL (c6 rfl (cl := _) (x := "_law_sign") (xs := ["_law_sign"]) (fr := ["_law_two", "_law_cell"]) (ks := [1, 0]) (by exact ⟨rfl, by decide +kernel, rfl, by decide +kernel, rfl, dw rfl, rfl, a7 rfl, a7 (k := fun y => List.lookup y _) rfl, dA rfl⟩) rfl (AL (aK [75, 76, 77])) (fun _ _ _ _ _ => (aO (i := 0) (ig (l := ["_law_sign", "_law_two", "_law_cell"]) (by decide)) rfl (Or.inl rfl))) (fun _ _ _ _ _ => iA) (fun _ _ _ _ _ => (ak aI (ak aI (bv ql (fv 1) b4 (bG (ak aV (fv 2) af))) (fv 0)) (bv ql (fv 1) (bG (ak aV (fv 2) af)) b4))))))), ?_⟩
 walk_at "rd"
 obtain ⟨z1, m1, e1⟩ := A7 (l := [65, 66, 67, 68, 69, 70, 71, 72]) rfl (c / 3)
 obtain ⟨z2, m2, e2⟩ := A7 (l := [83, 84, 85, 86, 87, 88, 89, 90]) rfl (c / 24)
 rw [e1]
 refine ⟨by walk_at "om", ?_⟩
 dsimp only
 rw [e2]
 refine ⟨by walk_at "om", by walk_at "om", ?_⟩
 have up : ∀ x ∈ [z1, z2], 65 <= x /\ x <= 90 := by
  have a1 : ∀ x ∈ ([65, 66, 67, 68, 69, 70, 71, 72] : List Nat), 65 <= x /\ x <= 90 := by decide
  have a2 : ∀ x ∈ ([83, 84, 85, 86, 87, 88, 89, 90] : List Nat), 65 <= x /\ x <= 90 := by decide
  intro x m
  simp only [List.mem_cons, List.not_mem_nil, or_false] at m
  rcases m with rfl | rfl
  ·exact a1 _ m1
  ·exact a2 _ m2
 have l2 : (h8 [z1, z2] none (some (c % 3))).length + (h8 [z1, z2] (some (c % 3)) none).length = 2 := by
  rcases (by omega : c % 3 = 0 \/ c % 3 = 1 \/ c % 3 = 2) with e | e | e <;> rw [e] <;> rfl
 refine cmS (fun _ => True) (fun _ _ _ => trivial) [75, 76, 77] (fun _ => true) (fun x => L2.T (h8 [z1, z2] none (some (c % 3)) ++ [x] ++ h8 [z1, z2] (some (c % 3)) none)) (fun R r => r) (by decide) (by show 3 <= sizeLine; omega) (fun c _ H R _ r => r) (fun x _ _ H R _ r => ?_) (fun D hD => ?_)
 ·walk_at "rd"
  exact ⟨by walk_at "om", by omega, by walk_at "om", by rw [List.length_append, List.length_singleton]; omega, r⟩
 ·refine k D _ ([75, 76, 77].map fun x => h8 [z1, z2] none (some (c % 3)) ++ [x] ++ h8 [z1, z2] (some (c % 3)) none) (aq _ hD) (az hN rfl) hD ag rfl fun l m => ?_
  obtain ⟨x, mx, rfl⟩ := List.mem_map.mp m
  have hx : 65 <= x /\ x <= 90 := (show ∀ x ∈ ([75, 76, 77] : List Nat), 65 <= x /\ x <= 90 by decide) x mx
  unfold cur lie
  rw [decide_eq_true (by rw [List.length_append, List.length_append, List.length_singleton]; omega), Bool.true_and, List.all_eq_true]
  intro y my
  have : 65 <= y /\ y <= 90 := by
   rcases List.mem_append.mp my with my | my
   ·rcases List.mem_append.mp my with my | my
    ·exact up y (oH my)
    ·rw [List.mem_singleton.mp my]; exact hx
   ·exact up y (oH my)
  rw [decide_eq_true this.1, decide_eq_true this.2]; rfl
end
open PySem L2 K19 K22
section
variable {P : Program} {w : World} {K : PySem.W.Frag} {mg : Str -> Option Value} {base : Heap} {a : Adr}
open K3
theorem pv {l : List Nat} (h : nm l = true) : 58 ∉ l := fun m => by have := (pK h).2.2 58 m; omega
structure POk (l : List Nat) : Prop where
 pn : lS l = true
 lo : ∀ c ∈ l, c < 128
 ln : l.length + 1 <= 13 * (spN 58 l).length
theorem POk.len {l : List Nat} (h : POk l) : l.length <= 100 := by
 have := h.pn
 unfold lS at this
 simp only [Bool.and_eq_true, decide_eq_true_eq] at this
 have := h.ln
 omega
theorem POk.top {l : List Nat} (hl : nm l = true) : POk l := by
 have e := lA 58 _ (pv hl)
 obtain ⟨h1, h2, h3⟩ := pK hl
 refine ⟨?_, fun x hx => by have := h3 x hx; omega, by rw [e]; simp; omega⟩
 unfold lS
 rw [e]
 simp [hl]
theorem POk.ext {u n : List Nat} (hn : nm n = true) (h : POk u) (l5 : (spN 58 u).length <= 5) : POk (u ++ 58 :: n) := by
 have e := gq (v := u) (pv hn)
 obtain ⟨h1, h2, h3⟩ := pK hn
 have hp := h.pn
 unfold lS at hp
 simp only [Bool.and_eq_true, decide_eq_true_eq] at hp
 refine ⟨?_, fun x hx => ?_, ?_⟩
 ·unfold lS
  rw [e, List.length_append, List.all_append]
  simp only [Bool.and_eq_true, decide_eq_true_eq]
  exact ⟨⟨by omega, by simp; omega⟩, hp.2, by simp [hn]⟩
 ·rcases List.mem_append.mp hx with m | m
  ·exact h.lo x m
  ·rcases List.mem_cons.mp m with rfl | m
   ·decide
   ·have := h3 x m; omega
 ·have := h.ln
  rw [e, List.length_append, List.length_append, List.length_singleton, List.length_cons]
  omega
structure Ok1 (as : List La) (x : La) : Prop where
 nw : ∀ y ∈ as, y.pa ≠ x.pa
 po : POk x.pa
 ki : x.ki ∈ KDS
 fi : 0 <= x.fi /\ x.fi <= 10
 un : ∀ t, x.un = some t -> 10 < t /\ t <= 146096
 cu : ∀ l, x.cu = some l -> cur l = true
 st : (nm x.pa = true /\ x.fi = 0 /\ x.un = none) \/ (∃ u n, u ∈ as /\ x.pa = u.pa ++ 58 :: n /\ 58 ∉ n /\ u.un = none /\ u.fi <= x.fi /\ x.ki = u.ki)
def AsOk (as : List La) : Prop := ∀ i x, as[i]? = some x -> Ok1 (as.take i) x
theorem AsOk.snoc {as : List La} {x : La} (h : AsOk as) (hx : Ok1 as x) : AsOk (as ++ [x]) := fun i y e => by
 rcases Nat.lt_trichotomy i as.length with l | l | l
 ·rw [List.getElem?_append_left l] at e
  rw [List.take_append_of_le_length (by omega)]
  exact h i y e
 ·subst l
  rw [List.getElem?_append_right (Nat.le_refl _), Nat.sub_self] at e
  cases e
  rw [List.take_left']
  ·exact hx
  ·rfl
 ·rw [List.getElem?_append_right (by omega), show i - as.length = (i - as.length - 1) + 1 by omega] at e
  cases e
theorem AsOk.nd {as : List La} (h : AsOk as) : (as.map (·.pa)).Nodup := by
 rw [List.nodup_iff_pairwise_ne]
 refine List.pairwise_iff_getElem.mpr fun i j hi hj hij e => ?_
 rw [List.length_map] at hi hj
 rw [List.getElem_map, List.getElem_map] at e
 have o := h j as[j] (by simp)
 refine o.nw as[i] ?_ e
 rw [List.mem_iff_getElem]
 exact ⟨i, by rw [List.length_take]; omega, by rw [List.getElem_take]⟩
structure As8 (as : List La) : Prop where
 ok : AsOk as
 len : as.length <= 8
 own : ∃ x ∈ as, x.cu = none /\ x.fi = 0 /\ x.un = none /\ x.ki = [111, 119, 110]
def P8 (n : Nat -> List Nat) : List (List Nat) := [n 0, n 1, n 3, n 0 ++ 58 :: n 2, n 0 ++ 58 :: n 3, n 1 ++ 58 :: n 2, n 3 ++ 58 :: n 4, (n 0 ++ 58 :: n 2) ++ 58 :: n 0]
theorem BX {l : List Nat} (h : 58 ∉ l) : spN 58 l = [l] := lA 58 _ h
theorem FI {n : Nat -> List Nat} (hn : ∀ i, i < 5 -> 58 ∉ n i) (ne : ∀ i j, i < j -> j < 5 -> n i ≠ n j) : (P8 n).Nodup := by
 have key : ((P8 n).map (spN 58)).Nodup := by
  have h0 := hn 0 (by decide); have h1 := hn 1 (by decide); have h2 := hn 2 (by decide); have h3 := hn 3 (by decide); have h4 := hn 4 (by decide)
  have e : (P8 n).map (spN 58) = [[n 0], [n 1], [n 3], [n 0, n 2], [n 0, n 3], [n 1, n 2], [n 3, n 4], [n 0, n 2, n 0]] := by
   unfold P8
   simp only [List.map_cons, List.map_nil, gq h0, gq h2, gq h3, gq h4, BX h0, BX h1, BX h3, List.cons_append, List.nil_append]
  rw [e]
  have a01 := ne 0 1 (by decide) (by decide)
  have a03 := ne 0 3 (by decide) (by decide)
  have a13 := ne 1 3 (by decide) (by decide)
  have a23 := ne 2 3 (by decide) (by decide)
  have a31 := Ne.symm a13
  simp [a01, a03, a13, a23, a31, Ne.symm a01, Ne.symm a03]
 exact (List.pairwise_map.mp key).imp fun h e => h (by rw [e])
theorem yL {as : List La} {x : La} (h : ∀ y ∈ as, y.pa ≠ x.pa) : iG (as.map kyL) (.inr ⟨⟨x.pa⟩⟩) (.ref x.ls) = (as ++ [x]).map kyL := by
 rw [v4, List.map_append]
 ·rfl
 ·induction as with
  | nil => rfl
  | cons y r ih => rw [List.map_cons, fX (fun z => h y (.head _) (by simpa [kyL] using z)), ih fun z m => h z (.tail _ m)]
structure AF (n : Nat -> List Nat) (as : List La) (m : Nat) : Prop where
 pa : as.map (·.pa) = (P8 n).take m
 ok : AsOk as
 fi : ∀ x ∈ as, x.fi <= m
 un : ∀ j u, j <= 3 -> as[j]? = some u -> u.un = none
 ow : 2 <= m -> ∃ x ∈ as, x.cu = none /\ x.fi = 0 /\ x.un = none /\ x.ki = [111, 119, 110]
 le : m <= 8
structure NF (n : Nat -> List Nat) : Prop where
 n_ : ∀ i, i < 5 -> nm (n i) = true
 nd : (P8 n).Nodup
 po : ∀ l ∈ P8 n, POk l
theorem NF.of {ls : List (List Nat)} (h : NmOk ls) : NF fun i => ls.getD i [] := by
 have hl := h.len
 have e : ∀ i, i < 5 -> ls.getD i [] ∈ ls := fun i hi => by
  have : i < ls.length := by omega
  simp [List.getD, List.getElem?_eq_getElem this]
 have a : ∀ i, i < 5 -> nm (ls.getD i []) = true := fun i hi => h.nm _ (e i hi)
 refine ⟨a, FI (fun i hi => pv (a i hi)) fun i j hij hj q => ?_, fun l m => ?_⟩
 ·have hi2 : i < ls.length := by omega
  have hj2 : j < ls.length := by omega
  simp only [List.getD, List.getElem?_eq_getElem hi2, List.getElem?_eq_getElem hj2, Option.getD_some] at q
  have := List.pairwise_iff_getElem.mp h.nd i j hi2 hj2 hij
  exact this q
 ·have t := fun i hi => POk.top (a i hi)
  have l1 : ∀ i, i < 5 -> (spN 58 (ls.getD i [])).length = 1 := fun i hi => by rw [BX (pv (a i hi))]; rfl
  have x := fun i j hi hj => (t i hi).ext (a j hj) (by rw [l1 i hi]; decide)
  unfold P8 at m
  simp only [List.mem_cons, List.not_mem_nil, or_false] at m
  rcases m with rfl | rfl | rfl | rfl | rfl | rfl | rfl | rfl
  ·exact t 0 (by decide)
  ·exact t 1 (by decide)
  ·exact t 3 (by decide)
  ·exact x 0 2 (by decide) (by decide)
  ·exact x 0 3 (by decide) (by decide)
  ·exact x 1 2 (by decide) (by decide)
  ·exact x 3 4 (by decide) (by decide)
  ·exact (x 0 2 (by decide) (by decide)).ext (a 0 (by decide)) (by rw [gq (pv (a 2 (by decide))), List.length_append, l1 0 (by decide)]; show 1 + 1 <= 5; decide)
section
variable {n : Nat -> List Nat} {as : List La} {m : Nat} {x : La}
theorem AF.len (h : AF n as m) : as.length = m := by
 have := congrArg List.length h.pa
 rw [List.length_map, List.length_take] at this
 have l8 : (P8 n).length = 8 := rfl
 have := h.le
 omega
theorem AF.nw (h : AF n as m) (hn : NF n) (hx : (P8 n)[m]? = some x.pa) : ∀ y ∈ as, y.pa ≠ x.pa := fun y my e => by
 have : y.pa ∈ (P8 n).take m := h.pa ▸ List.mem_map_of_mem my
 obtain ⟨i, hi, ei⟩ := List.mem_iff_getElem.mp this
 rw [List.length_take] at hi
 rw [List.getElem_take] at ei
 obtain ⟨hm, em⟩ := List.getElem?_eq_some_iff.mp hx
 have := List.pairwise_iff_getElem.mp hn.nd i m (by omega) hm (by omega)
 exact this (ei.trans (e.trans em.symm))
theorem AF.snoc (h : AF n as m) (hx : (P8 n)[m]? = some x.pa) (o : Ok1 as x) (fi : x.fi <= m + 1) (hu : m <= 3 -> x.un = none) (hw : m = 1 -> x.cu = none /\ x.fi = 0 /\ x.un = none /\ x.ki = [111, 119, 110]) : AF n (as ++ [x]) (m + 1) := by
 have l8 : (P8 n).length = 8 := rfl
 have hm := (List.getElem?_eq_some_iff.mp hx).1
 have ln := h.len
 refine ⟨?_, h.ok.snoc o, fun y my => ?_, fun j u hj e => ?_, fun m2 => ?_, by omega⟩
 ·rw [List.map_append, h.pa, List.take_succ, hx]; rfl
 ·rcases List.mem_append.mp my with my | my
  ·have := h.fi y my; omega
  ·rw [List.mem_singleton.mp my]; omega
 ·rcases Nat.lt_trichotomy j as.length with l | l | l
  ·rw [List.getElem?_append_left l] at e
   exact h.un j u hj e
  ·subst l
   rw [List.getElem?_append_right (Nat.le_refl _), Nat.sub_self] at e
   cases e
   exact hu (by omega)
  ·rw [List.getElem?_append_right (by omega), show j - as.length = (j - as.length - 1) + 1 by omega] at e
   cases e
 ·by_cases m1 : m = 1
  ·exact ⟨x, List.mem_append_right _ (List.mem_singleton.mpr rfl), hw m1⟩
  ·obtain ⟨y, my, hy⟩ := h.ow (by omega)
   exact ⟨y, List.mem_append_left _ my, hy⟩
theorem AF.at_ (h : AF n as m) {j : Nat} {p : List Nat} (hj : j < m) (e : (P8 n)[j]? = some p) : ∃ u, as[j]? = some u /\ u.pa = p := by
 have := congrArg (·[j]?) h.pa
 rw [List.getElem?_map, List.getElem?_take, if_pos hj, e] at this
 cases e2 : as[j]? with
 | none => rw [e2] at this; cases this
 | some u => rw [e2] at this; exact ⟨u, rfl, Option.some.inj this⟩
end
end
open PySem L2 K19 K22
section
variable {P : Program} {w : World} {K : PySem.W.Frag} {mg : Str -> Option Value} {base : Heap} {a : Adr}
open K3
theorem ck {H : Hp} {p : Addr} (o : HO) (h : H p = none) (n : NoT H) (f : kl o = true) : ∃ G, upd H p o = G /\ Same H G /\ G p = some o /\ NoT G := ⟨_, rfl, aq _ h, ag, az n f⟩
abbrev sgA (sc pn pc : Addr) (c : Int) (pk pt d : Addr) (x7 x8 x9 x10 x11 x12 : Option V) : St := [some (.ref sc), some (.ref pn), some (.ref pc), some (.int c), some (.ref pk), some (.ref pt), some (.ref d), x7, x8, x9, x10, x11, x12]
def Gp : Stmt -> List Stmt
 | .For _ _ b _ _ => b
 | _ => []
noncomputable abbrev Ai : List Stmt := Gp ((av aP).getD 8 (.Pass ⟨0, 0, 0, 0⟩))
theorem Fv {c0 c1 : List Nat} {H : Hp} {Q : VK} {i : Int} (h0 : 0 <= i) (h1 : i < 4) (q : ∀ cu, (cu = none \/ cu = some c0 \/ cu = some c1) -> Q (cuV cu) H) : jD [V.non, V.non, L2.T c0, L2.T c1] H H Q (.int i) := by
 obtain ⟨j, rfl⟩ : ∃ j : Nat, i = j := ⟨i.toNat, by omega⟩
 unfold jD
 rcases (by omega : j = 0 \/ j = 1 \/ j = 2 \/ j = 3) with rfl | rfl | rfl | rfl
 ·exact q none (.inl rfl)
 ·exact q none (.inl rfl)
 ·exact q (some c0) (.inr (.inl rfl))
 ·exact q (some c1) (.inr (.inr rfl))
theorem bA4 (T : Txt K mg a) {cdv : Value} {A : Around} {outer : List Env} {s : Shared} {H : Hp} {E : XK} (hr : Room 2 (A.deeper (PyProof.Rows.envOfC "_law_accounts" (ad aP) s.heap.objs.size a.bj cdv))) : ∃ u, PSs (cW (XE P w) P w K mg base ["_law_script", "_law_names_here", "_law_currencies_here", "_law_cell", "_law_kinds", "_law_tops", "_law_accounts_here", "_law_k", "_law_some", "_law_more", "_law_upper", "_law_until", "_law_currency"] "_law_accounts" (ad aP) a.bj cdv A outer s H E) (List.drop 4 Ai) u /\
 ∀ (D : cv) sc pn pc c pk pt d (i : Int) p5 (mo : Int) uls (un : Option Int) x12 (cy : List (List Nat)) svs q up (x : Nat) (xs : List V) nx kvs ucu (ufi : Int) uun uki G, NoT G -> G pc = some (.lst (cy.map L2.T)) -> cy.length = 3 -> (∀ l ∈ cy, cur l = true) -> G uls = some (.lst [ucu, .int ufi, uun, L2.T uki]) -> G p5 = some (.lst svs) -> atI svs i = some (.ref q) -> G q = some (.tup [L2.T up, .int (x : Int)]) -> G pn = some (.lst xs) -> atI xs (x : Int) = some (L2.T nx) -> up.length <= 100 -> nx.length <= 12 -> G d = some (.dK kvs) -> kvs.length <= 100 ->
  (∀ x12 p cu, (∀ l, cu = some l -> cur l = true) -> G p = none -> D.nx (sgA sc pn pc c pk pt d (some (.int i)) (some (.ref p5)) (some (.int mo)) (some (.ref uls)) (some (cl un)) x12) (upd (upd G p (.lst [cuV cu, .int (ufi + mo / 28 % 2), cl un, L2.T uki])) d (.dK (iG kvs (.inr ⟨⟨up ++ [58] ++ nx⟩⟩) (.ref p))))) ->
  u D (sgA sc pn pc c pk pt d (some (.int i)) (some (.ref p5)) (some (.int mo)) (some (.ref uls)) (some (cl un)) x12) G := by
 have sz := szl
 have ND := c9.nd
 have HU := aM hr
 refine ⟨_, (ah (aH (i := 12) ND rfl (Or.inl rfl) (fS (FA.pa (aa eZ (aa eZ (aa (aQ (aA K) (fv 2) af (fun _ _ => rfl)) (aa (aQ (aA K) (fv 2) af (fun _ _ => rfl)) ae))))) (ak aV (ak a9 (fv 9) af) af) (fun _ _ => rfl)))
  (ai (iu (Nat.lt_of_le_of_lt (Nat.add_le_add_left (by decide) _) HU) (fv 6) (ak aI (ak aI (aQ (aA K) (aQ (aA K) (fv 8) (fv 7) (fun _ _ => rfl)) af (fun _ _ => rfl)) (aK [58])) (aQ (aA K) (fv 1) (aQ (aA K) (aQ (aA K) (fv 8) (fv 7) (fun _ _ => rfl)) af (fun _ _ => rfl)) (fun _ _ => rfl))) (cj (FA.pa (aa (fv 12) (aa (ak aI (aQ (aA K) (fv 10) af (fun _ _ => rfl)) (ak aV (ak a9 (fv 9) af) af)) (aa (fv 11) (aa (aQ (aA K) (fv 10) af (fun _ _ => rfl)) ae)))))) rfl))), fun D sc pn pc c pk pt d i p5 mo uls un x12 cy svs q up x xs nx kvs ucu ufi uun uki G nG hpc lcy ccy hu h5 e5 hq hpn ex lup lnx hd lkv k => ?_⟩
 obtain ⟨c0, c1, c2, rfl⟩ : ∃ c0 c1 c2, cy = [c0, c1, c2] := by
  match cy, lcy with
  | [c0, c1, c2], _ => exact ⟨c0, c1, c2, rfl⟩
 walk_at "rd"
 refine ⟨nG, _, _, .inl (SqL.of hpc), aB (j := 0) rfl, _, _, .inl (SqL.of hpc), aB (j := 1) rfl, by walk_at "om", fun p _ => Fv (by omega) (by omega) fun cu hcu => ?_⟩
 refine ⟨_, _, .inl (SqL.of hu), aB (j := 1) rfl, ?_⟩
 walk_at "rd"
 refine ⟨_, _, .inl (SqL.of hu), aB (j := 3) rfl, by walk_at "om", fun p1 hp1 => ?_⟩
 obtain ⟨G1, e1, s1, g1, N1⟩ := ck (HO.lst [cuV cu, V.int (ufi + mo / 28 % 2), cl un, L2.T uki]) hp1 nG rfl
 have k1 := k
 rw [e1]
 refine ⟨_, _, .inl (SqL.of (s1 _ _ h5)), e5, ?_⟩
 walk_at "rd"
 refine ⟨_, _, .inr (SqT.of (s1 _ _ hq)), aB (j := 0) rfl, ?_⟩
 walk_at "rd"
 refine ⟨by omega, _, _, .inl (SqL.of (s1 _ _ h5)), e5, ?_⟩
 walk_at "rd"
 refine ⟨_, _, .inr (SqT.of (s1 _ _ hq)), aB (j := 1) rfl, ?_⟩
 walk_at "rd"
 refine ⟨_, _, .inl (SqL.of (s1 _ _ hpn)), ex, ?_⟩
 walk_at "rd"
 refine ⟨by rw [List.length_append]; show up.length + 1 + _ <= _; omega, d, _, rfl, DPut.k (k := .inr ⟨⟨up ++ [58] ++ nx⟩⟩) (s1 _ _ hd) (by rw [sizeLine_eq]; omega), ?_⟩
 rw [<- e1]
 refine k _ p1 cu (fun l e => ?_) hp1
 rcases hcu with h | h | h
 ·rw [h] at e; cases e
 ·rw [h] at e; cases e; exact ccy _ (.head _)
 ·rw [h] at e; cases e; exact ccy _ (.tail _ (.head _))
theorem bA0 (T : Txt K mg a) {cdv : Value} {A : Around} {outer : List Env} {s : Shared} {H : Hp} {E : XK} (hr : Room 2 (A.deeper (PyProof.Rows.envOfC "_law_accounts" (ad aP) s.heap.objs.size a.bj cdv))) {u4 : TS} (hu4 : PSs (cW (XE P w) P w K mg base ["_law_script", "_law_names_here", "_law_currencies_here", "_law_cell", "_law_kinds", "_law_tops", "_law_accounts_here", "_law_k", "_law_some", "_law_more", "_law_upper", "_law_until", "_law_currency"] "_law_accounts" (ad aP) a.bj cdv A outer s H E) (List.drop 4 Ai) u4) : ∃ ub : TS, PSs (cW (XE P w) P w K mg base ["_law_script", "_law_names_here", "_law_currencies_here", "_law_cell", "_law_kinds", "_law_tops", "_law_accounts_here", "_law_k", "_law_some", "_law_more", "_law_upper", "_law_until", "_law_currency"] "_law_accounts" (ad aP) a.bj cdv A outer s H E) Ai ub /\
 ∀ (D : cv) sc pn pc c pk pt d (i : Int) p5 x9 x10 x11 x12 svs q up (x : Int) (ns : List Int) kvs uls ucu (ufi : Int) uun uki G, SqL K G sc (ns.map V.int) -> 0 <= i -> G p5 = some (.lst svs) -> atI svs i = some (.ref q) -> G q = some (.tup [L2.T up, .int x]) -> G d = some (.dK kvs) -> ju kvs (.inr ⟨⟨up⟩⟩) = some (.ref uls) -> G uls = some (.lst [ucu, .int ufi, uun, L2.T uki]) -> 0 <= ufi -> ufi <= 10 ->
  (∀ mo un, (∀ t, un = some t -> 10 < t /\ t <= 146096) -> (i = 0 -> un = none) -> u4 D (sgA sc pn pc c pk pt d (some (.int i)) (some (.ref p5)) (some (.int mo)) (some (.ref uls)) (some (cl un)) x12) G) ->
  ub D (sgA sc pn pc c pk pt d (some (.int i)) (some (.ref p5)) x9 x10 x11 x12) G := by
 have sz := szl
 have ND := c9.nd
 have HU := aM hr
 have G__law_base := iq (P := P) (w := w) (base := base) T
 have b__law_base := io T.cO
 have G__law_cell_at := bc (P := P) (w := w) (base := base) T
 have b__law_cell_at := ba T.aE
 refine ⟨_, (ah (aH (i := 9) ND rfl (Or.inl rfl) (al G__law_cell_at (hr.mono (by decide)) rfl T.aU T.aE.kp b__law_cell_at .nil aD (FA.pa (aa (fv 0) (aa (ak aI af (fv 7)) ae)))))
  (ah (aH (i := 10) ND rfl (Or.inl rfl) (dB (Nat.lt_of_le_of_lt (Nat.add_le_add_left (by decide) _) HU) (fv 6) (aQ (aA K) (aQ (aA K) (fv 8) (fv 7) (fun _ _ => rfl)) af (fun _ _ => rfl)) (fun _ _ => rfl)))
  (ah (aH (i := 11) ND rfl (Or.inl rfl) eZ)
  (ah (bF (L2.PW.pt (uC (bo (eA K HU) (ak aV (fv 9) af) af (aY _)) (oP (bo (gM K HU) (fv 7) af (aY _))))) (ai (aH (i := 11) ND rfl (Or.inl rfl) (ak aI (ak aI (ak aI (aQ (aA K) (fv 10) af (fun _ _ => rfl)) af) (aJ (uB rfl) rfl T.xP tZ (FA.pa (aa af (aa (ak dP (al G__law_base (hr.mono (by decide)) rfl T.jc T.cO.kp b__law_base .nil aD (FA.pa (aa (fv 0) ae))) (aQ (aA K) (fv 10) af (fun _ _ => rfl))) ae))))) (ak aV (ak a9 (fv 9) af) af)))) aS)
  hu4)))), fun D sc pn pc c pk pt d i p5 x9 x10 x11 x12 svs q up x ns kvs uls ucu ufi uun uki G hS i0 h5 e5 hq hd hv hu f0 f1 k => ?_⟩
 have dget := DGet.k (k := .inr ⟨⟨up⟩⟩) hd
 rw [hv] at dget
 walk_at "rd"
 refine ⟨ns, hS, by omega, fun mo => ⟨_, _, .inl (SqL.of h5), e5, ?_⟩⟩
 walk_at "rd"
 refine ⟨_, _, .inr (SqT.of hq), aB (j := 0) rfl, ?_⟩
 walk_at "rd"
 refine ⟨d, _, rfl, dget, ?_⟩
 by_cases m1 : mo % 4 = 1
 ·refine itp m1 ?_
  by_cases i1 : i = 0
  ·exact itp i1 (k mo none (fun t e => nomatch e) fun _ => rfl)
  ·refine itn i1 ?_
   walk_at "rd"
   refine ⟨_, _, .inl (SqL.of hu), aB (j := 1) rfl, ?_⟩
   walk_at "rd"
   refine ⟨ns, hS, fun bs b0 b1 => ⟨_, _, .inl (SqL.of hu), aB (j := 1) rfl, ?_⟩⟩
   walk_at "rd"
   refine k mo (some _) (fun t e => ?_) fun z => absurd z i1
   cases e
   split <;> omega
 ·exact itn m1 (k mo none (fun t e => nomatch e) fun _ => rfl)
end
open PySem L2 K19 K22
section
variable {P : Program} {w : World} {K : PySem.W.Frag} {mg : Str -> Option Value} {base : Heap} {a : Adr}
open K3
theorem Am {ls : List (List Nat)} (nok : NmOk ls) (i : Nat) (hi : i < 5) : atI (ls.map L2.T) (i : Int) = some (L2.T (ls.getD i [])) := aB (by
 have : i < ls.length := by rw [nok.len]; exact hi
 rw [List.getElem?_map, List.getElem?_eq_getElem this]; simp [List.getD, List.getElem?_eq_getElem this])
def sp_uP (K : PySem.W.Frag) : Sp := sp1 fun x H Q _ => NoT H /\ asR x fun sc => ∃ ns : List Int, SqL K H sc (ns.map V.int) /\ ∀ d as H', Same H H' -> NoT H' -> H d = none -> H' d = some (.dK (as.map kyL)) -> AcAt H' d as -> As8 as -> Q (.ref d) H'
theorem nn (T : Txt K mg a) : bd P w K mg base (XE P w) 3 a.bj a.ie ["_law_script"] (sp_uP K) := by
 refine T.fh.okX c9 (fun vs H Q E h => sp1.len h) (fun cdv A outer s H vs Q E hr h => ?_)
 obtain ⟨x0, rfl, h⟩ := sp1.inv h
 try dsimp only [sp_uP, sp1] at h
 have ND := c9.nd
 have HU := aM hr
 obtain ⟨hN, h1⟩ := h
 obtain ⟨sc, rfl, ns, hS, k⟩ := asR.inv h1
 have sz := szl
 have G__law_cell_at := bc (P := P) (w := w) (base := base) T
 have b__law_cell_at := ba T.aE
 have G__law_currencies := fZ (P := P) (w := w) (base := base) T
 have b__law_currencies := gj T.b5
 have G__law_names := qN (P := P) (w := w) (base := base) T
 have b__law_names := qP T.ii
 obtain ⟨u4, hu4, k4⟩ := bA4 (P := P) (w := w) (base := base) T (cdv := cdv) (A := A) (outer := outer) (s := s) (H := H) (E := E) hr
 obtain ⟨ub, hub, kb⟩ := bA0 T hr hu4
 have c7 : ∃ u, PSs (cW (XE P w) P w K mg base ["_law_script", "_law_names_here", "_law_currencies_here", "_law_cell", "_law_kinds", "_law_tops", "_law_accounts_here", "_law_k", "_law_some", "_law_more", "_law_upper", "_law_until", "_law_currency"] "_law_accounts" (ad aP) a.bj cdv A outer s H E) (List.drop 7 (av aP)) u /\ ∀ pn pc c pk pt d x7 (ls cy : List (List Nat)) (as : List La) H1, H1 pn = some (.lst (ls.map L2.T)) -> NmOk ls -> H1 pc = some (.lst (cy.map L2.T)) -> cy.length = 3 -> (∀ l ∈ cy, cur l = true) -> H1 pt = some (.lst [L2.T (ls.getD 0 []), L2.T (ls.getD 1 []), L2.T (ls.getD 3 [])]) -> H1 d = some (.dK (as.map kyL)) -> (∀ x ∈ as, H1 x.ls = some (.lst [cuV x.cu, .int x.fi, cl x.un, L2.T x.ki])) -> AF (fun i => ls.getD i []) as 3 -> Same H H1 -> NoT H1 -> H d = none ->
  u { nx := fun _ H' => Q .non H', rt := Q } (sgA sc pn pc c pk pt d x7 none none none none none) H1 := by
  refine ⟨_, (ah (aH (i := 8) ND rfl (Or.inl rfl) (cj (FA.pa (aa (aZ (FA.pa (aa (aQ (aA K) (fv 5) af (fun _ _ => rfl)) (aa af ae)))) (aa (aZ (FA.pa (aa (aQ (aA K) (fv 5) af (fun _ _ => rfl)) (aa af ae)))) (aa (aZ (FA.pa (aa (aQ (aA K) (fv 5) af (fun _ _ => rfl)) (aa af ae)))) (aa (aZ (FA.pa (aa (aQ (aA K) (fv 5) af (fun _ _ => rfl)) (aa af ae)))) (aa (aZ (FA.pa (aa (ak aI (ak aI (aQ (aA K) (fv 5) af (fun _ _ => rfl)) (aK [58])) (aQ (aA K) (fv 1) af (fun _ _ => rfl))) (aa af ae)))) ae))))))))
   (ah (e_ (by passes_own) rfl (g_ rfl T.jS (FA.pa (aa af ae))) (aO (i := 7) ND rfl (Or.inl rfl)) hub)
   (ai (aL (fv 6))))), fun pn pc c pk pt d x7 ls cy as H1 hpn nok hpc lcy ccy hpt hd hls F s1 N1 hd0 => ?_⟩
  have NFn := NF.of nok
  have l5 := nok.len
  have at5 : ∀ i : Nat, i < 5 -> atI (ls.map L2.T) (i : Int) = some (L2.T (ls.getD i [])) := fun i hi => aB (by
   have : i < ls.length := by omega
   rw [List.getElem?_map, List.getElem?_eq_getElem this]; simp [List.getD, List.getElem?_eq_getElem this])
  generalize hn : (fun i => ls.getD i []) = n at F NFn
  have en : ∀ i, ls.getD i [] = n i := fun i => congrFun hn i
  simp only [en] at hpt at5 ⊢
  have pl : ∀ l ∈ P8 n, l.length <= 100 := fun l m => (NFn.po l m).len
  have nl : ∀ i : Nat, i < 5 -> (n i).length <= 12 := fun i hi => (pK (NFn.n_ i hi)).2.1
  walk_at "rd"
  refine ⟨_, _, .inl (SqL.of hpt), aB (j := 0) rfl, by walk_at "om", fun p0 h0 => ?_⟩
  obtain ⟨G0, e0, s0, g0, N0⟩ := ck (HO.tup [L2.T (n 0), V.int 2]) h0 N1 rfl
  rw [e0]
  refine ⟨_, _, .inl (SqL.of (s0 _ _ hpt)), aB (j := 0) rfl, by walk_at "om", fun p1 h1 => ?_⟩
  obtain ⟨G1, e1, s11, g1, N11⟩ := ck (HO.tup [L2.T (n 0), V.int 3]) h1 N0 rfl
  rw [e1]
  have s01 := s0.trans s11
  refine ⟨_, _, .inl (SqL.of (s01 _ _ hpt)), aB (j := 1) rfl, by walk_at "om", fun p2 h2 => ?_⟩
  obtain ⟨G2, e2, s12, g2, N12⟩ := ck (HO.tup [L2.T (n 1), V.int 2]) h2 N11 rfl
  rw [e2]
  have s02 := s01.trans s12
  refine ⟨_, _, .inl (SqL.of (s02 _ _ hpt)), aB (j := 2) rfl, by walk_at "om", fun p3 h3 => ?_⟩
  obtain ⟨G3, e3, s13, g3, N13⟩ := ck (HO.tup [L2.T (n 3), V.int 4]) h3 N12 rfl
  rw [e3]
  have s03 := s02.trans s13
  refine ⟨_, _, .inl (SqL.of (s03 _ _ hpt)), aB (j := 0) rfl, ?_⟩
  have n0 := nl 0 (by decide)
  have n2 := nl 2 (by decide)
  walk_at "rd"
  refine ⟨by omega, _, _, .inl (SqL.of (s03 _ _ hpn)), at5 2 (by decide), ?_⟩
  walk_at "rd"
  refine ⟨by rw [List.length_append]; show (n 0).length + 1 + _ <= _; omega, by walk_at "om", fun p4 h4 => ?_⟩
  obtain ⟨G4, e4, s14, g4, N14⟩ := ck (HO.tup [L2.T (n 0 ++ [58] ++ n 2), V.int 0]) h4 N13 rfl
  rw [e4]
  refine ⟨by walk_at "om", fun p5 h5 => ?_⟩
  obtain ⟨G5, e5, s15, g5, N15⟩ := ck (HO.lst [V.ref p0, V.ref p1, V.ref p2, V.ref p3, V.ref p4]) h5 N14 rfl
  rw [e5]
  have s45 := s14.trans s15
  have s05 := s03.trans s45
  have tab : ∀ i : Nat, i < 5 -> ∃ q up x j, atI [V.ref p0, V.ref p1, V.ref p2, V.ref p3, V.ref p4] (0 + (i : Int)) = some (.ref q) /\ G5 q = some (.tup [L2.T up, .int ((x : Nat) : Int)]) /\ x < 5 /\ j <= 3 /\ j < 3 + i /\ (P8 n)[j]? = some up /\ (P8 n)[3 + i]? = some (up ++ 58 :: n x) := fun i hi => by
   rw [Int.zero_add]
   rcases (by omega : i = 0 \/ i = 1 \/ i = 2 \/ i = 3 \/ i = 4) with rfl | rfl | rfl | rfl | rfl
   ·exact ⟨p0, n 0, 2, 0, aB rfl, (s11.trans (s12.trans (s13.trans s45))) _ _ g0, by decide, by decide, by decide, rfl, rfl⟩
   ·exact ⟨p1, n 0, 3, 0, aB rfl, (s12.trans (s13.trans s45)) _ _ g1, by decide, by decide, by decide, rfl, rfl⟩
   ·exact ⟨p2, n 1, 2, 1, aB rfl, (s13.trans s45) _ _ g2, by decide, by decide, by decide, rfl, rfl⟩
   ·exact ⟨p3, n 3, 4, 2, aB rfl, s45 _ _ g3, by decide, by decide, by decide, rfl, rfl⟩
   ·refine ⟨p4, n 0 ++ 58 :: n 2, 0, 3, aB rfl, ?_, by decide, by decide, by decide, rfl, rfl⟩
    have := s15 _ _ g4
    rw [List.append_assoc] at this; exact this
  have od : ∀ {p : Addr} {l : List V}, G5 p = some (.lst l) -> p ∉ [d] := fun {p l} e m => by
   rw [List.mem_singleton.mp m, s05 _ _ hd] at e; cases e
  have odt : ∀ {p : Addr} {l : List V}, G5 p = some (.tup l) -> p ∉ [d] := fun {p l} e m => by
   rw [List.mem_singleton.mp m, s05 _ _ hd] at e; cases e
  have hpn5 := s05 _ _ hpn
  have hpc5 := s05 _ _ hpc
  refine jx ?_
  walk_at "rd"
  refine g6 (lo := 0) (n := 5) (fun i σ' G => Keep [d] G5 G /\ NoT G /\ ∃ as x7 x9 x10 x11 x12, G d = some (.dK (as.map kyL)) /\ (∀ x ∈ as, G x.ls = some (.lst [cuV x.cu, .int x.fi, cl x.un, L2.T x.ki])) /\ AF n as (3 + i) /\ σ' = sgA sc pn pc c pk pt d x7 (some (.ref p5)) x9 x10 x11 x12) ⟨Keep.refl, N15, as, _, _, _, _, _, s05 _ _ hd, fun x m => s05 _ _ (hls x m), F, rfl⟩ ?_ ?_
  ·rintro i σ' G hi ⟨kp, nG, as, x7, x9, x10, x11, x12, hdG, hlG, FG, rfl⟩
   obtain ⟨q, up, x, j, eq, hq, lx, j3, ji, ej, ex⟩ := tab i hi
   obtain ⟨u, hu, pu⟩ := FG.at_ ji ej
   have mu := List.mem_of_getElem? hu
   have hqG := kp _ _ hq (odt hq)
   have g5G := kp _ _ g5 (od g5)
   have hnG := kp _ _ hpn5 (od hpn5)
   have hcG := kp _ _ hpc5 (od hpc5)
   have sH : Same H G := fun p o e => kp _ _ (s05 _ _ (s1 _ _ e)) (by intro m; rw [List.mem_singleton.mp m, hd0] at e; cases e)
   have hSG := hS.same sH
   have nd := FG.ok.nd
   have dget : DGet G d (L2.T up) (some (.ref u.ls)) := by
    have := DGet.k (k := .inr ⟨⟨u.pa⟩⟩) hdG
    rw [AcAt.val (H := G) (d := d) nd mu] at this
    rw [<- pu]; exact this
   have key : ∀ (D : cv) (mo : Int) un x12, (∀ t, un = some t -> 10 < t /\ t <= 146096) -> (i = 0 -> un = none) -> (∀ σ' G', (Keep [d] G5 G' /\ NoT G' /\ ∃ as x7 x9 x10 x11 x12, G' d = some (.dK (as.map kyL)) /\ (∀ x ∈ as, G' x.ls = some (.lst [cuV x.cu, .int x.fi, cl x.un, L2.T x.ki])) /\ AF n as (3 + (i + 1)) /\ σ' = sgA sc pn pc c pk pt d x7 (some (.ref p5)) x9 x10 x11 x12) -> D.nx σ' G') -> u4 D (sgA sc pn pc c pk pt d (some (.int (0 + (i : Int)))) (some (.ref p5)) (some (.int mo)) (some (.ref u.ls)) (some (cl un)) x12) G := fun D mo un x12 hun hun0 kD => by
    have e58 : up ++ [58] ++ n x = up ++ 58 :: n x := by rw [List.append_assoc]; rfl
    refine k4 D sc pn pc c pk pt d _ p5 mo u.ls un x12 cy _ q up x _ (n x) _ _ u.fi _ u.ki G nG hcG lcy ccy (hlG u mu) g5G eq hqG hnG (at5 x lx) (by rw [<- pu]; exact (NFn.po _ (pu ▸ List.mem_of_getElem? ej)).len) (nl x lx) hdG (by rw [List.length_map]; have := FG.len; omega) fun x12 p cu hcu hp => kD _ _ ?_
    rw [e58]
    have ou := (FG.ok j u hu)
    have X : Ok1 as ⟨up ++ 58 :: n x, cu, u.fi + mo / 28 % 2, un, u.ki, p⟩ := ⟨FG.nw NFn (x := ⟨up ++ 58 :: n x, cu, u.fi + mo / 28 % 2, un, u.ki, p⟩) ex, NFn.po _ (List.mem_of_getElem? ex), ou.ki, ⟨by have := ou.fi; show 0 <= u.fi + mo / 28 % 2; omega, by have := FG.fi u mu; show u.fi + mo / 28 % 2 <= 10; omega⟩, hun, hcu, .inr ⟨u, n x, mu, by rw [pu], pv (NFn.n_ x lx), FG.un j u j3 hu, by show u.fi <= u.fi + mo / 28 % 2; omega, rfl⟩⟩
    rw [yL (x := ⟨up ++ 58 :: n x, cu, u.fi + mo / 28 % 2, un, u.ki, p⟩) X.nw]
    have pd : p ≠ d := Ne.symm (au hdG hp)
    refine ⟨(kp.new hp).put (.head _), az (az nG rfl) rfl, _, _, _, _, _, _, ag, fun y my => ?_, FG.snoc ex X (by have := FG.fi u mu; show u.fi + mo / 28 % 2 <= _; omega) (fun h3 => hun0 (by omega)) (fun h1 => by omega), rfl⟩
    rcases List.mem_append.mp my with my | my
    ·have e := hlG y my
     rw [aj (eD e hdG (by intro z; cases z)), aj (au e hp)]; exact e
    ·rw [List.mem_singleton.mp my]
     exact (aj pd).trans ag
   have dget := AcAt.val (H := G) (d := d) nd mu
   rw [pu] at dget
   have ou := (FG.ok j u hu).fi
   walk_at "rd"
   refine kb _ sc pn pc c pk pt d _ p5 _ _ _ _ _ q up x ns _ u.ls _ u.fi _ u.ki G hSG (by omega) g5G eq hqG hdG dget (hlG u mu) ou.1 ou.2 fun mo un h1 h2 => key _ mo un _ h1 (fun z => h2 (by omega)) fun _ _ h => h
  ·rintro σ' G ⟨kp, nG, as, x7, x9, x10, x11, x12, hdG, hlG, FG, rfl⟩
   walk_at "rd"
   have sH : Same H G := fun p o e => kp _ _ (s05 _ _ (s1 _ _ e)) (by intro m; rw [List.mem_singleton.mp m, hd0] at e; cases e)
   exact k d as G sH nG hd0 hdG ⟨.inl hdG, hlG⟩ ⟨FG.ok, by have := FG.len; omega, FG.ow (by decide)⟩
 obtain ⟨u7, hu7, c7⟩ := c7
 refine ⟨_, (ah (aH (i := 1) ND rfl (Or.inl rfl) (al G__law_names (hr.mono (by decide)) rfl T.tU T.ii.kp b__law_names .nil aD (FA.pa (aa (al G__law_cell_at (hr.mono (by decide)) rfl T.aU T.aE.kp b__law_cell_at .nil aD (FA.pa (aa (fv 0) (aa af ae)))) ae))))
  (ah (aH (i := 2) ND rfl (Or.inl rfl) (al G__law_currencies (hr.mono (by decide)) rfl T.gG T.b5.kp b__law_currencies .nil aD (FA.pa (aa (al G__law_cell_at (hr.mono (by decide)) rfl T.aU T.aE.kp b__law_cell_at .nil aD (FA.pa (aa (fv 0) (aa af ae)))) ae))))
  (ah (aH (i := 3) ND rfl (Or.inl rfl) (ak a9 (al G__law_cell_at (hr.mono (by decide)) rfl T.aU T.aE.kp b__law_cell_at .nil aD (FA.pa (aa (fv 0) (aa af ae)))) af))
  (ah (aH (i := 4) ND rfl (Or.inl rfl) (cj (FA.pa (aa (fS (FA.pa (aa (aK [103, 97, 105, 110]) (aa (aK [99, 111, 115, 116]) (aa (aK [103, 97, 105, 110]) (aa (aK [104, 97, 118, 101]) ae))))) (ak aV (fv 3) af) (fun _ _ => rfl)) (aa (aK [111, 119, 110]) (aa (fS (FA.pa (aa (aK [99, 111, 115, 116]) (aa (aK [111, 119, 101]) (aa (aK [104, 97, 118, 101]) ae)))) (ak aV (ak a9 (fv 3) af) af) (fun _ _ => rfl)) ae))))))
  (ah (aH (i := 5) ND rfl (Or.inl rfl) (cj (FA.pa (aa (aQ (aA K) (fv 1) af (fun _ _ => rfl)) (aa (aQ (aA K) (fv 1) af (fun _ _ => rfl)) (aa (aQ (aA K) (fv 1) af (fun _ _ => rfl)) ae))))))
  (ah (aH (i := 6) ND rfl (Or.inl rfl) tm)
  (ah (e_ (by passes_own) rfl (g_ rfl T.jS (FA.pa (aa af ae))) (aO (i := 7) ND rfl (Or.inl rfl)) (ai (iu (Nat.lt_of_le_of_lt (Nat.add_le_add_left (by decide) _) HU) (fv 6) (aQ (aA K) (fv 5) (fv 7) (fun _ _ => rfl)) (cj (FA.pa (aa eZ (aa af (aa eZ (aa (aQ (aA K) (fv 4) (fv 7) (fun _ _ => rfl)) ae)))))) rfl)))
  hu7))))))), ?_⟩
 walk_at "rd"
 refine ⟨ns, hS, hN, fun pn H1 ls s1 N1 hpn0 hpn nok => ⟨ns, hS.same s1, N1, fun pc H2 cy s2 N2 hpc0 hpc lcy ccy => ⟨ns, (hS.same s1).same s2, fun c => ⟨N2, by walk_at "om", fun _ _ => sh (ls := [[103, 97, 105, 110], [99, 111, 115, 116], [103, 97, 105, 110], [104, 97, 118, 101]]) (by omega) (by show _ < (4 : Int); omega) fun k0 mk0 => ?_⟩⟩⟩⟩
 refine ⟨N2, by walk_at "om", fun _ _ => sh (ls := [[99, 111, 115, 116], [111, 119, 101], [104, 97, 118, 101]]) (by omega) (by show _ < (3 : Int); omega) fun k2 mk2 => ?_⟩
 walk_at "rd"
 refine ⟨by walk_at "om", fun pk hpk => ?_⟩
 obtain ⟨G1, e1, s11, g1, N11⟩ := ck (HO.lst [L2.T k0, L2.T [111, 119, 110], L2.T k2]) hpk N2 rfl
 rw [e1]
 have hpn1 := s11 _ _ (s2 _ _ hpn)
 refine ⟨_, _, .inl (SqL.of hpn1), Am nok 0 (by decide), _, _, .inl (SqL.of hpn1), Am nok 1 (by decide), _, _, .inl (SqL.of hpn1), Am nok 3 (by decide), by walk_at "om", fun pt hpt d hd => ?_⟩
 obtain ⟨G2, e2, s12, g2, N12⟩ := ck (HO.lst [L2.T (ls.getD 0 []), L2.T (ls.getD 1 []), L2.T (ls.getD 3 [])]) hpt N11 rfl
 rw [e2] at hd ⊢
 obtain ⟨G3, e3, s13, g3, N13⟩ := ck (HO.dK []) hd N12 rfl
 rw [e3]
 have s23 := s11.trans (s12.trans s13)
 have s03 := s1.trans (s2.trans s23)
 have d0 : H d = none := (s1.trans (s2.trans (s11.trans s12))).free hd
 have NFn := NF.of nok
 have KD : k0 ∈ KDS /\ k2 ∈ KDS := ⟨(show ∀ k ∈ ([[103, 97, 105, 110], [99, 111, 115, 116], [103, 97, 105, 110], [104, 97, 118, 101]] : List (List Nat)), k ∈ KDS by decide) _ mk0, (show ∀ k ∈ ([[99, 111, 115, 116], [111, 119, 101], [104, 97, 118, 101]] : List (List Nat)), k ∈ KDS by decide) _ mk2⟩
 have tab : ∀ i : Nat, i < 3 -> ∃ pa kd, atI [L2.T (ls.getD 0 []), L2.T (ls.getD 1 []), L2.T (ls.getD 3 [])] (0 + (i : Int)) = some (L2.T pa) /\ (P8 fun i => ls.getD i [])[i]? = some pa /\ nm pa = true /\ atI [L2.T k0, L2.T [111, 119, 110], L2.T k2] (0 + (i : Int)) = some (L2.T kd) /\ kd ∈ KDS /\ (i = 1 -> kd = [111, 119, 110]) := fun i hi => by
  rw [Int.zero_add]
  rcases (by omega : i = 0 \/ i = 1 \/ i = 2) with rfl | rfl | rfl
  ·exact ⟨_, k0, aB rfl, rfl, NFn.n_ 0 (by decide), aB rfl, KD.1, fun z => by cases z⟩
  ·exact ⟨_, _, aB rfl, rfl, NFn.n_ 1 (by decide), aB rfl, (show ([111, 119, 110] : List Nat) ∈ KDS by decide), fun _ => rfl⟩
  ·exact ⟨_, k2, aB rfl, rfl, NFn.n_ 3 (by decide), aB rfl, KD.2, fun z => by cases z⟩
 obtain ⟨n, hn⟩ : ∃ n : Nat -> List Nat, n = fun i => ls.getD i [] := ⟨_, rfl⟩
 rw [<- hn] at NFn tab
 have od : ∀ {p : Addr} {l : List V}, G3 p = some (.lst l) -> p ∉ [d] := fun {p l} e m => by
  rw [List.mem_singleton.mp m, g3] at e; cases e
 have g1' := (s12.trans s13) _ _ g1
 have g2' := s13 _ _ g2
 refine jx ?_
 walk_at "rd"
 refine g6 (lo := 0) (n := 3) (fun i σ' G => Keep [d] G3 G /\ NoT G /\ ∃ as x7, G d = some (.dK (as.map kyL)) /\ (∀ x ∈ as, G x.ls = some (.lst [cuV x.cu, .int x.fi, cl x.un, L2.T x.ki])) /\ AF n as i /\ σ' = sgA sc pn pc (c / 200) pk pt d x7 none none none none none) ⟨Keep.refl, N13, [], _, g3, (fun _ m => nomatch m), ⟨rfl, (fun _ _ e => nomatch e), (fun _ m => nomatch m), (fun _ _ _ e => nomatch e), (fun z => absurd z (by decide)), by decide⟩, rfl⟩ ?_ ?_
 ·rintro i σ' G hi ⟨kp, nG, as, x7, hdG, hlG, FG, rfl⟩
  obtain ⟨pa, kd, t1, t2, t3, t4, t5, t6⟩ := tab i hi
  walk_at "rd"
  refine ⟨_, _, .inl (SqL.of (kp _ _ g1' (od g1'))), t4, by walk_at "om", fun p hp => ?_⟩
  refine ⟨_, _, .inl (SqL.of ((aj (au (kp _ _ g2' (od g2')) hp)).trans (kp _ _ g2' (od g2')))), t1, ?_⟩
  have X : Ok1 as ⟨pa, none, 0, none, kd, p⟩ := ⟨FG.nw NFn (x := ⟨pa, none, 0, none, kd, p⟩) t2, NFn.po _ (List.mem_of_getElem? t2), t5, ⟨Int.le_refl _, (by decide : (0 : Int) <= 10)⟩, (fun t e => nomatch e), (fun t e => nomatch e), .inl ⟨t3, rfl, rfl⟩⟩
  have pd : p ≠ d := Ne.symm (au hdG hp)
  refine ⟨d, _, rfl, DPut.k (k := .inr ⟨⟨pa⟩⟩) ((aj (Ne.symm pd)).trans hdG) (by rw [List.length_map, sizeLine_eq]; have := FG.len; omega), ?_⟩
  rw [yL (x := ⟨pa, none, 0, none, kd, p⟩) X.nw]
  refine ⟨(kp.new hp).put (.head _), az (az nG rfl) rfl, _, _, ag, fun y my => ?_, FG.snoc t2 X (by show (0 : Int) <= _; omega) (fun _ => rfl) (fun h1 => ⟨rfl, rfl, rfl, t6 h1⟩), rfl⟩
  rcases List.mem_append.mp my with my | my
  ·have e := hlG y my
   rw [aj (eD e hdG (by intro z; cases z)), aj (au e hp)]; exact e
  ·rw [List.mem_singleton.mp my]
   exact (aj pd).trans ag
 ·rintro σ' G ⟨kp, nG, as, x7, hdG, hlG, FG, rfl⟩
  have ol : ∀ {p : Addr} {l : List V}, G3 p = some (.lst l) -> G p = some (.lst l) := fun e => kp _ _ e (od e)
  rw [hn] at FG
  exact c7 pn pc _ pk pt d x7 ls cy as G (ol (s23 _ _ (s2 _ _ hpn))) nok (ol (s23 _ _ hpc)) lcy ccy (ol g2') hdG hlG FG (fun p o e => kp _ _ (s03 _ _ e) fun m => by rw [List.mem_singleton.mp m, d0] at e; cases e) nG d0
end
open PySem L2 K19 K22
section
variable {P : Program} {w : World} {K : PySem.W.Frag} {mg : Str -> Option Value} {base : Heap} {a : Adr}
open K3
structure CR (c : Acc) (x : La) : Prop where
 pa : c.pa = x.pa
 ki : c.ki = L2.T x.ki
 fi : c.fi = x.fi
 be : c.be ≠ [] -> x.un = none
theorem GI {α β : Type} {R : α -> β -> Prop} {xs : List α} {ys : List β} (h : A2 R xs ys) {x : α} (m : x ∈ xs) : ∃ y ∈ ys, R x y := by
 induction h with
 | nil => cases m
 | cons r _ ih =>
  rcases List.mem_cons.mp m with rfl | m
  ·exact ⟨_, .head _, r⟩
  ·obtain ⟨y, my, r⟩ := ih m; exact ⟨y, .tail _ my, r⟩
theorem FQ {α β : Type} {R : α -> β -> Prop} {xs : List α} {ys : List β} (h : A2 R xs ys) {y : β} (m : y ∈ ys) : ∃ x ∈ xs, R x y := by
 induction h with
 | nil => cases m
 | cons r _ ih =>
  rcases List.mem_cons.mp m with rfl | m
  ·exact ⟨_, .head _, r⟩
  ·obtain ⟨y, my, r⟩ := ih m; exact ⟨y, .tail _ my, r⟩
theorem xA {α β : Type} {R : α -> β -> Prop} {f : α -> α} : ∀ {xs : List α} {ys : List β}, (∀ x y, y ∈ ys -> R x y -> R (f x) y) -> A2 R xs ys -> A2 R (xs.map f) ys
 | _, _, _, .nil => .nil
 | _, _, k, .cons r h => .cons (k _ _ (.head _) r) (xA (fun x y m => k x y (.tail _ m)) h)
theorem Bm {cs : List Acc} {as : List La} {l : List Nat} {f : Acc -> Acc} (hf : ∀ z, (f z).pa = z.pa /\ (f z).ki = z.ki /\ (f z).fi = z.fi) (hb : ∀ x ∈ as, x.pa = l -> ∀ z : Acc, (f z).be ≠ [] -> z.be ≠ [] \/ x.un = none) (h : A2 CR cs as) : A2 CR (mm cs l f) as := by
 refine xA (fun c x mx r => ?_) h
 by_cases e : c.pa = l
 ·rw [if_pos e]
  refine ⟨(hf c).1.trans r.pa, (hf c).2.1.trans r.ki, (hf c).2.2.trans r.fi, fun z => ?_⟩
  rcases hb x mx (r.pa.symm.trans e) c z with z | z
  ·exact r.be z
  ·exact z
 ·rw [if_neg e]; exact r
def OldK (H G : Hp) (d : Addr) : Prop := ∀ p o, H p = some o -> p ≠ d -> G p = some o
theorem OldK.keep {H G G' : Hp} {d : Addr} {S : List Addr} (h : OldK H G d) (k : Keep S G G') (n : ∀ p ∈ S, H p = none) : OldK H G' d := fun p o e np => k _ _ (h p o e np) fun m => by rw [n p m] at e; cases e
theorem EH {cs : List Acc} {l : List Nat} (h : ∀ c ∈ cs, c.pa ≠ l) : fnd cs l = none := List.find?_eq_none.mpr fun c m => by simpa using h c m
theorem DC {as : List La} (nd : (as.map (·.pa)).Nodup) {x y : La} (mx : x ∈ as) (my : y ∈ as) (e : x.pa = y.pa) : x = y := by
 induction as with
 | nil => cases mx
 | cons z r ih =>
  rw [List.map_cons] at nd
  obtain ⟨n1, n2⟩ := List.nodup_cons.mp nd
  rcases List.mem_cons.mp mx with rfl | mx1
  ·rcases List.mem_cons.mp my with rfl | my1
   ·rfl
   ·exact absurd (by rw [e]; exact List.mem_map_of_mem (f := (·.pa)) my1) n1
  ·rcases List.mem_cons.mp my with rfl | my1
   ·exact absurd (by rw [<- e]; exact List.mem_map_of_mem (f := (·.pa)) mx1) n1
   ·exact ih n2 mx1 my1
structure CI (C A : Addr) (H G : Hp) (d ch cd : Addr) (cs : List Acc) (as : List La) (n : Nat) : Prop where
 old : OldK H G d
 nT : NoT G
 at_ : CAt C A G ch cd cs
 cr : A2 CR cs as
 fr : ∀ c ∈ cs, H c.ob = none /\ H c.bl = none
 lb : ∀ c ∈ cs, c.be.length <= n
theorem CI.dict {C A : Addr} {H G : Hp} {d ch cd : Addr} {cs : List Acc} {as : List La} {n : Nat} {u : HO} (h : CI C A H G d ch cd cs as n) (hd : H d = some u) (h1 : H ch = none) (h2 : H cd = none) {o : HO} (f : kl o = true) : CI C A H (upd G d o) d ch cd cs as n := by
 have ne : ∀ {p : Addr}, H p = none -> p ∉ [d] := fun e m => by rw [List.mem_singleton.mp m, hd] at e; cases e
 exact ⟨fun p z e np => (aj np).trans (h.old p z e np), az h.nT f, h.at_.keep (S := [d]) (Keep.refl.put (.head _)) (ne h1) (ne h2) fun c m => ⟨ne (h.fr c m).1, ne (h.fr c m).2⟩, h.cr, h.fr, h.lb⟩
theorem A6 {G : Hp} {as : List La} {i : Nat} {y v : V} (h : rN G (.dK (as.map kyL)) i y v) : ∃ x, as[i]? = some x /\ y = L2.T x.pa /\ v = .ref x.ls := by
 obtain ⟨kk, e, rfl⟩ := h
 rw [List.getElem?_map] at e
 obtain ⟨x, ex, e2⟩ := Option.map_eq_some_iff.mp e
 cases e2
 exact ⟨x, ex, rfl, rfl⟩
theorem Ci (x : V) : List.lookup (Str.ofString "shut") [(Str.ofString "by_path", x)] = none := by rw [bn (by decide +kernel)]; rfl
theorem Ff (x : V) : List.lookup (Str.ofString "add") [(Str.ofString "by_path", x)] = none := by rw [bn (by decide +kernel)]; rfl
theorem D3 (x : V) : List.lookup (Str.ofString "add_top") [(Str.ofString "by_path", x)] = none := by rw [bn (by decide +kernel)]; rfl
theorem Ac {G : Hp} {d : Addr} {o : Obj} {as : List La} (nd : (as.map (·.pa)).Nodup) {x : La} (m : x ∈ as) (h : G d = some (.frz o (.dK (as.map kyL)))) : DGet G d (L2.T x.pa) (some (.ref x.ls)) :=
 .inl ⟨_, .inr ⟨⟨x.pa⟩⟩, .inr ⟨o, h⟩, rfl, (AcAt.val (H := G) (d := d) nd m).symm⟩
def sp_uQ (C A : Addr) : Sp := sp1 fun x H Q _ => NoT H /\ asR x fun d => ∃ as, H d = some (.dK (as.map kyL)) /\ AcAt H d as /\ As8 as /\ ∀ ch cd cs H', GF C A H' ch as cd cs -> (∀ c ∈ cs, H c.bl = none) -> H ch = none -> H cd = none -> Same H H' -> NoT H' -> Q (.ref ch) H'
theorem rh (T : Txt K mg a) : bd P w K mg base (XE P w) 8 a.fH a.j1 ["_law_accounts_here"] (sp_uQ a.bA a.aT) := by
 refine T.iw.okX ka (fun vs H Q E h => sp1.len h) (fun cdv A outer s H vs Q E hr h => ?_)
 obtain ⟨x0, rfl, h⟩ := sp1.inv h
 try dsimp only [sp_uQ, sp1] at h
 have ND := ka.nd
 have HU := aM hr
 obtain ⟨hN, h1⟩ := h
 obtain ⟨d, rfl, as, hd, AC, A8, k⟩ := asR.inv h1
 have sz := szl
 have nd := A8.ok.nd
 have l8 := A8.len
 have G_Chart_shut := rj (P := P) (w := w) (base := base) T
 have b_Chart_shut := rA T.mj
 have G_Chart_add := uI (P := P) (w := w) (base := base) T
 have b_Chart_add := tT T.nz
 have G_Chart_add_top := mX (P := P) (w := w) (base := base) T
 have b_Chart_add_top := m4 T.iJ
 have G_Chart___init__ := mq (P := P) (w := w) (base := base) T
 have b_Chart___init__ := lJ T.gW
 have c2 : ∃ u, PSs (cW (XE P w) P w K mg base ["_law_accounts_here", "_law_chart_here", "_law_path", "_law_currency", "_law_first", "_law_until", "_law_kind"] "_law_chart" (ad bM) a.fH cdv A outer s H E) (List.drop 2 (av bM)) u /\ ∀ ch cd cs x2 x3 x4 x5 x6 G, CI a.bA a.aT H G d ch cd cs as 20 -> (∀ c ∈ cs, c.un = none) -> G d = some (.dK (as.map kyL)) -> H ch = none -> H cd = none ->
  u { nx := fun _ H' => Q .non H', rt := Q } [some (.ref d), some (.ref ch), x2, x3, x4, x5, x6] G := by
  refine ⟨_, (ah (uw (e_ (by passes_own) rfl (uD (fv 0)) (aO (i := 2) ND rfl (Or.inl rfl)) (ai (bF (nX (lT (aQ (aA K) (dB (Nat.lt_of_le_of_lt (Nat.add_le_add_left (by decide) _) HU) (fv 0) (fv 2) (fun _ _ => rfl)) af (fun _ _ => rfl)))) (ai (cg (cK (fv 1) T.cp T.rp G_Chart_shut (hr.mono (by decide)) b_Chart_shut .nil aD (FA.pa (aa (fv 2) (aa (aQ (aA K) (dB (Nat.lt_of_le_of_lt (Nat.add_le_add_left (by decide) _) HU) (fv 0) (fv 2) (fun _ _ => rfl)) af (fun _ _ => rfl)) ae)))))) aS))))
   (ai (aL (fv 1)))), fun ch cd cs x2 x3 x4 x5 x6 G I un0 hdG hch0 hcd0 => BS ?_⟩
  walk_at "rd"
  refine ⟨d, .dK (as.map kyL), rfl, rfl, .inl hdG, fun o _ => Bn (fun i σ' G' => G' d = some (.frz o (.dK (as.map kyL))) /\ ∃ cs x2, CI a.bA a.aT H G' d ch cd cs as 20 /\ (∀ j c, i <= j -> cs[j]? = some c -> c.un = none) /\ σ' = [some (.ref d), some (.ref ch), x2, x3, x4, x5, x6]) ⟨ag, cs, _, ?_, fun j c _ e => un0 c (List.mem_of_getElem? e), rfl⟩ (fun i σ' G' h => h.1) ?_ ?_⟩
  ·exact I.dict hd hch0 hcd0 rfl
  ·rintro i y v σ' G' hi en ⟨hf, cs, x2, I, un, rfl⟩
   obtain ⟨x, ex, rfl, rfl⟩ := A6 en
   have mx := List.mem_of_getElem? ex
   have ok := A8.ok i x ex
   have dg := Ac nd mx hf
   have hx : G' x.ls = some (.lst [cuV x.cu, .int x.fi, cl x.un, L2.T x.ki]) := I.old _ _ (AC.ls x mx) (eD (AC.ls x mx) hd (by intro z; cases z))
   have lp := ok.po.len
   obtain ⟨dx, hch⟩ := I.at_.ob
   walk_at "rd"
   refine ⟨d, .ref x.ls, rfl, dg, ?_⟩
   walk_at "rd"
   refine ⟨_, _, .inl (SqL.of hx), aB (j := 2) rfl, ?_⟩
   cases eu : x.un with
   | none => exact itp rfl ⟨hf, cs, _, I, fun j c hj e => un j c (by omega) e, rfl⟩
   | some t =>
    refine itn (by intro z; cases z) ?_
    walk_at "rd"
    have ut := ok.un t eu
    obtain ⟨c, hc, rc⟩ : ∃ c, cs[i]? = some c /\ CR c x := by
     have l1 := I.cr.len
     have l2 := (List.getElem?_eq_some_iff.mp ex).1
     have hi : i < cs.length := by omega
     obtain ⟨y, ey, r⟩ := I.cr.at_ (List.getElem?_eq_getElem hi)
     rw [ex] at ey; cases ey
     exact ⟨cs[i], List.getElem?_eq_getElem hi, r⟩
    have mc := List.mem_of_getElem? hc
    have fx := ok.fi
    have be0 : c.be = [] := by
     cases eb : c.be with
     | nil => rfl
     | cons _ _ => have := rc.be (by rw [eb]; intro z; cases z); rw [eu] at this; cases this
    have eV : cl (some t) = V.int t := rfl
    rw [eu, eV] at hx
    refine ⟨dx, _, hch, Ci _, d, .ref x.ls, rfl, dg, ?_⟩
    walk_at "rd"
    refine ⟨_, _, .inl (SqL.of hx), aB (j := 2) rfl, I.nT, ⟨ok.po.lo, by omega⟩, ?_⟩
    walk_at "rd"
    refine ⟨⟨by omega, ut.2⟩, cd, cs, c, I.at_, mc, rc.pa, ok.po.pn, un i c (Nat.le_refl _) hc, by rw [rc.fi]; omega, be0, fun H2 J2 K2 N2 => ?_⟩
    have nob : ∀ p ∈ cs.map (·.ob), H p = none := fun p m => by
     obtain ⟨z, mz, rfl⟩ := List.mem_map.mp m
     exact (I.fr z mz).1
    have fr2 : ∀ z ∈ mm cs x.pa (shu t), ∃ y ∈ cs, z.ob = y.ob /\ z.bl = y.bl /\ z.be = y.be := fun z mz => by
     obtain ⟨y, my, e⟩ := i_ mz
     refine ⟨y, my, ?_⟩
     rw [e]; split <;> exact ⟨rfl, rfl, rfl⟩
    refine ⟨K2 _ _ hf (fun m => by rw [nob _ m] at hd; cases hd), _, _, ⟨I.old.keep K2 nob, N2, J2, Bm (fun _ => ⟨rfl, rfl, rfl⟩) (fun y my ey z hz => .inl hz) I.cr, fun z mz => ?_, fun z mz => ?_⟩, fun j z hj e => ?_, rfl⟩
    ·obtain ⟨y, my, e1, e2, _⟩ := fr2 z mz
     rw [e1, e2]; exact I.fr y my
    ·obtain ⟨y, my, _, _, e3⟩ := fr2 z mz
     rw [e3]; exact I.lb y my
    ·unfold mm at e
     rw [List.getElem?_map] at e
     obtain ⟨y, ey, rfl⟩ := Option.map_eq_some_iff.mp e
     obtain ⟨w1, ew, r1⟩ := I.cr.at_ ey
     have ne : ¬ y.pa = x.pa := fun z => by
      have := (A8.ok j w1 ew).nw x (by
       rw [List.mem_iff_getElem?]
       exact ⟨i, by rw [List.getElem?_take, if_pos (by omega)]; exact ex⟩)
      exact this (z.symm.trans r1.pa)
     rw [if_neg ne]
     exact un j y (by omega) ey
  ·rintro σ' G' ⟨hf, cs, x2, I, un, rfl⟩
   walk_at "rd"
   refine ⟨d, o, _, hf, .inl ⟨hdG, rfl, ?_⟩⟩
   have I2 := I.dict (o := .dK (as.map kyL)) hd hch0 hcd0 rfl
   refine k ch cd cs _ ⟨I2.at_, fun x mx => ?_⟩ (fun c m => (I2.fr c m).2) hch0 hcd0 (fun p z e => ?_) I2.nT
   ·obtain ⟨c, mc, r⟩ := FQ I2.cr mx
    exact ⟨c, mc, r.pa, r.ki⟩
   ·by_cases hp : p = d
    ·rw [hp, ag]; rw [hp, hd] at e; exact e
    ·exact I2.old p z e hp
 obtain ⟨u2, hu2, c2⟩ := c2
 refine ⟨_, (ah (aH (i := 1) ND rfl (Or.inl rfl) (jO T.BN G_Chart___init__ (hr.mono (by decide)) rfl T.Cq b_Chart___init__ .nil aD))
  (ah (uw (e_ (by passes_own) rfl (uD (fv 0)) (aO (i := 2) ND rfl (Or.inl rfl)) (ah (ui (dB (Nat.lt_of_le_of_lt (Nat.add_le_add_left (by decide) _) HU) (fv 0) (fv 2) (fun _ _ => rfl)) (xX K (n := 4) rfl (bf (aO (i := 3) ND rfl (Or.inl rfl)) (bf (aO (i := 4) ND rfl (Or.inl rfl)) (bf (aO (i := 5) ND rfl (Or.inl rfl)) (bf (aO (i := 6) ND rfl (Or.inl rfl)) gE))))))
  (ai (bF (bo Fr (aK [58]) (fv 2) (by with_unfolding_all rfl)) (ai (cg (cK (fv 1) T.cp T.sQ G_Chart_add (hr.mono (by decide)) b_Chart_add .nil aD (FA.pa (aa (fv 2) (aa (fv 3) (aa (fv 4) ae))))))) (ai (cg (cK (fv 1) T.cp T.m9 G_Chart_add_top (hr.mono (by decide)) b_Chart_add_top .nil aD (FA.pa (aa (fv 2) (aa (fv 6) ae)))))))))))
  hu2)), ?_⟩
 walk_at "rd"
 intro ch dx hch hdx ndx
 refine ⟨az (az hN rfl) rfl, dx, ag, fun cd H1 hcd J1 kp N1 => BS ?_⟩
 have k0 := hV hch hdx kp
 have hcd0 := eG hcd
 walk_at "rd"
 have I0 : CI a.bA a.aT H H1 d ch cd [] (as.take 0) 0 := ⟨fun p o e _ => k0 _ _ e List.not_mem_nil, N1, J1, .nil, (fun _ m => nomatch m), fun _ m => nomatch m⟩
 refine ⟨d, .dK (as.map kyL), rfl, rfl, .inl (k0 _ _ hd List.not_mem_nil), fun o _ => Bn (fun i σ' G' => G' d = some (.frz o (.dK (as.map kyL))) /\ ∃ cs x2 x3 x4 x5 x6, CI a.bA a.aT H G' d ch cd cs (as.take i) i /\ (∀ c ∈ cs, c.un = none) /\ σ' = [some (.ref d), some (.ref ch), x2, x3, x4, x5, x6]) ⟨ag, [], _, _, _, _, _, I0.dict hd hch hcd0 rfl, (fun _ m => nomatch m), rfl⟩ (fun i σ' G' h => h.1) ?_ ?_⟩
 ·rintro i y v σ' G' hi en ⟨hf, cs, x2, x3, x4, x5, x6, I, un, rfl⟩
  obtain ⟨x, ex, rfl, rfl⟩ := A6 en
  have mx := List.mem_of_getElem? ex
  have ok := A8.ok i x ex
  have dg := Ac nd mx hf
  have hx : G' x.ls = some (.lst [cuV x.cu, .int x.fi, cl x.un, L2.T x.ki]) := I.old _ _ (AC.ls x mx) (eD (AC.ls x mx) hd (by intro z; cases z))
  have lp := ok.po.len
  obtain ⟨dx, hch1⟩ := I.at_.ob
  have i8 : i < as.length := (List.getElem?_eq_some_iff.mp ex).1
  have lc : cs.length <= 8 := by have := I.cr.len; rw [List.length_take] at this; omega
  have ef : fnd cs x.pa = none := EH fun c mc e => by
   obtain ⟨z, mz, r⟩ := GI I.cr mc
   exact ok.nw z mz (r.pa.symm.trans e)
  have et : as.take (i + 1) = as.take i ++ [x] := by rw [List.take_succ, ex]; rfl
  walk_at "rd"
  refine ⟨d, .ref x.ls, rfl, dg, x.ls, _, rfl, SqL.of hx, rfl, ?_⟩
  walk_at "rd"
  refine ⟨_, _, ⟨rfl, rfl⟩, _, _, rfl, _, _, rfl, _, _, rfl, rfl, ?_⟩
  have fre : ∀ {p : Addr}, G' p = none -> H p = none := fun {p} e => by
   cases e1 : H p with
   | none => rfl
   | some z =>
    by_cases hp : p = d
    ·rw [hp, hf] at e; cases e
    ·rw [I.old p z e1 hp] at e; cases e
  have sub : ∀ {y : La}, y ∈ as.take i -> y ∈ as := fun m => List.mem_of_mem_take m
  rcases ok.st with ⟨t1, t2, t3⟩ | ⟨u, n, mu, ep, n58, uu, uf, uk⟩
  ·refine itn (fun z => pv t1 (of_decide_eq_true z)) ?_
   walk_at "rd"
   refine ⟨dx, _, hch1, D3 _, I.nT, t1, ok.ki, cd, cs, I.at_, by omega, ef, fun c H2 p1 p2 p3 p4 p5 p6 p7 J2 K2 N2 => ?_⟩
   refine ⟨K2 _ _ hf (fun m => by rw [List.mem_singleton.mp m, hcd0] at hd; cases hd), _, _, _, _, _, _, ⟨I.old.keep K2 (fun p m => by rw [List.mem_singleton.mp m]; exact hcd0), N2, J2, ?_, fun z mz => ?_, fun z mz => ?_⟩, fun z mz => ?_, rfl, rfl, rfl, rfl, rfl⟩
   ·rw [et]; exact I.cr.snoc ⟨p1, p2, p3.trans t2.symm, fun z => absurd p5 z⟩
   ·rcases List.mem_append.mp mz with mz | mz
    ·exact I.fr z mz
    ·rw [List.mem_singleton.mp mz]; exact ⟨fre p6, fre p7⟩
   ·rcases List.mem_append.mp mz with mz | mz
    ·have := I.lb z mz; omega
    ·rw [List.mem_singleton.mp mz, p5]; exact Nat.zero_le _
   ·rcases List.mem_append.mp mz with mz | mz
    ·exact un z mz
    ·rw [List.mem_singleton.mp mz]; exact p4
  ·obtain ⟨cu', mcu, rcu⟩ := FQ I.cr mu
   refine itp (by rw [ep]; simp) ?_
   walk_at "rd"
   have hc : cuV x.cu = V.non \/ ∃ cl, cuV x.cu = L2.T cl /\ cur cl = true := by
    cases ec : x.cu with
    | none => exact .inl rfl
    | some l => exact .inr ⟨l, rfl, ok.cu l ec⟩
   have fx := ok.fi
   have ncl : ∀ p ∈ cd :: cs.map (·.bl), H p = none := fun p m => by
    rcases List.mem_cons.mp m with rfl | m
    ·exact hcd0
    ·obtain ⟨z, mz, rfl⟩ := List.mem_map.mp m
     exact (I.fr z mz).2
   refine ⟨dx, _, hch1, Ff _, I.nT, ⟨ok.po.lo, by omega⟩, hc, ⟨fx.1, by omega⟩, u.pa, n, cd, cs, cu', ep, n58, ok.po.pn, I.at_, by omega, (fun c m => by have := I.lb c m; omega), ef, mcu, rcu.pa, un cu' mcu, by rw [rcu.fi]; exact uf, fun c H2 p1 p2 p3 p4 p5 p6 p7 J2 K2 N2 => ?_⟩
   have fr2 : ∀ z ∈ mm cs u.pa (grw x.pa), ∃ y ∈ cs, z.ob = y.ob /\ z.bl = y.bl /\ z.un = y.un /\ z.be.length <= y.be.length + 1 := fun z mz => by
    obtain ⟨y, my, e⟩ := i_ mz
    refine ⟨y, my, ?_⟩
    rw [e]; split
    ·exact ⟨rfl, rfl, rfl, by show (y.be ++ [x.pa]).length <= _; rw [List.length_append]; exact Nat.le_refl _⟩
    ·exact ⟨rfl, rfl, rfl, Nat.le_succ _⟩
   refine ⟨K2 _ _ hf (fun m => by rw [ncl _ m] at hd; cases hd), _, _, _, _, _, _, ⟨I.old.keep K2 ncl, N2, J2, ?_, fun z mz => ?_, fun z mz => ?_⟩, fun z mz => ?_, rfl, rfl, rfl, rfl, rfl⟩
   ·rw [et]
    refine (Bm (f := grw x.pa) (fun _ => ⟨rfl, rfl, rfl⟩) (fun y my ey z hz => .inr ?_) I.cr).snoc ⟨p1, by rw [p2, rcu.ki, uk], p3, fun z => absurd p5 z⟩
    rw [DC nd (sub my) (sub mu) ey]; exact uu
   ·rcases List.mem_append.mp mz with mz | mz
    ·obtain ⟨y, my, e1, e2, _⟩ := fr2 z mz
     rw [e1, e2]; exact I.fr y my
    ·rw [List.mem_singleton.mp mz]; exact ⟨fre p6, fre p7⟩
   ·rcases List.mem_append.mp mz with mz | mz
    ·obtain ⟨y, my, _, _, _, e3⟩ := fr2 z mz
     have := I.lb y my; omega
    ·rw [List.mem_singleton.mp mz, p5]; exact Nat.zero_le _
   ·rcases List.mem_append.mp mz with mz | mz
    ·obtain ⟨y, my, _, _, e3, _⟩ := fr2 z mz
     rw [e3]; exact un y my
    ·rw [List.mem_singleton.mp mz]; exact p4
 ·rintro σ' G' ⟨hf, cs, x2, x3, x4, x5, x6, I, un, rfl⟩
  walk_at "rd"
  refine ⟨d, o, _, hf, .inl ⟨k0 _ _ hd List.not_mem_nil, rfl, ?_⟩⟩
  have el : as.take (gN (.dK (as.map kyL))) = as := List.take_of_length_le (by show _ <= (as.map kyL).length; rw [List.length_map]; exact Nat.le_refl _)
  rw [el] at I
  have ln : gN (.dK (as.map kyL)) = as.length := List.length_map ..
  have I2 := I.dict (o := .dK (as.map kyL)) hd hch hcd0 rfl
  exact c2 ch cd cs _ _ _ _ _ _ ⟨I2.old, I2.nT, I2.at_, I2.cr, I2.fr, fun c m => by have := I2.lb c m; omega⟩ un ag hch hcd0
end
open PySem L2 K19 K22
section
variable {P : Program} {w : World} {K : PySem.W.Frag} {mg : Str -> Option Value} {base : Heap} {a : Adr}
open K3
def sp_yB : Sp := sp3 fun x y z H Q _ => NoT H /\ asR x fun d => asT y fun l => asI z fun day => ∃ as x, AcAt H d as /\ (as.map (·.pa)).Nodup /\ x ∈ as /\ x.pa = l /\ Q (.bl (opn x.fi x.un day)) H
theorem oA (T : Txt K mg a) : bd P w K mg base (XE P w) 1 a.fM a.iW ["_law_accounts_here", "_law_path", "_law_day_here"] sp_yB := by
 refine T.fP.okG iU (fun vs H Q E h => sp3.len h) (fun cdv A outer s H vs Q E hr h => ?_)
 obtain ⟨x0, x1, x2, rfl, h⟩ := sp3.inv h
 try dsimp only [sp_yB, sp3] at h
 have ND := iU.nd
 have HU := aM hr
 obtain ⟨hN, h1⟩ := h
 obtain ⟨d, rfl, h2⟩ := asR.inv h1
 obtain ⟨l, rfl, h3⟩ := asT.inv h2
 obtain ⟨day, rfl, as, x, AC, nd, mx, rfl, k⟩ := asI.inv h3
 have sz := szl
 refine ⟨hN, _, (ah (ui (bv (pM K) (dB (Nat.lt_of_le_of_lt (Nat.add_le_add_left (by decide) _) HU) (fv 0) (fv 1) (fun _ _ => rfl)) (bG af) (bG af)) (xX K (n := 2) rfl (bf (aO (i := 3) ND rfl (Or.inl rfl)) (bf (aO (i := 4) ND rfl (Or.inl rfl)) gE))))
  (ai (aL (cV (d8 fQ (fv 3) (fv 2) (aY _)) (df (Dj (xg (AA (fv 4))) (df (d8 yi (fv 2) (fv 4) (aY _))))))))), ?_⟩
 walk_at "rd"
 refine ⟨d, .ref x.ls, rfl, AC.get nd mx, ?_⟩
 walk_at "rd"
 refine ⟨x.ls, _, rfl, SqL.of (AC.ls x mx), fun p hp => ?_⟩
 have s1 := aq (HO.lst (jX [cuV x.cu, V.int x.fi, cl x.un, L2.T x.ki] (some 1) (some 3))) hp
 have g1 : upd H p (HO.lst (jX [cuV x.cu, V.int x.fi, cl x.un, L2.T x.ki] (some 1) (some 3))) p = some (HO.lst [V.int x.fi, cl x.un]) := ag.trans rfl
 generalize upd H p (HO.lst (jX [cuV x.cu, V.int x.fi, cl x.un, L2.T x.ki] (some 1) (some 3))) = G1 at s1 g1 ⊢
 refine ⟨p, [V.int x.fi, cl x.un], rfl, SqL.of g1, rfl, _, _, rfl, _, _, rfl, rfl, ?_⟩
 walk_at "rd"
 have fin : ∀ b : Bool, opn x.fi x.un day = b -> ∃ G, Gc H G G1 /\ Q (.bl b) G := fun b e => ⟨H, Gc.none s1, by rw [<- e]; exact k⟩
 by_cases h1 : x.fi <= day
 ·refine itp h1 ?_
  have e1 : opn x.fi x.un day = lat x.un day := by unfold opn; rw [decide_eq_true h1]; rfl
  cases eu : x.un with
  | none => exact itp rfl (fin _ (by rw [e1, eu]; rfl))
  | some t => exact itn (by intro z; cases z) (fin _ (by rw [e1, eu]; rfl))
 ·refine itn h1 (fin _ ?_)
  unfold opn; rw [decide_eq_false h1]; rfl
def tk (as : List La) (day : Int) (cy : List Nat) (v : V) : Bool := as.any fun x => decide (v = L2.T x.pa) && (opn x.fi x.un day && inV (cuV x.cu) [.non, L2.T cy])
theorem DI {as : List La} {day : Int} {cy : List Nat} (nd : (as.map (·.pa)).Nodup) {x : La} (m : x ∈ as) : tk as day cy (L2.T x.pa) = (opn x.fi x.un day && inV (cuV x.cu) [.non, L2.T cy]) := by
 unfold tk
 cases e : (opn x.fi x.un day && inV (cuV x.cu) [.non, L2.T cy]) with
 | true => exact List.any_eq_true.mpr ⟨x, m, by rw [e, decide_eq_true rfl]; rfl⟩
 | false =>
  refine List.any_eq_false.mpr fun y my => ?_
  by_cases h : L2.T x.pa = L2.T y.pa
  ·have hp : x.pa = y.pa := by simpa using h
   rw [<- DC nd m my hp, e, Bool.and_false]; decide
  ·rw [decide_eq_false h, Bool.false_and]; decide
theorem yc {G : Hp} {p pr : Addr} {ys : List V} {rs : List Row} (r : Row) (hpr : G pr = some (.lst ys)) (hp : G p = none) (ay : A2 (RwAt G) ys rs) (nG : NoT G) :
 Keep [pr] G (upd (upd G p (.tup [L2.T r.pa, L2.T r.cu, .int r.am])) pr (.lst (ys ++ [.ref p]))) /\ NoT (upd (upd G p (.tup [L2.T r.pa, L2.T r.cu, .int r.am])) pr (.lst (ys ++ [.ref p]))) /\ upd (upd G p (.tup [L2.T r.pa, L2.T r.cu, .int r.am])) pr (.lst (ys ++ [.ref p])) pr = some (.lst (ys ++ [.ref p])) /\ A2 (RwAt (upd (upd G p (.tup [L2.T r.pa, L2.T r.cu, .int r.am])) pr (.lst (ys ++ [.ref p])))) (ys ++ [.ref p]) (rs ++ [r]) := by
 have kG : Keep [pr] G (upd (upd G p (.tup [L2.T r.pa, L2.T r.cu, .int r.am])) pr (.lst (ys ++ [.ref p]))) := (Keep.refl.new hp).put (.head _)
 exact ⟨kG, az (az nG rfl) rfl, ag, (dX kG (LW.one hpr) ay).snoc ⟨p, rfl, (aj (Ne.symm (au hpr hp))).trans ag⟩⟩
def sp_rF : Sp := sp4 fun x y z t H Q _ => NoT H /\ asI x fun c => asR y fun d => asI z fun day => asR t fun pc => 0 <= day /\ ∃ (as : List La) (cy : List (List Nat)), H d = some (.dK (as.map kyL)) /\ AcAt H d as /\ As8 as /\ H pc = some (.lst (cy.map L2.T)) /\ cy.length = 3 /\ ∀ q vs rs H', H q = none -> H' q = some (.lst vs) -> A2 (RwAt H') vs rs -> rs.length <= 4 -> (∀ r ∈ rs, r.pa ∈ as.map (·.pa) /\ r.cu ∈ cy) -> Same H H' -> NoT H' -> Q (.ref q) H'
theorem iS (T : Txt K mg a) : bd P w K mg base (XE P w) 2 a.fU a.iN ["_law_cell", "_law_accounts_here", "_law_day_here", "_law_currencies_here"] sp_rF := by
 refine T.cX.okX iV (fun vs H Q E h => sp4.len h) (fun cdv A outer s H vs Q E hr h => ?_)
 obtain ⟨x0, x1, x2, x3, rfl, h⟩ := sp4.inv h
 try dsimp only [sp_rF, sp4] at h
 have ND := iV.nd
 have HU := aM hr
 obtain ⟨hN, h1⟩ := h
 obtain ⟨c, rfl, h2⟩ := asI.inv h1
 obtain ⟨d, rfl, h3⟩ := asR.inv h2
 obtain ⟨day, rfl, h4⟩ := asI.inv h3
 obtain ⟨pc, rfl, d0, as, cy, hd, AC, A8, hpc, lcy, k⟩ := asR.inv h4
 have sz := szl
 have nd := A8.ok.nd
 have l8 := A8.len
 obtain ⟨c1, mc1, ec⟩ : ∃ c1 ∈ cy, atI (cy.map L2.T) (c % 3) = some (L2.T c1) := by
  obtain ⟨j, e⟩ := Int.eq_ofNat_of_zero_le (Int.emod_nonneg c (show (3 : Int) ≠ 0 by decide))
  have b := Int.emod_lt_of_pos c (show (0 : Int) < 3 by decide)
  rw [e] at b ⊢
  have hj : j < cy.length := by omega
  exact ⟨cy[j], List.getElem_mem hj, aB (by simp [hj])⟩
 have G__law_is_open := oA (P := P) (w := w) (base := base) T
 have b__law_is_open := ox T.fP
 refine ⟨_, (ah (aH (i := 4) ND rfl (Or.inr rfl) (aQ (aA K) (fv 3) (ak aV (fv 0) af) (fun _ _ => rfl)))
  (ah (uw (Bj (i0 := 5) ND rfl (Or.inl rfl) rfl (cl := _) (x := "_law_path") (xs := ["_law_path"]) (fr := ["_law_accounts_here", "_law_day_here", "_law_currency"]) (ks := [1, 2, 4]) (by exact ⟨rfl, by decide +kernel, rfl, by decide +kernel, rfl, dw rfl, rfl, a7 rfl, a7 (k := fun y => List.lookup y _) rfl, dA rfl⟩) rfl (uD (fv 1)) (fun _ _ _ _ _ => (aO (i := 0) (ig (l := ["_law_path", "_law_accounts_here", "_law_day_here", "_law_currency"]) (by decide)) rfl (Or.inl rfl))) (fun _ _ _ _ _ => (lW (rJ (L2.PW.pt (uC (cT (al G__law_is_open (hr.mono (by decide)) rfl T.pJ T.fP.kp b__law_is_open .nil yR (FA.pa (aa (fv 1) (aa (fv 0) (aa (fv 2) ae)))))) (oP (bo (EN K) (aQ (aA K) (dB (Nat.lt_of_le_of_lt (Nat.add_le_add_left (by decide) _) HU) (fv 1) (fv 0) (fun _ _ => rfl)) af (fun _ _ => rfl)) (aZ (FA.pa (aa eZ (aa (fv 3) ae)))) (by with_unfolding_all rfl)))))))) (fun _ _ _ _ _ => (fv 0))))
  (ah (aH (i := 6) ND rfl (Or.inl rfl) (cj (FA.pa ae)))
  (ah (aH (i := 7) ND rfl (Or.inl rfl) af)
  (ah (e_ (by passes_own) rfl (g_ rfl T.jS (FA.pa (aa (ak aI af (ak aV (ak a9 (fv 0) af) af)) ae))) (aO (i := 8) ND rfl (Or.inl rfl)) (ah (aH (i := 9) ND rfl (Or.inl rfl) (ak aI af (ak aV (ak aI (ak a9 (fv 0) (ak aI af (ak iE af (fv 8)))) (ak iE af (fv 8))) (fS (FA.pa (aa af (aa af (aa (ak Bv af af) ae)))) (ak aV (ak a9 (fv 0) af) af) (fun _ _ => rfl)))))
  (ah (aH (i := 7) ND rfl (Or.inl rfl) (ak aI (fv 7) (fv 9)))
  (ai (cg (e6 K PySem.F.plainAttrs_list PySem.F.slot_list_append PySem.F.type_list_append d5 (fv 6) (FA.pa (aa (aZ (FA.pa (aa (aQ (aA K) (fv 5) (ak aV (ak a9 (fv 0) (ak aI af (ak iE af (fv 8)))) (aJ (cF K) rfl T.fJ dR (FA.pa (aa (fv 5) ae)))) (fun _ _ => rfl)) (aa (fv 4) (aa (fv 9) ae))))) ae))))))))
  (ah (cg (e6 K PySem.F.plainAttrs_list PySem.F.slot_list_append PySem.F.type_list_append d5 (fv 6) (FA.pa (aa (aZ (FA.pa (aa (aQ (aA K) (fv 5) (ak aV (ak a9 (fv 0) af) (aJ (cF K) rfl T.fJ dR (FA.pa (aa (fv 5) ae)))) (fun _ _ => rfl)) (aa (fv 4) (aa (ak dP af (fv 7)) ae))))) ae))))
  (ai (aL (fv 6))))))))), ?_⟩
 walk_at "rd"
 refine ⟨_, _, .inl (SqL.of hpc), ec, ?_⟩
 refine cmK d (as.map kyL) (tk as day c1) (fun v => v) (fun R r => r) (.inl hd) (by rw [List.length_map, sizeLine_eq]; omega) (fun v mv D ys o R hD nD r => ?_) (fun v mv _ D ys o R hD nD r => r) fun D hD => ?_
 ·have eV : ∃ x ∈ as, v = L2.T x.pa := by
   obtain ⟨e, me, rfl⟩ := List.mem_map.mp mv
   obtain ⟨x, mx, rfl⟩ := List.mem_map.mp me
   exact ⟨x, mx, rfl⟩
  obtain ⟨x, mx, rfl⟩ := eV
  have et : tk as day c1 (L2.T x.pa) = (opn x.fi x.un day && inV (cuV x.cu) [.non, L2.T c1]) := DI nd mx
  rw [et] at r
  have nG : NoT (upd (upd H d (HO.frz o (HO.dK (as.map kyL)))) D (HO.lst ys)) := az (az hN rfl) rfl
  have AG : AcAt (upd (upd H d (HO.frz o (HO.dK (as.map kyL)))) D (HO.lst ys)) d as := ⟨.inr ⟨o, (aj (Ne.symm nD)).trans ag⟩, fun y my => by
   have e := AC.ls y my
   rw [aj (au e hD), aj (eD e hd (by intro z; cases z))]; exact e⟩
  generalize upd (upd H d (HO.frz o (HO.dK (as.map kyL)))) D (HO.lst ys) = G at r nG AG ⊢
  walk_at "rd"
  refine ⟨nG, nG, as, x, AG, nd, mx, rfl, ?_⟩
  cases eo : opn x.fi x.un day with
  | false =>
   rw [eo, Bool.false_and] at r
   exact itn (by decide) r
  | true =>
   rw [eo, Bool.true_and] at r
   refine itp rfl ⟨d, .ref x.ls, rfl, AG.get nd mx, ?_⟩
   walk_at "rd"
   exact ⟨_, _, .inl (SqL.of (AG.ls x mx)), aB (j := 0) rfl, by walk_at "om", fun p hp => ⟨_, .inr (SqT.of ag), by cases x.cu <;> rfl, rfl, G, Gc.none (aq _ hp), r⟩⟩
 ·have vin : ∀ v ∈ ((as.map kyL).map fun e => kV e.1).filter (tk as day c1), ∃ x ∈ as, v = L2.T x.pa := fun v m => by
   obtain ⟨e, me, rfl⟩ := List.mem_map.mp (List.mem_filter.mp m).1
   obtain ⟨x, mx, rfl⟩ := List.mem_map.mp me
   exact ⟨x, mx, rfl⟩
  have vne : 0 < (((as.map kyL).map fun e => kV e.1).filter (tk as day c1)).length := by
   obtain ⟨x, mx, x1, x2, x3, _⟩ := A8.own
   refine List.length_pos_of_mem (a := L2.T x.pa) (List.mem_filter.mpr ⟨List.mem_map.mpr ⟨kyL x, List.mem_map_of_mem mx, rfl⟩, ?_⟩)
   rw [DI nd mx, x1, x2, x3]
   unfold opn
   rw [decide_eq_true d0]; rfl
  have vl : (((as.map kyL).map fun e => kV e.1).filter (tk as day c1)).length <= 8 := Nat.le_trans (List.length_filter_le _ _) (by rw [List.length_map, List.length_map]; exact l8)
  rw [show ∀ l : List V, l.map (fun v => v) = l from fun l => List.map_id l]
  generalize ((as.map kyL).map fun e => kV e.1).filter (tk as day c1) = vs at vin vne vl ⊢
  have pick : ∀ x : Int, ∃ y ∈ as, atI vs (x % (vs.length : Int)) = some (L2.T y.pa) := fun x => by
   have p0 : (0 : Int) < vs.length := by omega
   obtain ⟨j, e⟩ := Int.eq_ofNat_of_zero_le (Int.emod_nonneg x (Int.ne_of_gt p0))
   have b := Int.emod_lt_of_pos x p0
   rw [e] at b ⊢
   have hj : j < vs.length := by omega
   obtain ⟨y, my, ey⟩ := vin vs[j] (List.getElem_mem hj)
   exact ⟨y, my, by rw [<- ey]; exact aB (List.getElem?_eq_getElem hj)⟩
  obtain ⟨G1, e1, s1, g1, N1⟩ := ck (HO.lst vs) hD hN rfl
  rw [e1]
  walk_at "rd"
  refine ⟨Nat.zero_le _, fun pr hpr => ?_⟩
  obtain ⟨G2, e2, s2, g2, N2⟩ := ck (HO.lst []) hpr N1 rfl
  rw [e2]
  have s12 := s1.trans s2
  have pr0 : H pr = none := s1.free hpr
  have npr : D ≠ pr := au g1 hpr
  refine jx ?_
  walk_at "rd"
  refine ⟨by omega, by omega, g6 (lo := 0) (n := (1 + c / 3 % 3).toNat) (fun i σ' G => Keep [pr] G2 G /\ NoT G /\ ∃ ys rs tot x8 x9, G pr = some (.lst ys) /\ A2 (RwAt G) ys rs /\ rs.length = i /\ (∀ r ∈ rs, r.pa ∈ as.map (·.pa) /\ r.cu ∈ cy) /\ σ' = [some (.int c), some (.ref d), some (.int day), some (.ref pc), some (L2.T c1), some (.ref D), some (.ref pr), some (.int tot), x8, x9]) ⟨Keep.refl, N2, [], [], _, _, _, g2, .nil, rfl, (fun _ m => nomatch m), rfl⟩ ?_ ?_⟩
  ·rintro i σ' G hi ⟨kp, nG, ys, rs, tot, x8, x9, hpr', ay, lrs, hin, rfl⟩
   have gD := kp _ _ (s2 _ _ g1) (by simpa using npr)
   have li : i < 4 := by omega
   obtain ⟨y, my, ey⟩ := pick (c / (11 + 5 * (0 + (i : Int))))
   have ly := ay.len
   have pos : 0 < ([9, 1000, 10 ^ Int.toNat 14] : List Int).getD (c / 9 % 3).toNat 0 := by
    rcases (by omega : c / 9 % 3 = 0 \/ c / 9 % 3 = 1 \/ c / 9 % 3 = 2) with e | e | e <;> rw [e] <;> decide
   walk_at "rd"
   refine ⟨⟨by omega, by omega⟩, nG, by decide, by walk_at "om", fun _ _ => ng (ns := [9, 1000, 10 ^ Int.toNat 14]) (by omega) (by show _ < (3 : Int); omega) ?_⟩
   generalize ([9, 1000, 10 ^ Int.toNat 14] : List Int).getD (c / 9 % 3).toNat 0 = md at pos
   walk_at "rd"
   refine ⟨pos, .inl ⟨_, SqL.of hpr'⟩, ⟨by omega, by omega⟩, _, .inl (SqL.of gD), by omega, _, _, .inl (SqL.of gD), ey, by walk_at "om", fun p hp => ⟨pr, ys, _, rfl, rfl, (aj (au hpr' hp)).trans hpr', by omega, ?_⟩⟩
   obtain ⟨q1, q2, q3, q4⟩ := yc ⟨y.pa, c1, 1 + (c / (9 + 14 * (0 + (i : Int))) + 7 * (0 + (i : Int))) % md⟩ hpr' hp ay nG
   refine ⟨kp.trans q1, q2, _, _, _, _, _, q3, q4, by rw [List.length_append, lrs]; rfl, fun r m => ?_, rfl, rfl, rfl⟩
   rcases List.mem_append.mp m with m | m
   ·exact hin r m
   ·rw [List.mem_singleton.mp m]; exact ⟨List.mem_map_of_mem my, mc1⟩
  ·rintro σ' G ⟨kp, nG, ys, rs, tot, x8, x9, hpr', ay, lrs, hin, rfl⟩
   have gD := kp _ _ (s2 _ _ g1) (by simpa using npr)
   obtain ⟨y, my, ey⟩ := pick (c / 13)
   have ly := ay.len
   walk_at "rd"
   refine ⟨.inl ⟨_, SqL.of hpr'⟩, _, .inl (SqL.of gD), by omega, _, _, .inl (SqL.of gD), ey, by walk_at "om", fun p hp => ⟨pr, ys, _, rfl, rfl, (aj (au hpr' hp)).trans hpr', by omega, ?_⟩⟩
   obtain ⟨q1, q2, q3, q4⟩ := yc ⟨y.pa, c1, 0 - tot⟩ hpr' hp ay nG
   refine k pr _ _ _ pr0 q3 q4 (by rw [List.length_append, List.length_singleton]; omega) (fun r m => ?_) (fun p o e => (kp.trans q1) _ _ (s12 _ _ e) fun m => by rw [List.mem_singleton.mp m, pr0] at e; cases e) q2
   rcases List.mem_append.mp m with m | m
   ·exact hin r m
   ·rw [List.mem_singleton.mp m]; exact ⟨List.mem_map_of_mem my, mc1⟩
end
open PySem L2 K19 K22
section
variable {P : Program} {w : World} {K : PySem.W.Frag} {mg : Str -> Option Value} {base : Heap} {a : Adr}
open K3
def sp_nZ : Sp := sp1 fun x H Q _ => NoT H /\ asK H x fun _ => Q (.bl (amg x 0 4799)) H
theorem nP (T : Txt K mg a) : bd P w K mg base (XE P w) 3 a.kF a.nI ["thing"] sp_nZ := by
 refine T.fN.okG vW (fun vs H Q E h => sp1.len h) (fun cdv A outer s H vs Q E hr h => ?_)
 obtain ⟨x0, rfl, h⟩ := sp1.inv h
 try dsimp only [sp_nZ, sp1] at h
 obtain ⟨hN, h1⟩ := h
 have G_is_among := nL (P := P) (w := w) (base := base) T
 have b_is_among := n9 T.fV
 refine ⟨hN, _, (ai (aL (al G_is_among (hr.mono (by decide)) rfl T.qC T.fV.kp b_is_among .nil aD (FA.pa (aa (fv 0) (aa af (aa af ae))))))), ?_⟩
 walk_at "rd"
 exact ⟨hN, h1⟩
structure SlAt (C : Addr) (H : Hp) (p b : Addr) (bs : List V) : Prop where
 ob : ∃ dx, H p = some (.ins C dx [("told_seals", .ref b)])
 ls : H b = some (.lst bs)
theorem lks (x : V) : List.lookup (Str.ofString "told_seals") [(Str.ofString "told_seals", x)] = some x := kA
def sp_sM (C : Addr) : Sp := sp1 fun x H Q _ => NoT H /\ asR x fun p => ∃ dx, H p = some (.ins C dx []) /\ ∀ b H', H b = none -> SlAt C H' p b [] -> Keep [p] H H' -> NoT H' -> Q .non H'
theorem lK (T : Txt K mg a) : bd P w K mg base (XE P w) 1 a.de a.gv ["self"] (sp_sM a.cf) := by
 refine T.gZ.okX lU (fun vs H Q E h => sp1.len h) (fun cdv A outer s H vs Q E hr h => ?_)
 obtain ⟨x0, rfl, h⟩ := sp1.inv h
 try dsimp only [sp_sM, sp1] at h
 obtain ⟨hN, h1⟩ := h
 obtain ⟨p, rfl, dx, hp, k⟩ := asR.inv h1
 refine ⟨_, (ai (eS K (fv 0) (cj (FA.pa ae)))), ?_⟩
 walk_at "rd"
 refine ⟨Nat.zero_le _, fun b hb => ?_⟩
 have np : p ≠ b := au hp hb
 refine ⟨_, _, _, (aj np).trans hp, T.dm, T.dM, by show 0 < 1000; decide, ?_⟩
 refine k b _ hb ⟨⟨dx, ?_⟩, ?_⟩ ((Keep.refl.new hb).put (List.mem_singleton.2 rfl)) (az (az hN rfl) rfl)
 ·rw [ag]; simp [eh]
 ·rw [aj (Ne.symm np), ag]
def sp_vf (C : Addr) : Sp := sp2 fun x v H Q _ => NoT H /\ asR x fun p => ∃ b bs, SlAt C H p b bs /\ bs.length <= 100 /\ ∀ H', SlAt C H' p b (bs ++ [v]) -> Keep [b] H H' -> NoT H' -> Q .non H'
theorem lO (T : Txt K mg a) : bd P w K mg base (XE P w) 1 a.jg a.lI ["self", "told"] (sp_vf a.cf) := by
 refine T.jf.okX sO (fun vs H Q E h => sp2.len h) (fun cdv A outer s H vs Q E hr h => ?_)
 obtain ⟨x0, x1, rfl, h⟩ := sp2.inv h
 try dsimp only [sp_vf, sp2] at h
 obtain ⟨hN, h1⟩ := h
 obtain ⟨p, rfl, b, bs, J, l1, k⟩ := asR.inv h1
 obtain ⟨dx, hp⟩ := J.ob
 have nb : p ≠ b := eD hp J.ls (by intro z; cases z)
 refine ⟨_, (ai (cg (e6 K PySem.F.plainAttrs_list PySem.F.slot_list_append PySem.F.type_list_append d5 (bz K (fv 0)) (FA.pa (aa (fv 1) ae))))), ?_⟩
 walk_at "rd"
 refine ⟨_, _, _, _, hp, T.dm, T.dM, lks _, .inl ⟨rfl, bs, SqL.of J.ls⟩, b, bs, _, rfl, rfl, J.ls, by rw [sizeLine_eq]; omega, ?_⟩
 exact k _ ⟨⟨dx, (aj nb).trans hp⟩, ag⟩ (Keep.refl.put (.head _)) (az hN rfl)
def sp_pD (C : Addr) : Sp := sp1 fun x H Q _ => NoT H /\ asR x fun p => ∃ b bs, SlAt C H p b bs /\ ∀ q, H q = none -> Q (.ref q) (upd H q (.lst bs))
theorem gm (T : Txt K mg a) : bd P w K mg base (XE P w) 1 a.gO a.jj ["self"] (sp_pD a.cf) := by
 refine T.eT.okG qH (fun vs H Q E h => sp1.len h) (fun cdv A outer s H vs Q E hr h => ?_)
 obtain ⟨x0, rfl, h⟩ := sp1.inv h
 try dsimp only [sp_pD, sp1] at h
 obtain ⟨hN, h1⟩ := h
 obtain ⟨p, rfl, b, bs, J, k⟩ := asR.inv h1
 obtain ⟨dx, hp⟩ := J.ob
 refine ⟨hN, _, (ai (aL (fI (yU K) rfl T.AK xG (FA.pa (aa (bz K (fv 0)) ae))))), ?_⟩
 walk_at "rd"
 exact ⟨_, _, _, _, hp, T.dm, T.dM, lks _, bs, .inl (SqL.of J.ls), fun l hl => ⟨_, Gc.one (aq _ hl) hl ag rfl, k l hl⟩⟩
end
open PySem L2 K19 K22
section
variable {P : Program} {w : World} {K : PySem.W.Frag} {mg : Str -> Option Value} {base : Heap} {a : Adr}
open K3
def SeAt (H : Hp) (t : Addr) (m n : Int) (rs : List Row) : Prop := ∃ tr ws, H t = some (.tup [.int m, .int n, .ref tr]) /\ H tr = some (.tup ws) /\ A2 (RwAt H) ws rs
theorem SeAt.same {H H' : Hp} {t : Addr} {m n : Int} {rs : List Row} (h : SeAt H t m n rs) (s : Same H H') : SeAt H' t m n rs := by
 obtain ⟨tr, ws, e1, e2, e3⟩ := h
 exact ⟨tr, ws, s _ _ e1, s _ _ e2, dY s e3⟩
def mny (t : Int) (bs : List Bk) : Int := ((bs.filter fun b => decide (b.d <= t)).length : Nat)
def sp_xY (J bm : Addr) : Sp := sp3 fun _ y z H Q E => NoT H /\ asR y fun j => asK H z fun _ => if amg z 0 4799 = true then asI z fun m => ∃ b u vs bs, JAt J H j b u vs /\ A2 (BkAt H) vs bs /\ bs.length <= 20 /\ (∀ b ∈ bs, b.rs.length <= 40) /\ (dk (rsd (FD (m + 1) - 1) bs)).length < 64 /\
 ∀ out t H', out.Perm ((dk (rsd (FD (m + 1) - 1) bs)).map (·.1)) -> rm out -> H t = none -> SeAt H' t m (mny (FD (m + 1) - 1) bs) (res (rsd (FD (m + 1) - 1) bs) out) -> Same H H' -> NoT H' -> Q (.ref t) H' else E (.ref bm) none H
theorem oN (T : Txt K mg a) : bd P w K mg base (XE P w) 4 a.wE a.xR ["chart", "journal", "month"] (sp_xY a.aR a.b8) := by
 refine T.iF.okX ye (fun vs H Q E h => sp3.len h) (fun cdv A outer s H vs Q E hr h => ?_)
 obtain ⟨x0, x1, x2, rfl, h⟩ := sp3.inv h
 try dsimp only [sp_xY, sp3] at h
 have ND := ye.nd
 obtain ⟨hN, h1⟩ := h
 obtain ⟨j, rfl, h2⟩ := asR.inv h1
 obtain ⟨tt, ht, hb, k⟩ := asK.inv h2
 have sz := szl
 have G_balances := uR (P := P) (w := w) (base := base) T
 have b_balances := vi T.kj
 have G_bookings_up_to := gp (P := P) (w := w) (base := base) T
 have b_bookings_up_to := gu T.cq
 have G_last_day := uL (P := P) (w := w) (base := base) T
 have b_last_day := vy T.lq
 have G_is_month := nP (P := P) (w := w) (base := base) T
 have b_is_month := nV T.fN
 refine ⟨_, (ah (bF (dI (cT (al G_is_month (hr.mono (by decide)) rfl T.px T.fN.kp b_is_month .nil aD (FA.pa (aa (fv 2) ae))))) (ai (bO T.wW PySem.F.excBase_ValueError rfl rfl T.qE cz (FA.pa (aa (aK [116, 104, 105, 115, 32, 105, 115, 32, 110, 111, 32, 109, 111, 110, 116, 104]) ae)))) aS)
  (ah (aH (i := 3) ND rfl (Or.inl rfl) (al G_last_day (hr.mono (by decide)) rfl T.xy T.lq.kp b_last_day .nil aD (FA.pa (aa (fv 2) ae))))
  (ai (aL (aZ (FA.pa (aa (fv 2) (aa (aJ (cF K) rfl T.fJ dR (FA.pa (aa (al G_bookings_up_to (hr.mono (by decide)) rfl T.ib T.cq.kp b_bookings_up_to .nil aD (FA.pa (aa (fv 1) (aa (fv 3) ae)))) ae))) (aa (fI (ph K) rfl T.mD jq (FA.pa (aa (al G_balances (hr.mono (by decide)) rfl T.xx T.kj.kp b_balances .nil aD (FA.pa (aa (fv 0) (aa (fv 1) (aa (fv 3) ae))))) ae))) ae))))))))), ?_⟩
 walk_at "rd"
 refine ⟨hN, asK.of ht ?_⟩
 cases e : amg x2 0 4799 with
 | false =>
  rw [e] at k
  exact itp rfl ⟨by walk_at "om", k⟩
 | true =>
  rw [e, if_pos rfl] at k
  obtain ⟨m, rfl, b, u, vs, bs, JJ, hv, len, ok, l64, k⟩ := asI.inv k
  refine itn (by decide) ?_
  walk_at "rd"
  refine ⟨hN, hN, b, u, vs, bs, JJ, hv, len, fun r ws H1 hr hr1 aw s1 N1 => ⟨ws, .inl (SqL.of hr1), N1, b, u, vs, bs, JJ.keep (S := []) (Keep.same s1) List.not_mem_nil List.not_mem_nil List.not_mem_nil, mi s1 hv, len, ok, l64, ?_⟩⟩
  intro out r2 ws2 H2 po oo hr2 hr3 a2 s2 N2
  walk_at "rd"
  refine ⟨ws2, .inl ⟨SqL.of hr3, fun t ht => ⟨by walk_at "om", fun p hp => ?_⟩⟩⟩
  have s3 := aq (HO.tup ws2) ht
  have s4 := s3.trans (aq (HO.tup [V.int m, V.int (ws.length : Nat), V.ref t]) hp)
  have em : ((ws.length : Nat) : Int) = mny (FD (m + 1) - 1) bs := by rw [aw.len]; rfl
  refine k out p _ po oo ((s1.trans (s2.trans s3)).free hp) ⟨t, ws2, by rw [ag, em], (aq _ hp) _ _ ag, dY s4 a2⟩ ((s1.trans s2).trans s4) (az (az N2 rfl) rfl)
end
open PySem L2 K19 K22
section
variable {P : Program} {w : World} {K : PySem.W.Frag} {mg : Str -> Option Value} {base : Heap} {a : Adr}
open K3
theorem CF (l m : List Nat) : ((⟨⟨l⟩⟩ : Str) == ⟨⟨m⟩⟩) = (l == m) := by
 rw [Bool.eq_iff_iff, beq_iff_eq, beq_iff_eq]
 exact ⟨fun h => by injection h with h; injection h, fun h => by rw [h]⟩
theorem ug {H : Hp} {n : Nat} {i j : Int} : EqH K H n (.int i) (.int j) (i == j) := EqH.flat (x := .int i) (y := .int j) rfl rfl
theorem xM {H : Hp} {n : Nat} {l m : List Nat} : EqH K H n (L2.T l) (L2.T m) (l == m) := by
 have := EqH.flat (K := K) (H := H) (n := n) (x := L2.T l) (y := L2.T m) rfl rfl
 rwa [show eqV (L2.T l) (L2.T m) = (l == m) by unfold eqV; exact CF l m] at this
def rwB (r r' : Row) : Bool := r.pa == r'.pa && (r.cu == r'.cu && r.am == r'.am)
theorem wj (r : Row) : rwB r r = true := by unfold rwB; rw [beq_self_eq_true, beq_self_eq_true, beq_self_eq_true]; rfl
def zd (xs ys : List Row) : Bool := (List.range (min xs.length ys.length)).all (fun j => (xs[j]?).any fun x => (ys[j]?).any fun y => rwB x y) && xs.length == ys.length
theorem r9 (xs : List Row) : zd xs xs = true := by
 unfold zd
 rw [beq_self_eq_true, Bool.and_true, List.all_eq_true]
 intro j m
 have hj : j < xs.length := by rw [Nat.min_self] at m; exact List.mem_range.mp m
 rw [List.getElem?_eq_getElem hj]
 exact wj _
theorem yh {H : Hp} {v : V} {r r' : Row} (h : RwAt H v r) (h' : RwAt H v r') : r = r' := by
 obtain ⟨q, rfl, e⟩ := h
 obtain ⟨q', e', e2⟩ := h'
 cases e'
 rw [e] at e2
 cases r; cases r'
 simp at e2
 simp [e2]
theorem Ak {H : Hp} {xs : List V} {rs rs' : List Row} (h : A2 (RwAt H) xs rs) : A2 (RwAt H) xs rs' -> rs = rs' := by
 induction h generalizing rs' with
 | nil => intro h'; cases h'; rfl
 | cons e _ ih => intro h'; cases h' with | cons e' t => rw [yh e e', ih t]
theorem ED {H : Hp} {n : Nat} {v v' : V} {r r' : Row} (h : RwAt H v r) (h' : RwAt H v' r') : EqH K H (n + 1) v v' (rwB r r') := by
 obtain ⟨q, rfl, e1⟩ := id h
 obtain ⟨q', rfl, e2⟩ := id h'
 by_cases hq : q = q'
 ·subst hq; rw [yh h h', wj]; exact .same
 ·have := EqH.tup (K := K) (H := H) (n := n) (e := fun j => [r.pa == r'.pa, r.cu == r'.cu, r.am == r'.am].getD j false) hq (SqT.of e1) (SqT.of e2) fun j x y gx gy => by
   match j, gx with
   | 0, gx => cases gx; cases gy; exact xM
   | 1, gx => cases gx; cases gy; exact xM
   | 2, gx => cases gx; cases gy; exact ug
   | j + 3, gx => simp at gx
  have e : ((r.pa == r'.pa && (r.cu == r'.cu && (r.am == r'.am && true))) && true) = rwB r r' := by rw [Bool.and_true, Bool.and_true]; rfl
  exact e ▸ this
theorem Cl {H : Hp} {n : Nat} {p q : Addr} {xs ys : List V} {rs rs' : List Row} (hp : H p = some (.tup xs)) (hq : H q = some (.tup ys)) (h : A2 (RwAt H) xs rs) (h' : A2 (RwAt H) ys rs') : EqH K H (n + 2) (.ref p) (.ref q) (zd rs rs') := by
 by_cases e : p = q
 ·subst e
  rw [hp] at hq; cases hq
  rw [Ak h h', r9]; exact .same
 ·have := EqH.tup (K := K) (H := H) (n := n + 1) (e := fun j => (rs[j]?).any fun x => (rs'[j]?).any fun y => rwB x y) e (SqT.of hp) (SqT.of hq) fun j x y gx gy => by
   obtain ⟨r, g1, r1⟩ := h.at_ gx
   obtain ⟨r', g2, r2⟩ := h'.at_ gy
   rw [g1, g2]
   exact ED r1 r2
  rw [h.len, h'.len] at this
  exact this
def seB (m n : Int) (rs : List Row) (m' n' : Int) (rs' : List Row) : Bool := m == m' && (n == n' && zd rs rs')
theorem mK (m n : Int) (rs : List Row) : seB m n rs m n rs = true := by unfold seB; rw [r9, beq_self_eq_true, beq_self_eq_true]; rfl
theorem yS {H : Hp} {p q : Addr} {m n m' n' : Int} {rs rs' : List Row} (h : SeAt H p m n rs) (h' : SeAt H q m' n' rs') : EqR K H p q (seB m n rs m' n' rs') := by
 obtain ⟨tr, ws, e1, e2, e3⟩ := h
 obtain ⟨tr', ws', g1, g2, g3⟩ := h'
 have := EqR.tup (K := K) (e := fun j => [m == m', n == n', zd rs rs'].getD j false) (SqT.of e1) (SqT.of g1) fun j x y gx gy => by
  match j, gx with
  | 0, gx => cases gx; cases gy; exact ug
  | 1, gx => cases gx; cases gy; exact ug
  | 2, gx => cases gx; cases gy; exact Cl e2 g2 e3 g3
  | j + 3, gx => simp at gx
 have e : ((m == m' && (n == n' && (zd rs rs' && true))) && true) = seB m n rs m' n' rs' := by rw [Bool.and_true, Bool.and_true]; rfl
 exact e ▸ this
structure JB (J : Addr) (H : Hp) (j b u : Addr) (vs : List V) (bs : List Bk) : Prop where
 jo : JAt J H j b u vs
 bk : A2 (BkAt H) vs bs
 l1 : bs.length <= 20
 l2 : ∀ b ∈ bs, b.rs.length <= 40
 l3 : ∀ t, (dk (rsd t bs)).length < 64
def sp_vz (J : Addr) : Sp := sp3 fun _ y z H Q _ => NoT H /\ asR y fun j => asR z fun t => ∃ m n rs b u vs bs, SeAt H t m n rs /\ (0 <= m /\ m <= 4799) /\ JB J H j b u vs bs /\
 ∀ out, out.Perm ((dk (rsd (FD (m + 1) - 1) bs)).map (·.1)) -> rm out -> Q (.bl (seB m (mny (FD (m + 1) - 1) bs) (res (rsd (FD (m + 1) - 1) bs) out) m n rs)) H
theorem ww (T : Txt K mg a) : bd P w K mg base (XE P w) 5 a.uv a.wn ["chart", "journal", "told"] (sp_vz a.aR) := by
 refine T.ik.okG zV (fun vs H Q E h => sp3.len h) (fun cdv A outer s H vs Q E hr h => ?_)
 obtain ⟨x0, x1, x2, rfl, h⟩ := sp3.inv h
 try dsimp only [sp_vz, sp3] at h
 have HU := aM hr
 obtain ⟨hN, h1⟩ := h
 obtain ⟨j, rfl, h2⟩ := asR.inv h1
 obtain ⟨t, rfl, m, n, rs, b, u, vs, bs, S, m0, JJ, k⟩ := asR.inv h2
 have sz := szl
 have G_is_month := nP (P := P) (w := w) (base := base) T
 have b_is_month := nV T.fN
 have G_seal := oN (P := P) (w := w) (base := base) T
 have b_seal := oO T.iF
 refine ⟨hN, _, (ai (aL (cV (al G_is_month (hr.mono (by decide)) rfl T.px T.fN.kp b_is_month .nil aD (FA.pa (aa (aQ (aA K) (fv 2) af (fun _ _ => rfl)) ae))) (df (d8 (eA K HU) (al G_seal (hr.mono (by decide)) rfl T.sY T.iF.kp b_seal .nil aD (FA.pa (aa (fv 0) (aa (fv 1) (aa (aQ (aA K) (fv 2) af (fun _ _ => rfl)) ae))))) (fv 2) (aY _)))))), ?_⟩
 walk_at "rd"
 obtain ⟨tr, ws, e1, e2, e3⟩ := id S
 have em : amg (.int m) 0 4799 = true := by unfold amg; simp [m0.1, m0.2]
 refine ⟨_, _, .inr (SqT.of e1), aB (j := 0) rfl, hN, asK.of (t := "int") rfl ?_⟩
 refine itp em ⟨_, _, .inr (SqT.of e1), aB (j := 0) rfl, hN, asK.of (t := "int") rfl (itp em ⟨b, u, vs, bs, JJ.jo, JJ.bk, JJ.l1, JJ.l2, JJ.l3 _, fun out q H1 po oo hq hS sm nT => ?_⟩)⟩
 exact ⟨_, yS hS (S.same sm), H, Gc.none sm, k out po oo⟩
def sp_BQ : Sp := sp2 fun x y H Q _ => NoT H /\ asR x fun p => asI y fun m => ∃ vs bs, H p = some (.lst vs) /\ A2 (BkAt H) vs bs /\ bs.length <= 20 /\ (∀ b ∈ bs, b.rs.length <= 40) /\ (dk (rsd (FD (m + 1) - 1) bs)).length < 64 /\
 ∀ out t H', out.Perm ((dk (rsd (FD (m + 1) - 1) bs)).map (·.1)) -> rm out -> H t = none -> SeAt H' t m (mny (FD (m + 1) - 1) bs) (res (rsd (FD (m + 1) - 1) bs) out) -> Same H H' -> NoT H' -> Q (.ref t) H'
theorem iZ (T : Txt K mg a) : bd P w K mg base (XE P w) 5 a.km a.nQ ["_law_bookings", "_law_month_here"] sp_BQ := by
 refine T.dL.okX nO (fun vs H Q E h => sp2.len h) (fun cdv A outer s H vs Q E hr h => ?_)
 obtain ⟨x0, x1, rfl, h⟩ := sp2.inv h
 try dsimp only [sp_BQ, sp2] at h
 have ND := nO.nd
 obtain ⟨hN, h1⟩ := h
 obtain ⟨p, rfl, h2⟩ := asR.inv h1
 obtain ⟨m, rfl, vs, bs, hp, hv, len, ok, l64, k⟩ := asI.inv h2
 have sz := szl
 have G__law_balances := mS (P := P) (w := w) (base := base) T
 have b__law_balances := nc T.e7
 have G__law_month_ends := dD (P := P) (w := w) (base := base) T
 have b__law_month_ends := dC T.bt
 refine ⟨_, (ah (aH (i := 2) ND rfl (Or.inr rfl) (aQ (aA K) (al G__law_month_ends (hr.mono (by decide)) rfl T.d7 T.bt.kp b__law_month_ends .nil aD (FA.pa (aa (fv 1) ae))) af (fun _ _ => rfl)))
  (ah (aH (i := 3) ND rfl (Or.inl rfl) (aJ (cF K) rfl T.fJ dR (FA.pa (aa (c6 rfl (cl := _) (x := "_law_booking") (xs := ["_law_booking"]) (fr := ["_law_day_here"]) (ks := [2]) (by exact ⟨rfl, by decide +kernel, rfl, by decide +kernel, rfl, dw rfl, rfl, a7 rfl, a7 (k := fun y => List.lookup y _) rfl, dA rfl⟩) rfl (dl K (fv 0)) (fun _ _ _ _ _ => (aO (i := 0) (ig (l := ["_law_booking", "_law_day_here"]) (by decide)) rfl (Or.inl rfl))) (fun _ _ _ _ _ => (lW (bo fQ (aQ (aA K) (fv 0) af (fun _ _ => rfl)) (fv 1) (aY _)))) (fun _ _ _ _ _ => (fv 0))) ae))))
  (ai (aL (aZ (FA.pa (aa (fv 1) (aa (fv 3) (aa (fI (ph K) rfl T.mD jq (FA.pa (aa (al G__law_balances (hr.mono (by decide)) rfl T.oE T.e7.kp b__law_balances .nil aD (FA.pa (aa (fv 0) (aa (fv 2) ae)))) ae))) ae))))))))), ?_⟩
 walk_at "rd"
 have lv := hv.len
 refine ⟨hN, fun q H1 s1 N1 hq => ⟨_, _, .inr (SqT.of hq), aB (j := 1) rfl, ?_⟩⟩
 refine v0 ?_
 walk_at "rd"
 refine ⟨⟨_, SqL.of (s1 _ _ hp)⟩, ceA (S := fun _ _ (_ : Bk) => True) (fun _ _ _ _ _ _ => trivial) p vs bs (BkAt H1) (fun b => decide (b.d <= FD (m + 1) - 1)) id (s1 _ _ hp) N1 (mi s1 hv) (by omega) (fun v z mz hz F zs M1 M0 sF nF hzs n1 n0 => ?_) fun D ws G hD sG nG gD aG => ?_⟩
 ·obtain ⟨q, t, us, nt, rfl, b1, _⟩ := hz
  obtain ⟨z1, rfl⟩ := ex1 hzs
  walk_at "rd"
  refine ⟨⟨[_], rfl, rfl⟩, _, _, .inr (SqT.of (sF _ _ b1)), aB (j := 1) rfl, ?_⟩
  walk_at "rd"
  by_cases h : z.d <= FD (m + 1) - 1
  ·exact itp h (n1 (decide_eq_true h) _ _ (fun _ _ e => e) nF trivial)
  ·exact itn h (n0 (decide_eq_false h) _ (fun _ _ e => e) nF)
 ·walk_at "rd"
  have sH := s1.trans sG
  have em : ((ws.length : Nat) : Int) = mny (FD (m + 1) - 1) bs := by rw [aG.len, List.length_map]; rfl
  refine ⟨_, .inl (SqL.of gD), nG, vs, bs, sH _ _ hp, mi sH hv, len, ok, l64, fun out r ws2 H2 po oo hr hr2 a2 s2 N2 => ?_⟩
  walk_at "rd"
  refine ⟨ws2, .inl ⟨SqL.of hr2, fun t ht => ⟨by walk_at "om", fun p1 hp1 => ?_⟩⟩⟩
  have s3 := aq (HO.tup ws2) ht
  have s4 := s3.trans (aq (HO.tup [V.int m, V.int (ws.length : Nat), V.ref t]) hp1)
  exact k out p1 _ po oo ((sH.trans (s2.trans s3)).free hp1) ⟨t, ws2, by rw [ag, em], (aq _ hp1) _ _ ag, dY s4 a2⟩ ((sH.trans s2).trans s4) (az (az N2 rfl) rfl)
theorem Fo {x0 x1 x2 x3 x4 x5 : V} {H : Hp} {Q : VK} {i : Int} (h0 : 0 <= i) (h1 : i < 6) (q : ∀ x ∈ [x0, x1, x2, x3, x4, x5], Q x H) (n : ∀ x ∈ [x0, x1, x2, x3, x4, x5], ∀ p, x ≠ .ref p) : jD [x0, x1, x2, x3, x4, x5] H H Q (.int i) := by
 obtain ⟨j, rfl⟩ := Int.eq_ofNat_of_zero_le h0
 have hj : j < [x0, x1, x2, x3, x4, x5].length := by show j < 6; omega
 have m := List.getElem_mem hj
 have e : atI [x0, x1, x2, x3, x4, x5] (j : Int) = some [x0, x1, x2, x3, x4, x5][j] := aB (List.getElem?_eq_getElem hj)
 generalize [x0, x1, x2, x3, x4, x5][j] = v at m e
 simp only [jD, e]
 have hq := q v m
 cases v with
 | ref p => exact absurd rfl (n _ m p)
 | _ => exact hq
def sp_pT (J : Addr) : Sp := sp3 fun _ y z H Q _ => NoT H /\ asR y fun _ => asI z fun _ => Q (.bl true) H
theorem oy (T : Txt K mg a) : bd P w K mg base (XE P w) 5 a.gl a.iM ["_law_chart_here", "_law_journal", "_law_cell"] (sp_pT a.aR) := by
 refine T.gb.okG iI (fun vs H Q E h => sp3.len h) (fun cdv A outer s H vs Q E hr h => ?_)
 obtain ⟨x0, x1, x2, rfl, h⟩ := sp3.inv h
 try dsimp only [sp_pT, sp3] at h
 have ND := iI.nd
 obtain ⟨hN, h1⟩ := h
 obtain ⟨j, rfl, h2⟩ := asR.inv h1
 obtain ⟨c, rfl, k⟩ := asI.inv h2
 have sz := szl
 have G_seal := oN (P := P) (w := w) (base := base) T
 have b_seal := oO T.iF
 refine ⟨hN, _, (ah (aH (i := 3) ND rfl (Or.inl rfl) (fS (FA.pa (aa (BV xf af) (aa af (aa jt (aa eZ (aa (aK [55]) (aa (ak aI af (ak aV (ak a9 (fv 2) af) (ak Bv af af))) ae))))))) (ak aV (fv 2) af) (fun _ _ => rfl)))
  (ah (E7 (i := 4) ND rfl rfl rfl T.uG rfl rfl rfl (fun pn Ee Ex PX => (ai (cg (al G_seal (hr.mono (by decide)) rfl T.sY T.iF.kp b_seal .nil PX (FA.pa (aa (fv 0) (aa (fv 1) (aa (fv 3) ae)))))))) (fun e => (ai (aL (cV (aJ (cN K) rfl T.a8 aW (FA.pa (aa (fv 4) (aa (oJ (v := .ref a.b8) rfl T.qE rfl) ae)))) (cV (aJ (cN K) rfl T.a8 aW (FA.pa (aa (fv 4) (aa (dt (v := .ty "ValueError") rfl T.uh q_ rfl) ae)))) (df (xz (aJ (cN K) rfl T.a8 aW (FA.pa (aa (fv 4) (aa (oJ (v := .ref a.m7) rfl T.zz rfl) ae))))))))))))
  (ai (aL jt)))), ?_⟩
 walk_at "rd"
 have l0 := Int.emod_nonneg (c / 6) (show (10 : Int) ^ Int.toNat 12 ≠ 0 by decide)
 generalize c / 6 % 10 ^ Int.toNat 12 = r at l0 ⊢
 refine ⟨hN, by decide, by decide, by walk_at "om", fun p hp => Fo (by omega) (by omega) (fun x hx => ⟨hN, ?_⟩) (fun x hx p => ?_)⟩
 ·have q : ∃ t, er H x = some t /\ amg x 0 4799 = false := by
   simp only [List.mem_cons, List.not_mem_nil, or_false] at hx
   rcases hx with rfl | rfl | rfl | rfl | rfl | rfl
   ·exact ⟨"int", rfl, rfl⟩
   ·exact ⟨"int", rfl, rfl⟩
   ·exact ⟨"bool", rfl, rfl⟩
   ·exact ⟨"NoneType", rfl, rfl⟩
   ·exact ⟨"str", rfl, rfl⟩
   ·exact ⟨"int", rfl, by unfold amg; simp; omega⟩
  obtain ⟨tt, hk, ha⟩ := q
  refine asK.of hk (itn (by rw [ha]; decide) ⟨_, rfl, T.iX, fun e he => ⟨_, _, ag, T.k_, T.jV, itp rfl ?_⟩⟩)
  simp only [A4]
  exact ⟨e, _, _, rfl, ag, T.k_, T.iY, itp rfl ⟨_, _, ag, T.k_, T.kJ, H, Gc.none (aq _ he), k⟩⟩
 ·simp only [List.mem_cons, List.not_mem_nil, or_false] at hx
  rcases hx with rfl | rfl | rfl | rfl | rfl | rfl <;> (intro z; cases z)
end
open PySem L2 K19 K22
section
variable {P : Program} {w : World} {K : PySem.W.Frag} {mg : Str -> Option Value} {base : Heap} {a : Adr}
open K3
def Rws (H : Hp) (xs : List V) : Prop := ∀ v ∈ xs, ∃ r, RwAt H v r
theorem Rws.of {H : Hp} {xs : List V} {rs : List Row} (h : A2 (RwAt H) xs rs) : Rws H xs := fun v m => by
 obtain ⟨j, hj, e⟩ := List.mem_iff_getElem.mp m
 obtain ⟨r, _, g⟩ := h.at_ (List.getElem?_eq_getElem hj)
 exact ⟨r, e ▸ g⟩
theorem Rws.tell {H : Hp} : ∀ {xs : List V}, Rws H xs -> ∃ rs, A2 (RwAt H) xs rs
 | [], _ => ⟨[], .nil⟩
 | x :: r, h => by
  obtain ⟨e, he⟩ := h x (.head _)
  obtain ⟨es, hs⟩ := Rws.tell (xs := r) fun v m => h v (.tail _ m)
  exact ⟨e :: es, .cons he hs⟩
theorem Rws.same {H H' : Hp} {xs : List V} (h : Rws H xs) (s : Same H H') : Rws H' xs := fun v m => by
 obtain ⟨r, q, e, g⟩ := h v m
 exact ⟨r, q, e, s _ _ g⟩
theorem Rws.cut {H : Hp} {xs : List V} (h : Rws H xs) (lo hi : Option Int) : Rws H (jX xs lo hi) := fun v m => h v (List.mem_of_mem_drop (List.mem_of_mem_take m))
theorem Rws.cat {H : Hp} {xs ys : List V} (h : Rws H xs) (h' : Rws H ys) : Rws H (xs ++ ys) := fun v m => (List.mem_append.mp m).elim (h v) (h' v)
theorem Rws.se {H : Hp} {t tr : Addr} {m n : Int} {xs : List V} (h : Rws H xs) (e : H t = some (.tup [.int m, .int n, .ref tr])) (g : H tr = some (.tup xs)) : ∃ rs, SeAt H t m n rs := by
 obtain ⟨rs, q⟩ := h.tell
 exact ⟨rs, tr, xs, e, g, q⟩
theorem l_ {xs : List V} {i : Int} (h0 : -(xs.length : Int) <= i) (h1 : i < xs.length) : ∃ v ∈ xs, atI xs i = some v := by
 unfold atI ixN
 by_cases h : 0 <= i
 ·have hj : i.toNat < xs.length := by omega
  rw [if_pos h, if_pos h1]
  exact ⟨_, List.getElem_mem hj, List.getElem?_eq_getElem hj⟩
 ·have hj : (i + xs.length).toNat < xs.length := by omega
  rw [if_neg h, if_pos h0]
  exact ⟨_, List.getElem_mem hj, List.getElem?_eq_getElem hj⟩
abbrev sgS (t : Addr) (c m n : Int) (tr : Addr) (mo : Int) (at_ : Option V) (x7 x8 x9 x10 x11 x12 : Option V) : St := [some (.ref t), some (.int c), some (.int m), some (.int n), some (.ref tr), some (.int mo), at_, x7, x8, x9, x10, x11, x12]
structure SpA (G : Hp) (tr : Addr) (ws : List V) (i : Int) (po : Addr) (os : List V) : Prop where
 nT : NoT G
 tr_ : G tr = some (.tup ws)
 rw_ : Rws G ws
 len : ws.length <= 100
 i0 : 0 <= i
 i1 : i < ws.length
 po_ : G po = some (.lst os)
 os_ : Rws G os
 l4 : os.length = 4
theorem xa {tx : TE} {r i : Nat} {σ : St} {H : Hp} {Q : VK} {tr : Addr} {n : Int} {ws : List V} (hr : σ[r]? = some (some (.ref tr))) (hi : σ[i]? = some (some (.int n))) (hN : NoT H) (htr : H tr = some (.tup ws)) (hw : Rws H ws) (lw : ws.length <= 300)
 (hx : ∀ H' (R : VK), Same H H' -> NoT H' -> (∀ v H'', Same H' H'' -> NoT H'' -> (∃ r, RwAt H'' v r) -> R v H'') -> tx σ H' R)
 (k : ∀ p zs H', Same H H' -> NoT H' -> H' p = some (.tup zs) -> Rws H' zs -> 0 < zs.length -> zs.length <= 2 * ws.length + 1 -> Q (.ref p) H') :
 tOp rH (tOp rH (tSl A0 (o6 r) oI (vD (o6 i))) (A_ (nC tx vt))) (tSl A0 (o6 r) (vD (tOp Dc (o6 i) (tC (V.int 1)))) oI) σ H Q := by
 have sz := szl
 have l1 := cQ ws none (some n)
 have l2 := cQ ws (some (n + 1)) none
 simp only [tOp, tSl, vD, o6, hr, hi]
 walk_at "rd"
 refine ⟨ws, htr, fun p1 H1 h1 s1 n1 => hx H1 _ s1 (n1 hN) fun v H2 s2 N2 hv => ⟨by walk_at "om", fun p2 hp2 => ?_⟩⟩
 have s3 := aq (HO.tup [v]) hp2
 have N3 : NoT (upd H2 p2 (HO.tup [v])) := az N2 rfl
 have g3 : upd H2 p2 (HO.tup [v]) p2 = some (.tup [v]) := ag
 generalize upd H2 p2 (HO.tup [v]) = H3 at s3 N3 g3 ⊢
 have s13 := s2.trans s3
 have sH := s1.trans s13
 have w1 : Rws H3 [v] := fun x m => by
  obtain ⟨r, q, e, g⟩ := hv
  rw [List.mem_singleton.mp m]; exact ⟨r, q, e, s3 _ _ g⟩
 refine ⟨_, _, s13 _ _ h1, g3, by show _ + 1 <= _; omega, fun p4 H4 h4 s4 n4 => ⟨ws, (sH.trans s4) _ _ htr, fun p5 H5 h5 s5 n5 => ⟨_, _, s5 _ _ h4, h5, ?_, fun p6 H6 h6 s6 n6 => ?_⟩⟩⟩
 ·rw [List.length_append]; show _ + 1 + _ <= _; omega
 ·have s46 := s4.trans (s5.trans s6)
  have s06 := sH.trans s46
  refine k p6 _ H6 s06 (n6 (n5 (n4 N3))) h6 ((((hw.same s06).cut _ _).cat (w1.same s46)).cat ((hw.same s06).cut _ _)) ?_ ?_
  ·rw [List.length_append, List.length_append]; show 0 < _ + 1 + _; omega
  ·rw [List.length_append, List.length_append]; show _ + 1 + _ <= _; omega
theorem Gb {te : TE} {σ : St} {D : cv} {G : Hp} {m n : Int} (h2 : σ[2]? = some (some (.int m))) (h3 : σ[3]? = some (some (.int n))) (h : te σ G fun v H' => [V.int m, V.int n, v].length <= sizeLine /\ ∀ p, H' p = none -> D.rt (.ref p) (upd H' p (.tup [.int m, .int n, v]))) : B1 (A_ (nC (o6 2) (nC (o6 3) (nC te vt)))) D σ G := by
 simp only [B1, A_, nC, vt, o6, h2, h3]
 exact h
theorem asg {te : TE} {i : Nat} {u : TS} {D : cv} {σ : St} {H : Hp} (h : te σ H fun x H1 => u D (σ.set i (some x)) H1) : Aj (za te (iP i)) u D σ H := h
theorem F5 {te : TE} {i : Nat} {u : TS} {D : cv} {σ : St} {H : Hp} (v : V) (h1 : ∀ R : VK, R v H -> te σ H R) (h2 : u D (σ.set i (some v)) H) : Aj (za te (iP i)) u D σ H := h1 _ h2
theorem ifT {tc : TT} {t u : TS} {D : cv} {σ : St} {H : Hp} (b : Bool) (h1 : ∀ R : Bool -> Hp -> Prop, R b H -> tc σ H R) (h2 : b = true -> t { D with nx := u D } σ H) (h3 : b = false -> u D σ H) : Aj (Ej tc t Ar) u D σ H := h1 _ (by
 cases b with
 | true => exact h2 rfl
 | false => exact h3 rfl)
theorem seS {G H1 : Hp} {D : cv} {m n : Int} {p : Addr} {zs : List V} (sz : 1000 <= sizeLine) (k : ∀ t' rs' H', SeAt H' t' m n rs' -> Same G H' -> NoT H' -> D.rt (.ref t') H') (s1 : Same G H1) (N1 : NoT H1) (hp : H1 p = some (.tup zs)) (hz : Rws H1 zs) : [V.int m, V.int n, V.ref p].length <= sizeLine /\ ∀ q, H1 q = none -> D.rt (.ref q) (upd H1 q (.tup [.int m, .int n, V.ref p])) := by
 refine ⟨Nat.le_trans (show 3 <= 1000 by decide) sz, fun q hq => ?_⟩
 have s2 := aq (HO.tup [V.int m, V.int n, V.ref p]) hq
 obtain ⟨rs, hs⟩ := (hz.same s2).se ag (s2 _ _ hp)
 exact k q rs _ hs (s1.trans s2) (az N1 rfl)
theorem s12 (T : Txt K mg a) {cdv : Value} {A : Around} {outer : List Env} {s : Shared} {H : Hp} {E : XK} (hr : Room 0 (A.deeper (PyProof.Rows.envOfC "_law_spoilt" (ad aN) s.heap.objs.size a.bh cdv))) : ∃ tz, PSs (cW (XE P w) P w K mg base ["_law_told", "_law_cell", "_law_month_here", "_law_many", "_law_rows", "_law_more", "_law_at", "_law_path", "_law_currency", "_law_amount", "_law_one", "_law_other", "_law_place"] "_law_spoilt" (ad aN) a.bh cdv A outer s H E) (List.drop 12 (av aN)) tz /\
 ∀ (D : cv) t c m n tr mo i x7 x8 x9 po ws (os : List V) G, SpA G tr ws i po os -> (∀ t' rs' H', SeAt H' t' m n rs' -> Same G H' -> NoT H' -> D.rt (.ref t') H') ->
  tz D (sgS t c m n tr mo (some (.int i)) x7 x8 x9 (some (.ref po)) none none) G := by
 have sz := szl
 have ND := cn.nd
 have HU := aM hr
 refine ⟨_, (ai (aL (aZ (FA.pa (aa (fv 2) (aa (fv 3) (aa (ak fG (ak fG (bv eQ (fv 4) b4 (bG (fv 6))) (aZ (FA.pa (aa (aQ (aA K) (fv 10) (ak aV (ak a9 (fv 5) af) af) (fun _ _ => rfl)) ae)))) (bv eQ (fv 4) (bG (ak aI (fv 6) af)) b4)) ae))))))), fun D t c m n tr mo i x7 x8 x9 po ws os G S k => ?_⟩
 refine Gb rfl rfl (xa (tr := tr) (n := i) rfl rfl S.nT S.tr_ S.rw_ (Nat.le_trans S.len (by decide)) (fun H1 R s1 N1 q => ?_) fun p zs H1 s1 N1 hp hz _ _ => seS sz k s1 N1 hp hz)
 walk_at "rd"
 have b0 := Int.emod_nonneg (mo / 7) (show (4 : Int) ≠ 0 by decide)
 have b1 := Int.emod_lt_of_pos (mo / 7) (show (0 : Int) < 4 by decide)
 obtain ⟨v, mv, ev⟩ := l_ (xs := os) (i := mo / 7 % 4) (by omega) (by rw [S.l4]; exact b1)
 obtain ⟨r, hr⟩ := (S.os_.same s1) v mv
 exact ⟨os, v, .inl (SqL.of (s1 _ _ S.po_)), ev, q v H1 (fun _ _ e => e) N1 ⟨r, hr⟩⟩
theorem s11 (T : Txt K mg a) {cdv : Value} {A : Around} {outer : List Env} {s : Shared} {H : Hp} {E : XK} (hr : Room 0 (A.deeper (PyProof.Rows.envOfC "_law_spoilt" (ad aN) s.heap.objs.size a.bh cdv))) : ∃ tz, PSs (cW (XE P w) P w K mg base ["_law_told", "_law_cell", "_law_month_here", "_law_many", "_law_rows", "_law_more", "_law_at", "_law_path", "_law_currency", "_law_amount", "_law_one", "_law_other", "_law_place"] "_law_spoilt" (ad aN) a.bh cdv A outer s H E) (List.drop 11 (av aN)) tz /\
 ∀ (D : cv) t c m n tr mo i x7 x8 x9 po ws (os : List V) G, SpA G tr ws i po os -> (∀ t' rs' H', SeAt H' t' m n rs' -> Same G H' -> NoT H' -> D.rt (.ref t') H') ->
  tz D (sgS t c m n tr mo (some (.int i)) x7 x8 x9 (some (.ref po)) none none) G := by
 have sz := szl
 have ND := cn.nd
 have HU := aM hr
 obtain ⟨u12, hu12, k12⟩ := s12 (P := P) (w := w) (base := base) T (cdv := cdv) (A := A) (outer := outer) (s := s) (H := H) (E := E) hr
 refine ⟨_, (ah (bF (L2.PW.pt (uC (bo (eA K HU) (ak aV (fv 1) af) af (aY _)) (oP (bo xW (aJ (cF K) rfl T.fJ dR (FA.pa (aa (fv 4) ae))) af (aY _))))) (ah (aH (i := 11) ND rfl (Or.inl rfl) (aQ (aA K) (fv 4) (ak dP (fv 6) af) (fun _ _ => rfl)))
  (ah (aH (i := 4) ND rfl (Or.inl rfl) (ak fG (ak fG (bv eQ (fv 4) b4 (bG (fv 6))) (aZ (FA.pa (aa (aQ (aA K) (fv 10) af (fun _ _ => rfl)) ae)))) (bv eQ (fv 4) (bG (ak aI (fv 6) af)) b4)))
  (ah (aH (i := 12) ND rfl (Or.inl rfl) (ak aV (ak dP (fv 6) af) (aJ (cF K) rfl T.fJ dR (FA.pa (aa (fv 4) ae)))))
  (ai (aL (aZ (FA.pa (aa (fv 2) (aa (fv 3) (aa (ak fG (ak fG (bv eQ (fv 4) b4 (bG (fv 12))) (aZ (FA.pa (aa (ak fG (bv eQ (fv 11) b4 (bG af)) (aZ (FA.pa (aa (ak dP (aQ (aA K) (fv 11) af (fun _ _ => rfl)) af) ae)))) ae)))) (bv eQ (fv 4) (bG (ak aI (fv 12) af)) b4)) ae)))))))))) aS)
  hu12), fun D t c m n tr mo i x7 x8 x9 po ws os G S k => ?_⟩
 refine ifT (decide (c % 8 = 4) && decide (1 < (ws.length : Int))) (fun R r => ?_) (fun e => ?_) fun _ => k12 D t c m n tr mo i x7 x8 x9 po ws os G S k
 ·walk_at "rd"
  by_cases h : c % 8 = 4
  ·rw [decide_eq_true h, Bool.true_and] at r
   refine itp h ⟨ws, .inr (SqT.of S.tr_), ?_⟩
   exact r
  ·rw [decide_eq_false h, Bool.false_and] at r
   exact itn h r
 have e2 : 1 < (ws.length : Int) := of_decide_eq_true (Bool.and_eq_true_iff.mp e).2
 have b1 := S.i0
 have b2 := S.i1
 have b3 := S.len
 obtain ⟨v, mv, ev⟩ := l_ (xs := ws) (i := i - 1) (by omega) (by omega)
 obtain ⟨r, q, rfl, hq⟩ := S.rw_ v mv
 refine F5 (.ref q) (fun R z => ?_) (asg (xa (tr := tr) (n := i) rfl rfl S.nT S.tr_ S.rw_ (Nat.le_trans S.len (by decide)) (fun H1 R s1 N1 z => ?_) fun p zs H1 s1 N1 hp hz z0 lz => ?_))
 ·walk_at "rd"
  exact ⟨ws, _, .inr (SqT.of S.tr_), ev, z⟩
 ·walk_at "rd"
  obtain ⟨v, mv, ev⟩ := l_ (xs := os) (i := 0) (by omega) (by rw [S.l4]; decide)
  obtain ⟨r, hr⟩ := (S.os_.same s1) v mv
  exact ⟨os, v, .inl (SqL.of (s1 _ _ S.po_)), ev, z v H1 (fun _ _ e => e) N1 ⟨r, hr⟩⟩
 ·refine F5 (.int ((i - 1) % (zs.length : Int))) (fun R z => ?_) (Gb rfl rfl (xa (tr := p) (n := (i - 1) % (zs.length : Int)) rfl rfl N1 hp hz (by omega) (fun H2 R s2 N2 z => ?_) fun p3 z3 H3 s3 N3 hp3 hz3 _ _ => seS sz k (s1.trans s3) N3 hp3 hz3))
  ·walk_at "rd"
   exact ⟨zs, .inr (SqT.of hp), by omega, z⟩
  ·have hq2 := (s1.trans s2) _ _ hq
   walk_at "rd"
   refine ⟨_, hq2, fun p3 H3 h3 s3 n3 => ⟨_, _, .inr (SqT.of (s3 _ _ hq2)), aB (j := 2) rfl, ?_⟩⟩
   walk_at "rd"
   refine ⟨by walk_at "om", fun p4 hp4 => ⟨_, _, (aq _ hp4) _ _ h3, ag, by show 2 + 1 <= _; omega, fun p5 H5 h5 s5 n5 => ?_⟩⟩
   exact z _ H5 (s3.trans ((aq _ hp4).trans s5)) (n5 (az (n3 N2) rfl)) ⟨⟨r.pa, r.cu, r.am - 1⟩, p5, rfl, h5⟩
theorem s9 (T : Txt K mg a) {cdv : Value} {A : Around} {outer : List Env} {s : Shared} {H : Hp} {E : XK} (hr : Room 0 (A.deeper (PyProof.Rows.envOfC "_law_spoilt" (ad aN) s.heap.objs.size a.bh cdv))) : ∃ tz, PSs (cW (XE P w) P w K mg base ["_law_told", "_law_cell", "_law_month_here", "_law_many", "_law_rows", "_law_more", "_law_at", "_law_path", "_law_currency", "_law_amount", "_law_one", "_law_other", "_law_place"] "_law_spoilt" (ad aN) a.bh cdv A outer s H E) (List.drop 9 (av aN)) tz /\
 ∀ (D : cv) t c m n tr mo i x7 x8 x9 po ws (os : List V) G, SpA G tr ws i po os -> (∀ t' rs' H', SeAt H' t' m n rs' -> Same G H' -> NoT H' -> D.rt (.ref t') H') ->
  tz D (sgS t c m n tr mo (some (.int i)) x7 x8 x9 (some (.ref po)) none none) G := by
 have sz := szl
 have ND := cn.nd
 have HU := aM hr
 obtain ⟨u11, hu11, k11⟩ := s11 (P := P) (w := w) (base := base) T (cdv := cdv) (A := A) (outer := outer) (s := s) (H := H) (E := E) hr
 refine ⟨_, (ah (bF (bo (eA K HU) (ak aV (fv 1) af) af (aY _)) (ai (aL (aZ (FA.pa (aa (fv 2) (aa (fv 3) (aa (ak fG (bv eQ (fv 4) b4 (bG (fv 6))) (bv eQ (fv 4) (bG (ak aI (fv 6) af)) b4)) ae))))))) aS)
  (ah (bF (bo (eA K HU) (ak aV (fv 1) af) af (aY _)) (ai (aL (aZ (FA.pa (aa (fv 2) (aa (fv 3) (aa (ak fG (fv 4) (bv eQ (fv 4) (bG (fv 6)) (bG (ak aI (fv 6) af)))) ae))))))) aS)
  hu11)), fun D t c m n tr mo i x7 x8 x9 po ws os G S k => ?_⟩
 have l1 := S.len
 walk_at "rd"
 by_cases h : c % 8 = 2
 ·refine itp h ⟨ws, S.tr_, fun p H1 h1 s1 n1 => ⟨ws, s1 _ _ S.tr_, fun p2 H2 h2 s2 n2 => ⟨_, _, s2 _ _ h1, h2, ?_, fun p3 H3 h3 s3 n3 => ?_⟩⟩⟩
  ·have l2 := cQ ws none (some i)
   have l3 := cQ ws (some (i + 1)) none
   omega
  ·have s13 := s1.trans (s2.trans s3)
   exact seS sz k s13 (n3 (n2 (n1 S.nT))) h3 (((S.rw_.same s13).cut _ _).cat ((S.rw_.same s13).cut _ _))
 refine itn h ?_
 by_cases h : c % 8 = 3
 ·refine itp h ⟨ws, S.tr_, fun p H1 h1 s1 n1 => ⟨_, _, s1 _ _ S.tr_, h1, ?_, fun p3 H3 h3 s3 n3 => ?_⟩⟩
  ·have l2 := cQ ws (some i) (some (i + 1))
   omega
  ·have s13 := s1.trans s3
   exact seS sz k s13 (n3 (n1 S.nT)) h3 ((S.rw_.same s13).cat ((S.rw_.same s13).cut _ _))
 exact itn h (k11 D t c m n tr mo i x7 x8 x9 po ws os G S k)
theorem s5 (T : Txt K mg a) {cdv : Value} {A : Around} {outer : List Env} {s : Shared} {H : Hp} {E : XK} (hr : Room 0 (A.deeper (PyProof.Rows.envOfC "_law_spoilt" (ad aN) s.heap.objs.size a.bh cdv))) : ∃ tz, PSs (cW (XE P w) P w K mg base ["_law_told", "_law_cell", "_law_month_here", "_law_many", "_law_rows", "_law_more", "_law_at", "_law_path", "_law_currency", "_law_amount", "_law_one", "_law_other", "_law_place"] "_law_spoilt" (ad aN) a.bh cdv A outer s H E) (List.drop 5 (av aN)) tz /\
 ∀ (D : cv) t c m n tr mo ws rs G, NoT G -> G tr = some (.tup ws) -> A2 (RwAt G) ws rs -> 0 < ws.length -> ws.length <= 100 -> (∀ r ∈ rs, r.pa.length <= 250 /\ r.cu.length <= 250) -> (∀ t' rs' H', SeAt H' t' m n rs' -> Same G H' -> NoT H' -> D.rt (.ref t') H') ->
  tz D (sgS t c m n tr mo none none none none none none none) G := by
 have sz := szl
 have ND := cn.nd
 have HU := aM hr
 obtain ⟨u9, hu9, k9⟩ := s9 (P := P) (w := w) (base := base) T (cdv := cdv) (A := A) (outer := outer) (s := s) (H := H) (E := E) hr
 refine ⟨_, (ah (aH (i := 6) ND rfl (Or.inl rfl) (ak aV (fv 5) (aJ (cF K) rfl T.fJ dR (FA.pa (aa (fv 4) ae)))))
  (ah (ui (aQ (aA K) (fv 4) (fv 6) (fun _ _ => rfl)) (jR K (n := 3) rfl (bf (aO (i := 7) ND rfl (Or.inl rfl)) (bf (aO (i := 8) ND rfl (Or.inl rfl)) (bf (aO (i := 9) ND rfl (Or.inl rfl)) gE)))))
  (ah (aH (i := 10) ND rfl (Or.inl rfl) (cj (FA.pa (aa (aZ (FA.pa (aa (fv 7) (aa (fv 8) (aa (ak aI (fv 9) af) ae))))) (aa (aZ (FA.pa (aa (fv 7) (aa (fv 8) (aa (ak dP af (fv 9)) ae))))) (aa (aZ (FA.pa (aa (ak aI (fv 7) (aK [120])) (aa (fv 8) (aa (fv 9) ae))))) ae))))))
  (ah (cg (e6 K PySem.F.plainAttrs_list PySem.F.slot_list_append PySem.F.type_list_append d5 (fv 10) (FA.pa (aa (aZ (FA.pa (aa (fv 7) (aa (ak aI (bv ql (fv 8) b4 (bG af)) (aK [90])) (aa (fv 9) ae))))) ae))))
  hu9)))), fun D t c m n tr mo ws rs G hN htr ha l0 l1 txt k => ?_⟩
 have p0 : (0 : Int) < ws.length := by omega
 have b0 := Int.emod_nonneg mo (Int.ne_of_gt p0)
 have b1 := Int.emod_lt_of_pos mo p0
 obtain ⟨v, mv, ev⟩ := l_ (xs := ws) (i := mo % (ws.length : Int)) (by omega) b1
 obtain ⟨j, hj, ej⟩ := List.mem_iff_getElem.mp mv
 obtain ⟨r, gr, q, rfl, hq⟩ := ha.at_ ((List.getElem?_eq_getElem hj).trans (congrArg some ej))
 obtain ⟨t1, t2⟩ := txt r (List.mem_of_getElem? gr)
 walk_at "rd"
 refine ⟨_, .inr (SqT.of htr), p0, _, _, .inr (SqT.of htr), ev, _, _, rfl, SqT.of hq, rfl, _, _, rfl, _, _, rfl, _, _, rfl, rfl, ?_⟩
 walk_at "rd"
 have l3 : 3 <= sizeLine := Nat.le_trans (by decide) sz
 refine ⟨l3, fun q1 h1 => ?_⟩
 obtain ⟨G1, e1, s1, g1, N1⟩ := ck (HO.tup [L2.T r.pa, L2.T r.cu, V.int (r.am + 1)]) h1 hN rfl
 rw [e1]
 refine ⟨l3, fun q2 h2 => ?_⟩
 obtain ⟨G2, e2, s2, g2, N2⟩ := ck (HO.tup [L2.T r.pa, L2.T r.cu, V.int (0 - r.am)]) h2 N1 rfl
 rw [e2]
 refine ⟨by omega, l3, fun q3 h3 => ?_⟩
 obtain ⟨G3, e3, s3, g3, N3⟩ := ck (HO.tup [L2.T (r.pa ++ [120]), L2.T r.cu, V.int r.am]) h3 N2 rfl
 rw [e3]
 refine ⟨l3, fun q4 h4 => ?_⟩
 obtain ⟨G4, e4, s4, g4, N4⟩ := ck (HO.lst [V.ref q1, V.ref q2, V.ref q3]) h4 N3 rfl
 rw [e4]
 have lc : (h8 r.cu none (some 2)).length <= r.cu.length := by unfold h8; rw [List.length_take, List.length_drop]; omega
 refine ⟨.inl ⟨_, SqL.of g4⟩, by omega, by omega, l3, fun q5 h5 => ?_⟩
 obtain ⟨G5, e5, s5, g5, N5⟩ := ck (HO.tup [L2.T r.pa, L2.T (h8 r.cu none (some 2) ++ [90]), V.int r.am]) h5 N4 rfl
 rw [e5]
 refine ⟨q4, _, _, rfl, rfl, s5 _ _ g4, by show 3 < _; omega, ?_⟩
 have s35 := s4.trans s5
 have s25 := s3.trans s35
 have s15 := s2.trans s25
 have s6 : Same G (upd G5 q4 (.lst ([V.ref q1, V.ref q2, V.ref q3] ++ [V.ref q5]))) := eJ (s1.trans s15) ((s1.trans (s2.trans s3)).free h4)
 have kt : ∀ x l, G5 x = some (.tup l) -> upd G5 q4 (.lst ([V.ref q1, V.ref q2, V.ref q3] ++ [V.ref q5])) x = some (.tup l) := fun x l e => (aj (eD e (s5 _ _ g4) (by intro z; cases z))).trans e
 refine k9 D t c m n tr mo (mo % (ws.length : Int)) _ _ _ q4 ws _ _ ⟨az N5 rfl, s6 _ _ htr, (Rws.of ha).same s6, l1, b0, b1, ag, ?_, rfl⟩ fun t' rs' H' h z1 z2 => k t' rs' H' h (s6.trans z1) z2
 intro v mv
 simp only [List.cons_append, List.nil_append, List.mem_cons, List.not_mem_nil, or_false] at mv
 rcases mv with rfl | rfl | rfl | rfl
 ·exact ⟨⟨r.pa, r.cu, r.am + 1⟩, q1, rfl, kt _ _ (s15 _ _ g1)⟩
 ·exact ⟨⟨r.pa, r.cu, 0 - r.am⟩, q2, rfl, kt _ _ (s25 _ _ g2)⟩
 ·exact ⟨⟨r.pa ++ [120], r.cu, r.am⟩, q3, rfl, kt _ _ (s35 _ _ g3)⟩
 ·exact ⟨⟨r.pa, h8 r.cu none (some 2) ++ [90], r.am⟩, q5, rfl, kt _ _ g5⟩
def sp_rT : Sp := sp2 fun x y H Q _ => NoT H /\ asR x fun t => asI y fun c => ∃ m n rs, SeAt H t m n rs /\ (0 <= m /\ m <= 4799) /\ rs.length <= 100 /\ (∀ r ∈ rs, r.pa.length <= 250 /\ r.cu.length <= 250) /\
 ∀ t' m' n' rs' H', SeAt H' t' m' n' rs' -> (0 <= m' /\ m' <= 4799) -> Same H H' -> NoT H' -> Q (.ref t') H'
theorem oW (T : Txt K mg a) : bd P w K mg base (XE P w) 1 a.bh a.jn ["_law_told", "_law_cell"] sp_rT := by
 refine T.gQ.okX cn (fun vs H Q E h => sp2.len h) (fun cdv A outer s H vs Q E hr h => ?_)
 obtain ⟨x0, x1, rfl, h⟩ := sp2.inv h
 try dsimp only [sp_rT, sp2] at h
 have ND := cn.nd
 have HU := aM hr
 obtain ⟨hN, h1⟩ := h
 obtain ⟨t, rfl, h2⟩ := asR.inv h1
 obtain ⟨c, rfl, m, n, rs, S, m0, len, txt, k⟩ := asI.inv h2
 have sz := szl
 obtain ⟨u5, hu5, k5⟩ := s5 (P := P) (w := w) (base := base) T (cdv := cdv) (A := A) (outer := outer) (s := s) (H := H) (E := E) hr
 refine ⟨_, (ah (ui (fv 0) (jR K (n := 3) rfl (bf (aO (i := 2) ND rfl (Or.inl rfl)) (bf (aO (i := 3) ND rfl (Or.inl rfl)) (bf (aO (i := 4) ND rfl (Or.inl rfl)) gE)))))
  (ah (aH (i := 5) ND rfl (Or.inl rfl) (ak a9 (fv 1) af))
  (ah (bF (bo (eA K HU) (ak aV (fv 1) af) af (aY _)) (ai (aL (aZ (FA.pa (aa (fv 2) (aa (ak aI (fv 3) (fS (FA.pa (aa af (aa (BV xf af) ae))) (ak aV (fv 5) af) (fun _ _ => rfl))) (aa (fv 4) ae))))))) aS)
  (ah (bF (bo (eA K HU) (ak aV (fv 1) af) af (aY _)) (ai (aL (aZ (FA.pa (aa (fS (FA.pa (aa (aJ (uB rfl) rfl T.xP tZ (FA.pa (aa af (aa (ak dP (fv 2) af) ae)))) (aa (aJ (BO rfl) rfl T.Dm By (FA.pa (aa af (aa (ak aI (fv 2) af) ae)))) ae))) (ak aV (fv 5) af) (fun _ _ => rfl)) (aa (fv 3) (aa (fv 4) ae))))))) aS)
  (ah (bF (rJ (bo (eA K HU) (fv 4) (aZ (FA.pa ae)) (aY _))) (ai (aL (aZ (FA.pa (aa (fv 2) (aa (fv 3) (aa (aZ (FA.pa (aa (aZ (FA.pa (aa (aK [122, 122]) (aa (aK [65, 65, 65]) (aa af ae))))) ae))) ae))))))) aS)
  hu5))))), ?_⟩
 obtain ⟨tr, ws, e1, e2, e3⟩ := id S
 refine ⟨_, _, rfl, SqT.of e1, rfl, _, _, rfl, _, _, rfl, _, _, rfl, rfl, ?_⟩
 walk_at "rd"
 have l3 : 3 <= sizeLine := Nat.le_trans (by decide) sz
 have l2 : 2 <= sizeLine := Nat.le_trans (by decide) sz
 have l1 : 1 <= sizeLine := Nat.le_trans (by decide) sz
 have b0 := Int.emod_nonneg (c / 8) (show (2 : Int) ≠ 0 by decide)
 have b1 := Int.emod_lt_of_pos (c / 8) (show (0 : Int) < 2 by decide)
 have fin : ∀ m' n', (0 <= m' /\ m' <= 4799) -> ∀ p, H p = none -> Q (.ref p) (upd H p (.tup [.int m', .int n', .ref tr])) := fun m' n' h p hp => k p m' n' rs _ ⟨tr, ws, ag, (aq _ hp) _ _ e2, dY (aq _ hp) e3⟩ h (aq _ hp) (az hN rfl)
 by_cases h : c % 8 = 0
 ·refine itp h ⟨hN, l2, fun p hp => ng (ns := [1, -1]) b0 b1 ?_⟩
  walk_at "rd"
  exact ⟨l3, fin _ _ m0⟩
 refine itn h ?_
 by_cases h : c % 8 = 1
 ·refine itp h ⟨hN, l2, fun p hp => ng (ns := [if m - 1 > 0 then m - 1 else 0, if m + 1 < 4799 then m + 1 else 4799]) b0 b1 ⟨l3, fin _ _ ?_⟩⟩
  rcases (by omega : c / 8 % 2 = 0 \/ c / 8 % 2 = 1) with e | e
  ·rw [e]; show 0 <= (if m - 1 > 0 then m - 1 else 0) /\ (if m - 1 > 0 then m - 1 else 0) <= 4799; split <;> omega
  ·rw [e]; show 0 <= (if m + 1 < 4799 then m + 1 else 4799) /\ (if m + 1 < 4799 then m + 1 else 4799) <= 4799; split <;> omega
 refine itn h ⟨hN, Nat.zero_le _, fun p hp => ⟨_, EqR.tup (e := fun _ => true) (SqT.of ((aq _ hp) _ _ e2)) (SqT.of ag) (fun j x y _ gy => by simp at gy), H, Gc.none (aq _ hp), ?_⟩⟩
 cases ws with
 | nil =>
  refine itp rfl ⟨l3, fun q hq => ⟨l1, fun q1 hq1 => ⟨l3, fun q2 hq2 => ?_⟩⟩⟩
  have s1 := aq (HO.tup [L2.T [122, 122], L2.T [65, 65, 65], V.int 1]) hq
  have s2 := aq (HO.tup [V.ref q]) hq1
  have s3 := aq (HO.tup [V.int m, V.int n, V.ref q1]) hq2
  exact k q2 m n [⟨[122, 122], [65, 65, 65], 1⟩] _ ⟨q1, [.ref q], ag, s3 _ _ ag, .cons ⟨q, rfl, s3 _ _ (s2 _ _ ag)⟩ .nil⟩ m0 (s1.trans (s2.trans s3)) (az (az (az hN rfl) rfl) rfl)
 | cons v r =>
  refine itn (by simp) ?_
  exact k5 _ t c m n tr (c / 8) (v :: r) rs H hN e2 e3 (Nat.succ_pos _) (by rw [e3.len]; exact len) txt fun t' rs' H' h s1 n1 => k t' m n rs' H' h m0 s1 n1
end
open PySem L2 K19 K22
section
variable {P : Program} {w : World} {K : PySem.W.Frag} {mg : Str -> Option Value} {base : Heap} {a : Adr}
open K3
structure KS (C : Addr) (H : Hp) (l p0 b0 p1 b1 : Addr) (x y : List V) : Prop where
 nT : NoT H
 a0 : SlAt C H p0 b0 x
 a1 : SlAt C H p1 b1 y
 ls : H l = some (.lst [.ref p0, .ref p1])
 n01 : b0 ≠ b1
 l0 : l ≠ b0
 l1 : l ≠ b1
theorem SlAt.keep {C : Addr} {H H' : Hp} {p b f : Addr} {x fs : List V} (h : SlAt C H p b x) (k : Keep [f] H H') (e : H f = some (.lst fs)) (n : b ≠ f) : SlAt C H' p b x := by
 obtain ⟨dx, hp⟩ := h.ob
 exact ⟨⟨dx, k _ _ hp (by simpa using eD hp e (by intro z; cases z))⟩, k _ _ h.ls (by simpa using n)⟩
theorem SlAt.same {C : Addr} {H H' : Hp} {p b : Addr} {x : List V} (h : SlAt C H p b x) (s : Same H H') : SlAt C H' p b x := by
 obtain ⟨dx, hp⟩ := h.ob
 exact ⟨⟨dx, s _ _ hp⟩, s _ _ h.ls⟩
section
variable {C : Addr} {H H' : Hp} {l p0 b0 p1 b1 : Addr} {x y : List V}
theorem KS.same (h : KS C H l p0 b0 p1 b1 x y) (s : Same H H') (n : NoT H') : KS C H' l p0 b0 p1 b1 x y := ⟨n, h.a0.same s, h.a1.same s, s _ _ h.ls, h.n01, h.l0, h.l1⟩
theorem KS.put0 (h : KS C H l p0 b0 p1 b1 x y) {z : List V} (k : Keep [b0] H H') (n : NoT H') (a : SlAt C H' p0 b0 z) : KS C H' l p0 b0 p1 b1 z y := ⟨n, a, h.a1.keep k h.a0.ls (Ne.symm h.n01), k _ _ h.ls (by simpa using h.l0), h.n01, h.l0, h.l1⟩
theorem KS.put1 (h : KS C H l p0 b0 p1 b1 x y) {z : List V} (k : Keep [b1] H H') (n : NoT H') (a : SlAt C H' p1 b1 z) : KS C H' l p0 b0 p1 b1 x z := ⟨n, h.a0.keep k h.a1.ls h.n01, a, k _ _ h.ls (by simpa using h.l1), h.n01, h.l0, h.l1⟩
end
theorem o5 {H : Hp} {p q : Addr} (ps : List Addr) (hp : H p = some (.lst (ps.map V.ref))) (hq : H q = some (.lst (ps.map V.ref))) : EqR K H p q true := by
 have := EqR.lst (K := K) (e := fun _ => true) (SqL.of hp) (SqL.of hq) rfl (fun j x y gx gy => by
  rw [gx] at gy; cases gy
  obtain ⟨q, _, rfl⟩ := List.mem_map.mp (List.mem_of_getElem? gx)
  exact .same)
 rwa [show (List.range (ps.map V.ref).length).all (fun _ => true) = true by simp] at this
def kx (t : Addr) : Nat -> List V
 | 0 => []
 | 1 => [.ref t]
 | 2 => [.ref t]
 | _ => [.ref t, .ref t]
def ky (t : Addr) : Nat -> List V
 | 0 => []
 | 1 => []
 | _ => [.ref t]
theorem oK (b : V) : List.lookup (Str.ofString "put") [(Str.ofString "told_seals", b)] = none := bn (by decide)
theorem h7 (b : V) : List.lookup (Str.ofString "every") [(Str.ofString "told_seals", b)] = none := bn (by decide)
theorem k7 (T : Txt K mg a) {cdv : Value} {A : Around} {outer : List Env} {s : Shared} {H : Hp} {E : XK} (hr : Room 2 (A.deeper (PyProof.Rows.envOfC "_law_kept" (ad a6) s.heap.objs.size a.bX cdv))) : ∃ tz, PSs (cW (XE P w) P w K mg base ["_law_told", "_law_other", "_law_two", "_law_k", "_law_one", "_law_found", "_law_early"] "_law_kept" (ad a6) a.bX cdv A outer s H E) (List.drop 7 (av a6)) tz /\
 ∀ (D : cv) t o l x3 x4 x5 f p0 b0 p1 b1 G, KS a.cf G l p0 b0 p1 b1 [.ref t, .ref t] [.ref o, .ref t] -> G f = some (.lst [.ref o]) -> (∀ H', D.rt (.bl true) H') ->
  tz D [some (.ref t), some (.ref o), some (.ref l), x3, x4, x5, some (.ref f)] G := by
 have sz := szl
 have ND := eB.nd
 have HU := aM hr
 have G_Seals_every := gm (P := P) (w := w) (base := base) T
 have b_Seals_every := gk T.eT
 refine ⟨_, (ah (bF (rJ (bo (gM K HU) (fv 6) (cj (FA.pa (aa (fv 1) ae))) (aY _))) (ai (aL jt)) aS)
  (ai (aL (cV (d8 (eA K HU) (dZ (aQ (aA K) (fv 2) af (fun _ _ => rfl)) T.dm T.c3 G_Seals_every (hr.mono (by decide)) b_Seals_every .nil aD) (cj (FA.pa (aa (fv 0) (aa (fv 0) ae)))) (aY _)) (df (d8 (eA K HU) (dZ (aQ (aA K) (fv 2) af (fun _ _ => rfl)) T.dm T.c3 G_Seals_every (hr.mono (by decide)) b_Seals_every .nil aD) (cj (FA.pa (aa (fv 1) (aa (fv 0) ae)))) (aY _))))))), fun D t o l x3 x4 x5 f p0 b0 p1 b1 G S hf k => ?_⟩
 obtain ⟨d0, e0⟩ := S.a0.ob
 obtain ⟨d1, e1⟩ := S.a1.ob
 walk_at "rd"
 refine ⟨S.nT, Nat.le_trans (by decide) sz, fun q hq => ?_⟩
 have s1 := aq (HO.lst [V.ref o]) hq
 refine ⟨_, o5 [o] (s1 _ _ hf) ag, G, Gc.none s1, itn (by decide) ?_⟩
 refine ⟨_, _, .inl (SqL.of S.ls), aB (j := 0) rfl, ?_⟩
 walk_at "rd"
 refine ⟨_, _, e0, h7 _, S.nT, b0, _, S.a0, fun q2 hq2 => ?_⟩
 obtain ⟨G2, z2, s2, g2, N2⟩ := ck (HO.lst [V.ref t, V.ref t]) hq2 S.nT rfl
 rw [z2]
 refine ⟨Nat.le_trans (by decide) sz, fun q3 hq3 => ?_⟩
 obtain ⟨G3, z3, s3, g3, N3⟩ := ck (HO.lst [V.ref t, V.ref t]) hq3 N2 rfl
 rw [z3]
 refine ⟨_, o5 [t, t] (s3 _ _ g2) g3, itp rfl ?_⟩
 have s23 := s2.trans s3
 refine ⟨_, _, .inl (SqL.of (s23 _ _ S.ls)), aB (j := 1) rfl, ?_⟩
 walk_at "rd"
 refine ⟨_, _, s23 _ _ e1, h7 _, N3, b1, _, S.a1.same s23, fun q4 hq4 => ⟨Nat.le_trans (by decide) sz, fun q5 hq5 => ⟨_, o5 [o, t] ((aq _ hq5) _ _ ag) ag, ?_⟩⟩⟩
 exact k _
theorem k4 (T : Txt K mg a) {cdv : Value} {A : Around} {outer : List Env} {s : Shared} {H : Hp} {E : XK} (hr : Room 2 (A.deeper (PyProof.Rows.envOfC "_law_kept" (ad a6) s.heap.objs.size a.bX cdv))) : ∃ tz, PSs (cW (XE P w) P w K mg base ["_law_told", "_law_other", "_law_two", "_law_k", "_law_one", "_law_found", "_law_early"] "_law_kept" (ad a6) a.bX cdv A outer s H E) (List.drop 4 (av a6)) tz /\
 ∀ (D : cv) t o l x3 x4 f p0 b0 p1 b1 G, KS a.cf G l p0 b0 p1 b1 [.ref t, .ref t] [.ref o] -> G f = some (.lst [.ref t, .ref t]) -> f ≠ b0 -> f ≠ b1 -> f ≠ l -> (∀ H', D.rt (.bl true) H') ->
  tz D [some (.ref t), some (.ref o), some (.ref l), x3, x4, some (.ref f), none] G := by
 have sz := szl
 have ND := eB.nd
 have HU := aM hr
 have G_Seals_every := gm (P := P) (w := w) (base := base) T
 have b_Seals_every := gk T.eT
 have G_Seals_put := lO (P := P) (w := w) (base := base) T
 have b_Seals_put := lD T.jf
 obtain ⟨u7, hu7, k7⟩ := k7 (P := P) (w := w) (base := base) T (cdv := cdv) (A := A) (outer := outer) (s := s) (H := H) (E := E) hr
 refine ⟨_, (ah (cg (e6 K PySem.F.plainAttrs_list PySem.F.slot_list_append PySem.F.type_list_append d5 (fv 5) (FA.pa (aa eZ ae))))
  (ah (aH (i := 6) ND rfl (Or.inl rfl) (dZ (aQ (aA K) (fv 2) af (fun _ _ => rfl)) T.dm T.c3 G_Seals_every (hr.mono (by decide)) b_Seals_every .nil aD))
  (ah (cg (cK (aQ (aA K) (fv 2) af (fun _ _ => rfl)) T.dm T.mG G_Seals_put (hr.mono (by decide)) b_Seals_put .nil aD (FA.pa (aa (fv 0) ae))))
  hu7))), fun D t o l x3 x4 f p0 b0 p1 b1 G S hf n0 n1 nl k => ?_⟩
 walk_at "rd"
 refine ⟨.inl ⟨_, SqL.of hf⟩, f, _, _, rfl, rfl, hf, Nat.lt_of_lt_of_le (show 2 < 1000 by decide) sz, ?_⟩
 have kp : Keep [f] G (upd G f (.lst ([V.ref t, V.ref t] ++ [V.non]))) := Keep.refl.put (.head _)
 have S1 : KS a.cf (upd G f (.lst ([V.ref t, V.ref t] ++ [V.non]))) l p0 b0 p1 b1 [.ref t, .ref t] [.ref o] := ⟨az S.nT rfl, S.a0.keep kp hf (Ne.symm n0), S.a1.keep kp hf (Ne.symm n1), kp _ _ S.ls (by simpa using Ne.symm nl), S.n01, S.l0, S.l1⟩
 generalize upd G f (.lst ([V.ref t, V.ref t] ++ [V.non])) = G1 at S1 ⊢
 obtain ⟨d1, e1⟩ := S1.a1.ob
 refine ⟨_, _, .inl (SqL.of S1.ls), aB (j := 1) rfl, ?_⟩
 walk_at "rd"
 refine ⟨_, _, e1, h7 _, S1.nT, b1, _, S1.a1, fun q2 hq2 => ?_⟩
 obtain ⟨G2, z2, s2, g2, N2⟩ := ck (HO.lst [V.ref o]) hq2 S1.nT rfl
 rw [z2]
 have S2 := S1.same s2 N2
 refine ⟨_, _, .inl (SqL.of S2.ls), aB (j := 1) rfl, ?_⟩
 walk_at "rd"
 refine ⟨_, _, s2 _ _ e1, oK _, N2, b1, _, S2.a1, (show 1 <= 100 by decide), fun G3 a3 k3 N3 => ?_⟩
 exact k7 D t o l x3 x4 _ q2 p0 b0 p1 b1 G3 (S2.put1 k3 N3 a3) (k3 _ _ g2 (by simpa using Ne.symm (au S1.a1.ls hq2))) k
theorem k2 (T : Txt K mg a) {cdv : Value} {A : Around} {outer : List Env} {s : Shared} {H : Hp} {E : XK} (hr : Room 2 (A.deeper (PyProof.Rows.envOfC "_law_kept" (ad a6) s.heap.objs.size a.bX cdv))) : ∃ tz, PSs (cW (XE P w) P w K mg base ["_law_told", "_law_other", "_law_two", "_law_k", "_law_one", "_law_found", "_law_early"] "_law_kept" (ad a6) a.bX cdv A outer s H E) (List.drop 2 (av a6)) tz /\
 ∀ (D : cv) t o l x3 x4 p0 b0 p1 b1 G, KS a.cf G l p0 b0 p1 b1 [.ref t, .ref t] [.ref o] -> (∀ H', D.rt (.bl true) H') ->
  tz D [some (.ref t), some (.ref o), some (.ref l), x3, x4, none, none] G := by
 have sz := szl
 have ND := eB.nd
 have HU := aM hr
 have G_Seals_every := gm (P := P) (w := w) (base := base) T
 have b_Seals_every := gk T.eT
 obtain ⟨u4, hu4, k4⟩ := k4 (P := P) (w := w) (base := base) T (cdv := cdv) (A := A) (outer := outer) (s := s) (H := H) (E := E) hr
 refine ⟨_, (ah (aH (i := 5) ND rfl (Or.inl rfl) (dZ (aQ (aA K) (fv 2) af (fun _ _ => rfl)) T.dm T.c3 G_Seals_every (hr.mono (by decide)) b_Seals_every .nil aD))
  (ah (bF (rJ (L2.PW.pt (pU (bo (gM K HU) (fv 5) (cj (FA.pa (aa (fv 0) (aa (fv 0) ae)))) (aY _)) (pw (bo (gM K HU) (dZ (aQ (aA K) (fv 2) af (fun _ _ => rfl)) T.dm T.c3 G_Seals_every (hr.mono (by decide)) b_Seals_every .nil aD) (cj (FA.pa (aa (fv 1) ae))) (aY _)))))) (ai (aL jt)) aS)
  hu4)), fun D t o l x3 x4 p0 b0 p1 b1 G S k => ?_⟩
 obtain ⟨d0, e0⟩ := S.a0.ob
 obtain ⟨d1, e1⟩ := S.a1.ob
 walk_at "rd"
 refine ⟨_, _, .inl (SqL.of S.ls), aB (j := 0) rfl, ?_⟩
 walk_at "rd"
 refine ⟨_, _, e0, h7 _, S.nT, b0, _, S.a0, fun f hf => ?_⟩
 obtain ⟨G1, z1, s1, g1, N1⟩ := ck (HO.lst [V.ref t, V.ref t]) hf S.nT rfl
 rw [z1]
 have S1 := S.same s1 N1
 refine ⟨N1, Nat.le_trans (by decide) sz, fun q2 hq2 => ?_⟩
 obtain ⟨G2, z2, s2, g2, N2⟩ := ck (HO.lst [V.ref t, V.ref t]) hq2 N1 rfl
 rw [z2]
 refine ⟨_, o5 [t, t] (s2 _ _ g1) g2, itn (by decide) ?_⟩
 have S2 := S1.same s2 N2
 refine ⟨_, _, .inl (SqL.of S2.ls), aB (j := 1) rfl, ?_⟩
 walk_at "rd"
 refine ⟨_, _, (s1.trans s2) _ _ e1, h7 _, N2, b1, _, S2.a1, fun q3 hq3 => ?_⟩
 obtain ⟨G3, z3, s3, g3, N3⟩ := ck (HO.lst [V.ref o]) hq3 N2 rfl
 rw [z3]
 refine ⟨Nat.le_trans (by decide) sz, fun q4 hq4 => ⟨_, o5 [o] ((aq _ hq4) _ _ g3) ag, G1, Gc.none (s2.trans (s3.trans (aq _ hq4))), itn (by decide) ?_⟩⟩
 exact k4 D t o l x3 x4 f p0 b0 p1 b1 G1 S1 g1 (Ne.symm (au S.a0.ls hf)) (Ne.symm (au S.a1.ls hf)) (Ne.symm (au S.ls hf)) k
def sp_yG : Sp := sp2 fun x y H Q _ => NoT H /\ asR x fun _ => asR y fun _ => ∀ H', Q (.bl true) H'
theorem tG (T : Txt K mg a) : bd P w K mg base (XE P w) 3 a.bX a.mM ["_law_told", "_law_other"] sp_yG := by
 refine T.jH.okX eB (fun vs H Q E h => sp2.len h) (fun cdv A outer s H vs Q E hr h => ?_)
 obtain ⟨x0, x1, rfl, h⟩ := sp2.inv h
 try dsimp only [sp_yG, sp2] at h
 have ND := eB.nd
 have HU := aM hr
 obtain ⟨hN, h1⟩ := h
 obtain ⟨t, rfl, h2⟩ := asR.inv h1
 obtain ⟨o, rfl, k⟩ := asR.inv h2
 have sz := szl
 have G_Seals_put := lO (P := P) (w := w) (base := base) T
 have b_Seals_put := lD T.jf
 have G_Seals___init__ := lK (P := P) (w := w) (base := base) T
 have b_Seals___init__ := mF T.gZ
 obtain ⟨u2, hu2, k2⟩ := k2 (P := P) (w := w) (base := base) T (cdv := cdv) (A := A) (outer := outer) (s := s) (H := H) (E := E) hr
 refine ⟨_, (ah (aH (i := 2) ND rfl (Or.inl rfl) (cj (FA.pa (aa (jO T.we G_Seals___init__ (hr.mono (by decide)) rfl T.xN b_Seals___init__ .nil aD) (aa (jO T.we G_Seals___init__ (hr.mono (by decide)) rfl T.xN b_Seals___init__ .nil aD) ae)))))
  (ah (e_ (by passes_own) rfl (CN K rfl T.vC (FA.pa (aa (cj (FA.pa (aa (fv 0) (aa (fv 1) (aa (fv 0) ae))))) ae))) (jR K (n := 2) rfl (bf (aO (i := 3) ND rfl (Or.inl rfl)) (bf (aO (i := 4) ND rfl (Or.inl rfl)) gE))) (ai (cg (cK (aQ (aA K) (fv 2) (ak aV (fv 3) af) (fun _ _ => rfl)) T.dm T.mG G_Seals_put (hr.mono (by decide)) b_Seals_put .nil aD (FA.pa (aa (fv 4) ae))))))
  hu2)), ?_⟩
 walk_at "rd"
 intro p0 d0 h0 hd0 nd0
 refine ⟨az (az hN rfl) rfl, d0, ag, fun b0 H1 hb0 a0 kp1 N1 p1 d1 h1 hd1 nd1 => ⟨az (az N1 rfl) rfl, d1, ag, fun b1 H2 hb1 a1 kp2 N2 => ⟨Nat.le_trans (by decide) sz, fun l hl => ?_⟩⟩⟩
 have s2 : Same H1 H2 := fun p o e => hV h1 hd1 kp2 p o e List.not_mem_nil
 have b10 : H1 b1 = none := eG hb1
 have s3 := aq (HO.lst [V.ref p0, V.ref p1]) hl
 have S0 : KS a.cf (upd H2 l (.lst [V.ref p0, V.ref p1])) l p0 b0 p1 b1 [] [] := ⟨az N2 rfl, (a0.same s2).same s3, a1.same s3, ag, au a0.ls b10, Ne.symm (au (s2 _ _ a0.ls) hl), Ne.symm (au a1.ls hl)⟩
 generalize upd H2 l (.lst [V.ref p0, V.ref p1]) = G at S0 ⊢
 refine Ch ?_
 walk_at "rd"
 refine ⟨Nat.le_trans (by decide) sz, fun e he => ?_⟩
 obtain ⟨G1, z1, s4, g4, N4⟩ := ck (HO.lst [V.ref t, V.ref o, V.ref t]) he S0.nT rfl
 rw [z1]
 have n0 := au S0.a0.ls he
 have n1 := au S0.a1.ls he
 refine ⟨⟨_, SqL.of g4⟩, CP (xs := [V.ref t, V.ref o, V.ref t]) (fun i σ' G' => KS a.cf G' l p0 b0 p1 b1 (kx t i) (ky o i) /\ G' e = some (.lst [V.ref t, V.ref o, V.ref t]) /\ ∃ x3 x4, σ' = [some (.ref t), some (.ref o), some (.ref l), x3, x4, none, none]) ⟨S0.same s4 N4, g4, _, _, rfl⟩ (fun i σ' G' _ h => SqL.of h.2.1) ?_ ?_⟩
 ·rintro i x σ' G' q hx hq ⟨S, hE, x3, x4, rfl⟩
  obtain ⟨G2, z2, s5, g5, N5⟩ := ck (HO.tup [.int (i : Int), x]) hq S.nT rfl
  rw [z2]
  have S2 := S.same s5 N5
  have hE2 := s5 _ _ hE
  obtain ⟨d0, e0⟩ := S2.a0.ob
  obtain ⟨d1, e1⟩ := S2.a1.ob
  walk_at "rd"
  refine ⟨_, _, rfl, SqT.of g5, rfl, _, _, rfl, _, _, rfl, rfl, ?_⟩
  walk_at "rd"
  have li : i < 3 := (List.getElem?_eq_some_iff.mp hx).1
  rcases (by omega : i = 0 \/ i = 1 \/ i = 2) with rfl | rfl | rfl
  ·cases hx
   refine ⟨_, _, .inl (SqL.of S2.ls), aB (j := 0) rfl, ?_⟩
   walk_at "rd"
   exact ⟨_, _, e0, oK _, N5, b0, _, S2.a0, Nat.zero_le _, fun G3 a3 k3 N3 => ⟨S2.put0 k3 N3 a3, k3 _ _ hE2 (by simpa using Ne.symm n0), _, _, rfl, rfl⟩⟩
  ·cases hx
   refine ⟨_, _, .inl (SqL.of S2.ls), aB (j := 1) rfl, ?_⟩
   walk_at "rd"
   exact ⟨_, _, e1, oK _, N5, b1, _, S2.a1, Nat.zero_le _, fun G3 a3 k3 N3 => ⟨S2.put1 k3 N3 a3, k3 _ _ hE2 (by simpa using Ne.symm n1), _, _, rfl, rfl⟩⟩
  ·cases hx
   refine ⟨_, _, .inl (SqL.of S2.ls), aB (j := 0) rfl, ?_⟩
   walk_at "rd"
   exact ⟨_, _, e0, oK _, N5, b0, _, S2.a0, (show 1 <= 100 by decide), fun G3 a3 k3 N3 => ⟨S2.put0 k3 N3 a3, k3 _ _ hE2 (by simpa using Ne.symm n0), _, _, rfl, rfl⟩⟩
 ·rintro σ' G' ⟨S, hE, x3, x4, rfl⟩
  exact k2 _ t o l x3 x4 p0 b0 p1 b1 G' S k
end
open PySem L2 K19 K22
section
variable {P : Program} {w : World} {K : PySem.W.Frag} {mg : Str -> Option Value} {base : Heap} {a : Adr}
open K3
structure WS (J : Addr) (K : PySem.W.Frag) (H : Hp) (sc d pc j : Addr) (ns : List Int) (as : List La) (cy : List (List Nat)) (b u : Addr) (vs : List V) (bs : List Bk) : Prop where
 dc : H d = some (.dK (as.map kyL))
 ac : AcAt H d as
 jo : JAt J H j b u vs
 bk : A2 (BkAt H) vs bs
 ok : BsOk as cy bs
 cc : H pc = some (.lst (cy.map L2.T))
 nT : NoT H
 sc_ : SqL K H sc (ns.map V.int) /\ ((∀ H', SqL K H' sc (ns.map V.int)) \/ sc ≠ b)
 ap : pc ≠ b /\ ∀ x ∈ as, x.ls ≠ b
 cl : ∀ c ∈ cy, c.length <= 250
section
variable {J : Addr} {H H' : Hp} {sc d pc j : Addr} {ns : List Int} {as : List La} {cy : List (List Nat)} {b u : Addr} {vs : List V} {bs : List Bk}
theorem JAt.same (h : JAt J H j b u vs) (s : Same H H') : JAt J H' j b u vs := h.keep (S := []) (Keep.same s) List.not_mem_nil List.not_mem_nil List.not_mem_nil
theorem WS.same (h : WS J K H sc d pc j ns as cy b u vs bs) (s : Same H H') (n : NoT H') : WS J K H' sc d pc j ns as cy b u vs bs :=
 ⟨s _ _ h.dc, h.ac.same s, h.jo.same s, mi s h.bk, h.ok, s _ _ h.cc, n, ⟨h.sc_.1.same s, h.sc_.2⟩, h.ap, h.cl⟩
theorem WS.jb (h : WS J K H sc d pc j ns as cy b u vs bs) (A8 : As8 as) (lc : cy.length = 3) : JB J H j b u vs bs :=
 ⟨h.jo, h.bk, h.ok.l1, h.ok.l2, fun t => Nat.lt_of_le_of_lt (h.ok.few A8.len lc) (by decide)⟩
theorem WS.put (h : WS J K H sc d pc j ns as cy b u vs bs) {t q : Addr} {rv : List V} {rs : List Row} {nt : List Nat} {day : Int} (k : Keep [b] H H') (n : NoT H') (hj : JAt J H' j b u (vs ++ [.ref q])) (ht : H' t = some (.tup rv)) (hr : A2 (RwAt H) rv rs) (hq : H' q = some (.tup [.int vs.length, .int day, L2.T nt, .ref t, .non])) (l1 : bs.length <= 19) (l2 : rs.length <= 40) (hin : ∀ r ∈ rs, r.pa ∈ as.map (·.pa) /\ r.cu ∈ cy) :
 WS J K H' sc d pc j ns as cy b u (vs ++ [.ref q]) (bs ++ [⟨vs.length, day, rs⟩]) := by
 have lb := h.jo.ls
 have lw := LW.one lb
 have nd : d ∉ [b] := lw.no h.dc (by intro _ z; cases z)
 refine ⟨k _ _ h.dc nd, ⟨.inl (k _ _ h.dc nd), fun x m => k _ _ (h.ac.ls x m) (by simpa using h.ap.2 x m)⟩, hj, (pE k lw h.bk).snoc ⟨q, t, rv, nt, rfl, hq, ht, dX k lw hr⟩, ⟨by rw [List.length_append]; show _ + 1 <= _; omega, fun z m => ?_, fun z m => ?_⟩, k _ _ h.cc (by simpa using h.ap.1), n, ⟨?_, h.sc_.2⟩, h.ap, h.cl⟩
 ·rcases List.mem_append.mp m with m | m
  ·exact h.ok.l2 z m
  ·rw [List.mem_singleton.mp m]; exact l2
 ·rcases List.mem_append.mp m with m | m
  ·exact h.ok.mem z m
  ·rw [List.mem_singleton.mp m]; exact hin
 ·rcases h.sc_.2 with z | z
  ·exact z _
  ·rcases h.sc_.1 with (e | ⟨o, e⟩) | e
   ·exact .inl (.inl (k _ _ e (by simpa using z)))
   ·exact .inl (.inr ⟨o, k _ _ e (by simpa using z)⟩)
   ·exact .inr e
theorem SeAt.keep {t : Addr} {m n : Int} {rs : List Row} {ls : List V} (h : SeAt H t m n rs) (k : Keep [b] H H') (e : H b = some (.lst ls)) : SeAt H' t m n rs := by
 obtain ⟨tr, ws, e1, e2, e3⟩ := h
 have lw := LW.one e
 exact ⟨tr, ws, k _ _ e1 (lw.no e1 (by intro _ z; cases z)), k _ _ e2 (lw.no e2 (by intro _ z; cases z)), dX k lw e3⟩
end
abbrev sgL (sc d ch pc j : Addr) (x5 x6 : Option V) (m : Int) (x8 x9 x10 : Option V) : St := [some (.ref sc), some (.ref d), some (.ref ch), some (.ref pc), some (.ref j), x5, x6, some (.int m), x8, x9, x10]
abbrev lst (m : Int) : Int := FD (m + 1) - 1
structure SO (bs : List Bk) (m : Int) (out : List Pt) : Prop where
 p : out.Perm ((dk (rsd (FD (m + 1) - 1) bs)).map (·.1))
 o : rm out
theorem SO.eq {bs : List Bk} {m : Int} {out out' : List Pt} (h : SO bs m out) (h' : SO bs m out') : out' = out := sy (h'.p.trans h.p.symm) h'.o h.o
theorem wq {t : Int} {bs : List Bk} {b : Bk} : mny t (bs ++ [b]) = mny t bs + if b.d <= t then 1 else 0 := by
 unfold mny
 rw [List.filter_append]
 by_cases h : b.d <= t
 ·rw [List.filter_cons_of_pos (by simpa using h), if_pos h, List.length_append]; rfl
 ·rw [List.filter_cons_of_neg (by simpa using h), if_neg h, List.filter_nil, List.append_nil, Int.add_zero]
theorem BY {bs : List Bk} {bk : Bk} {m : Int} {out out' : List Pt} (h : SO bs m out) (p : out'.Perm ((dk (rsd (FD (m + 1) - 1) (bs ++ [bk]))).map (·.1))) (o : rm out') :
 seB m (mny (FD (m + 1) - 1) (bs ++ [bk])) (res (rsd (FD (m + 1) - 1) (bs ++ [bk])) out') m (mny (FD (m + 1) - 1) bs) (res (rsd (FD (m + 1) - 1) bs) out) = decide (FD (m + 1) - 1 < bk.d) := by
 by_cases c : bk.d <= FD (m + 1) - 1
 ·rw [decide_eq_false (by omega)]
  unfold seB
  rw [wq, if_pos c, show (mny (FD (m + 1) - 1) bs + 1 == mny (FD (m + 1) - 1) bs) = false from beq_false_of_ne (by omega), Bool.false_and, Bool.and_false]
 ·rw [uY, if_neg c, List.append_nil] at p ⊢
  rw [wq, if_neg c, Int.add_zero, h.eq ⟨p, o⟩, mK, decide_eq_true (by omega)]
theorem xS (x y : V) : List.lookup (Str.ofString "put") [(Str.ofString "bookings", x), (Str.ofString "undoings", y)] = none := by rw [bn (by decide +kernel), bn (by decide +kernel)]; rfl
theorem p17 (T : Txt K mg a) {cdv : Value} {A : Around} {outer : List Env} {s : Shared} {H : Hp} {E : XK} (hr : Room 9 (A.deeper (PyProof.Rows.envOfC "law" (ad bE) s.heap.objs.size a.dq cdv))) : ∃ tz, PSs (cW (XE P w) P w K mg base ["_law_script", "_law_accounts_here", "_law_chart_here", "_law_currencies_here", "_law_journal", "_law_k", "_law_day_here", "_law_month_here", "_law_bookings", "_law_told", "_law_other"] "law" (ad bE) a.dq cdv A outer s H E) (List.drop 17 (av bE)) tz /\
 ∀ (D : cv) sc d ch pc j x5 x6 m x8 told oth ns as cy b u vs bs G, WS a.aR K G sc d pc j ns as cy b u vs bs -> As8 as -> cy.length = 3 -> (0 <= m /\ m <= 4799) -> (∀ H', D.rt (.bl true) H') ->
  tz D (sgL sc d ch pc j x5 x6 m x8 (some (.ref told)) (some (.ref oth))) G := by
 have sz := szl
 have ND := gh.nd
 have HU := aM hr
 have G__law_refused := oy (P := P) (w := w) (base := base) T
 have b__law_refused := oq T.gb
 have G__law_cell_at := bc (P := P) (w := w) (base := base) T
 have b__law_cell_at := ba T.aE
 have G__law_kept := tG (P := P) (w := w) (base := base) T
 have b__law_kept := sZ T.jH
 have G_seal := oN (P := P) (w := w) (base := base) T
 have b_seal := oO T.iF
 have G__law_due := iZ (P := P) (w := w) (base := base) T
 have b__law_due := i7 T.dL
 have G_Journal_every := eN (P := P) (w := w) (base := base) T
 have b_Journal_every := eI T.dv
 refine ⟨_, (ah (bF (bo (gM K HU) (al G_seal (hr.mono (by decide)) rfl T.sY T.iF.kp b_seal .nil aD (FA.pa (aa (fv 2) (aa (fv 4) (aa (fv 7) ae))))) (al G__law_due (hr.mono (by decide)) rfl T.k6 T.dL.kp b__law_due .nil aD (FA.pa (aa (dZ (fv 4) T.b9 T.eF G_Journal_every (hr.mono (by decide)) b_Journal_every .nil aD) (aa (fv 7) ae)))) (aY _)) (ai (aL jt)) aS)
  (ai (aL (cV (al G__law_refused (hr.mono (by decide)) rfl T.o8 T.gb.kp b__law_refused .nil aD (FA.pa (aa (fv 2) (aa (fv 4) (aa (al G__law_cell_at (hr.mono (by decide)) rfl T.aU T.aE.kp b__law_cell_at .nil aD (FA.pa (aa (fv 0) (aa af ae)))) ae))))) (df (al G__law_kept (hr.mono (by decide)) rfl T.vM T.jH.kp b__law_kept .nil aD (FA.pa (aa (fv 9) (aa (fv 10) ae))))))))), fun D sc d ch pc j x5 x6 m x8 told oth ns as cy b u vs bs G W A8 lcy m0 k => ?_⟩
 have em : amg (.int m) 0 4799 = true := by unfold amg; simp [m0.1, m0.2]
 have JJ := W.jb A8 lcy
 obtain ⟨dj, hj⟩ := W.jo.ob
 walk_at "rd"
 refine ⟨W.nT, itp em ⟨b, u, vs, bs, JJ.jo, JJ.bk, JJ.l1, JJ.l2, JJ.l3 _, fun out t H1 p1 o1 ht hS s1 N1 => ?_⟩⟩
 have W1 := W.same s1 N1
 refine ⟨dj, _, s1 _ _ hj, pX _ _, N1, b, u, vs, W1.jo, fun q hq => ?_⟩
 obtain ⟨G2, z2, s2, g2, N2⟩ := ck (HO.lst vs) hq N1 rfl
 rw [z2]
 have W2 := W1.same s2 N2
 refine ⟨N2, vs, bs, g2, W2.bk, JJ.l1, JJ.l2, JJ.l3 _, fun out' t' H3 p3 o3 ht3 hS3 s3 N3 => ?_⟩
 have W3 := W2.same s3 N3
 refine ⟨_, yS (hS.same (s2.trans s3)) hS3, ?_⟩
 obtain rfl := (SO.mk p1 o1).eq ⟨p3, o3⟩
 rw [mK]
 exact itn (by decide) ⟨ns, W3.sc_.1, N3, N3, k⟩
theorem p16 (T : Txt K mg a) {cdv : Value} {A : Around} {outer : List Env} {s : Shared} {H : Hp} {E : XK} (hr : Room 9 (A.deeper (PyProof.Rows.envOfC "law" (ad bE) s.heap.objs.size a.dq cdv))) : ∃ tz, PSs (cW (XE P w) P w K mg base ["_law_script", "_law_accounts_here", "_law_chart_here", "_law_currencies_here", "_law_journal", "_law_k", "_law_day_here", "_law_month_here", "_law_bookings", "_law_told", "_law_other"] "law" (ad bE) a.dq cdv A outer s H E) (List.drop 16 (av bE)) tz /\
 ∀ (D : cv) sc d ch pc j x5 m x8 told oth ns as cy b u vs bs bk out G, WS a.aR K G sc d pc j ns as cy b u vs (bs ++ [bk]) -> As8 as -> cy.length = 3 -> (0 <= m /\ m <= 4799) -> SO bs m out -> SeAt G told m (mny (FD (m + 1) - 1) bs) (res (rsd (FD (m + 1) - 1) bs) out) -> (∀ H', D.rt (.bl true) H') ->
  tz D (sgL sc d ch pc j x5 (some (.int bk.d)) m x8 (some (.ref told)) (some (.ref oth))) G := by
 have sz := szl
 have ND := gh.nd
 have HU := aM hr
 have G_holds := ww (P := P) (w := w) (base := base) T
 have b_holds := vZ T.ik
 have G__law_month_ends := dD (P := P) (w := w) (base := base) T
 have b__law_month_ends := dC T.bt
 obtain ⟨u17, hu17, k17⟩ := p17 (P := P) (w := w) (base := base) T (cdv := cdv) (A := A) (outer := outer) (s := s) (H := H) (E := E) hr
 refine ⟨_, (ah (bF (bo (gM K HU) (al G_holds (hr.mono (by decide)) rfl T.oM T.ik.kp b_holds .nil aD (FA.pa (aa (fv 2) (aa (fv 4) (aa (fv 9) ae))))) (d8 xW (fv 6) (aQ (aA K) (al G__law_month_ends (hr.mono (by decide)) rfl T.d7 T.bt.kp b__law_month_ends .nil aD (FA.pa (aa (fv 7) ae))) af (fun _ _ => rfl)) (aY _)) (aY _)) (ai (aL jt)) aS)
  hu17), fun D sc d ch pc j x5 m x8 told oth ns as cy b u vs bs bk out G W A8 lcy m0 so S k => ?_⟩
 walk_at "rd"
 refine ⟨W.nT, m, _, _, b, u, vs, _, S, m0, W.jb A8 lcy, fun out' p' o' => ?_⟩
 rw [BY so p' o']
 refine ⟨W.nT, fun q H1 s1 N1 hq => ⟨_, _, .inr (SqT.of hq), aB (j := 1) rfl, ?_⟩⟩
 walk_at "rd"
 exact k17 D sc d ch pc j x5 _ m x8 told oth ns as cy b u vs _ H1 (W.same s1 N1) A8 lcy m0 k
theorem p14 (T : Txt K mg a) {cdv : Value} {A : Around} {outer : List Env} {s : Shared} {H : Hp} {E : XK} (hr : Room 9 (A.deeper (PyProof.Rows.envOfC "law" (ad bE) s.heap.objs.size a.dq cdv))) : ∃ tz, PSs (cW (XE P w) P w K mg base ["_law_script", "_law_accounts_here", "_law_chart_here", "_law_currencies_here", "_law_journal", "_law_k", "_law_day_here", "_law_month_here", "_law_bookings", "_law_told", "_law_other"] "law" (ad bE) a.dq cdv A outer s H E) (List.drop 14 (av bE)) tz /\
 ∀ (D : cv) sc d ch pc j x5 x6 m x8 told oth ns as cy b u vs bs out G, WS a.aR K G sc d pc j ns as cy b u vs bs -> As8 as -> cy.length = 3 -> bs.length <= 12 -> (0 <= m /\ m <= 4799) -> SO bs m out -> SeAt G told m (mny (FD (m + 1) - 1) bs) (res (rsd (FD (m + 1) - 1) bs) out) -> (∀ H', D.rt (.bl true) H') ->
  tz D (sgL sc d ch pc j x5 x6 m x8 (some (.ref told)) (some (.ref oth))) G := by
 have sz := szl
 have ND := gh.nd
 have HU := aM hr
 have G__law_cell_at := bc (P := P) (w := w) (base := base) T
 have b__law_cell_at := ba T.aE
 have G_Journal_put := jB (P := P) (w := w) (base := base) T
 have b_Journal_put := jp T.gL
 have G__law_rows_by := iS (P := P) (w := w) (base := base) T
 have b__law_rows_by := iK T.cX
 have G__law_day := oa (P := P) (w := w) (base := base) T
 have b__law_day := nA T.fO
 obtain ⟨u16, hu16, k16⟩ := p16 (P := P) (w := w) (base := base) T (cdv := cdv) (A := A) (outer := outer) (s := s) (H := H) (E := E) hr
 refine ⟨_, (ah (aH (i := 6) ND rfl (Or.inl rfl) (al G__law_day (hr.mono (by decide)) rfl T.pz T.fO.kp b__law_day .nil aD (FA.pa (aa (fv 0) (aa af ae)))))
  (ah (cg (cK (fv 4) T.b9 T.i5 G_Journal_put (hr.mono (by decide)) b_Journal_put .nil aD (FA.pa (aa (fv 6) (aa (aK [109, 111, 114, 101]) (aa (al G__law_rows_by (hr.mono (by decide)) rfl T.jz T.cX.kp b__law_rows_by .nil aD (FA.pa (aa (al G__law_cell_at (hr.mono (by decide)) rfl T.aU T.aE.kp b__law_cell_at .nil aD (FA.pa (aa (fv 0) (aa af ae)))) (aa (fv 1) (aa (fv 6) (aa (fv 3) ae)))))) (aa eZ ae)))))))
  hu16)), fun D sc d ch pc j x5 x6 m x8 told oth ns as cy b u vs bs out G W A8 lcy lbs m0 so S k => ?_⟩
 obtain ⟨dj, hj⟩ := W.jo.ob
 have lv := W.bk.len
 walk_at "rd"
 refine ⟨ns, W.sc_.1, fun day d0 d1 => ⟨dj, _, hj, xS _ _, ns, W.sc_.1, W.nT, d0, as, cy, W.dc, W.ac, A8, W.cc, lcy, fun q rv rs H2 hq hq2 ar lrs hin s2 N2 => ?_⟩⟩
 have W2 := W.same s2 N2
 refine ⟨N2, b, u, vs, rv, W2.jo, by omega, hq2, fun t q1 H3 ht ht3 hq1 hq3 J3 k3 N3 => ?_⟩
 have W3 := W2.put k3 N3 J3 ht3 ar hq3 (by omega) (by omega) hin
 exact k16 D sc d ch pc j x5 m x8 told oth ns as cy b u _ bs _ out H3 W3 A8 lcy m0 so ((S.same s2).keep k3 W2.jo.ls) k
end
open PySem L2 K19 K22
section
variable {P : Program} {w : World} {K : PySem.W.Frag} {mg : Str -> Option Value} {base : Heap} {a : Adr}
open K3
theorem p11 (T : Txt K mg a) {cdv : Value} {A : Around} {outer : List Env} {s : Shared} {H : Hp} {E : XK} (hr : Room 9 (A.deeper (PyProof.Rows.envOfC "law" (ad bE) s.heap.objs.size a.dq cdv))) : ∃ tz, PSs (cW (XE P w) P w K mg base ["_law_script", "_law_accounts_here", "_law_chart_here", "_law_currencies_here", "_law_journal", "_law_k", "_law_day_here", "_law_month_here", "_law_bookings", "_law_told", "_law_other"] "law" (ad bE) a.dq cdv A outer s H E) (List.drop 11 (av bE)) tz /\
 ∀ (D : cv) sc d ch pc j x5 x6 m bk told oth ns as cy b u vs bs out m' n' rs' G, WS a.aR K G sc d pc j ns as cy b u vs bs -> As8 as -> cy.length = 3 -> bs.length <= 12 -> (0 <= m /\ m <= 4799) -> G bk = some (.lst vs) -> SO bs m out -> SeAt G told m (mny (FD (m + 1) - 1) bs) (res (rsd (FD (m + 1) - 1) bs) out) -> SeAt G oth m' n' rs' -> (0 <= m' /\ m' <= 4799) -> (∀ H', D.rt (.bl true) H') ->
  tz D (sgL sc d ch pc j x5 x6 m (some (.ref bk)) (some (.ref told)) (some (.ref oth))) G := by
 have sz := szl
 have ND := gh.nd
 have HU := aM hr
 have G__law_due := iZ (P := P) (w := w) (base := base) T
 have b__law_due := i7 T.dL
 have G_holds := ww (P := P) (w := w) (base := base) T
 have b_holds := vZ T.ik
 obtain ⟨u14, hu14, k14⟩ := p14 (P := P) (w := w) (base := base) T (cdv := cdv) (A := A) (outer := outer) (s := s) (H := H) (E := E) hr
 refine ⟨_, (ah (bF (nX (CL (al G_holds (hr.mono (by decide)) rfl T.oM T.ik.kp b_holds .nil aD (FA.pa (aa (fv 2) (aa (fv 4) (aa (fv 9) ae))))))) (ai (aL jt)) aS)
  (ah (bF (dI (cT (aJ (cN K) rfl T.a8 aW (FA.pa (aa (al G_holds (hr.mono (by decide)) rfl T.oM T.ik.kp b_holds .nil aD (FA.pa (aa (fv 2) (aa (fv 4) (aa (fv 10) ae))))) (aa (dt (v := .ty "bool") rfl T.wU tH rfl) ae)))))) (ai (aL jt)) aS)
  (ah (bF (bo (gM K HU) (al G_holds (hr.mono (by decide)) rfl T.oM T.ik.kp b_holds .nil aD (FA.pa (aa (fv 2) (aa (fv 4) (aa (fv 10) ae))))) (d8 (eA K HU) (al G__law_due (hr.mono (by decide)) rfl T.k6 T.dL.kp b__law_due .nil aD (FA.pa (aa (fv 8) (aa (aQ (aA K) (fv 10) af (fun _ _ => rfl)) ae)))) (fv 10) (aY _)) (aY _)) (ai (aL jt)) aS)
  hu14))), fun D sc d ch pc j x5 x6 m bk told oth ns as cy b u vs bs out m' n' rs' G W A8 lcy lbs m0 hbk so S S' m1 k => ?_⟩
 have JJ := W.jb A8 lcy
 obtain ⟨tr, ws, e1, e2, e3⟩ := id S'
 walk_at "rd"
 refine ⟨W.nT, m, _, _, b, u, vs, bs, S, m0, JJ, fun o1 p1 q1 => ?_⟩
 obtain rfl := so.eq ⟨p1, q1⟩
 rw [mK]
 refine itp rfl ⟨W.nT, m', n', rs', b, u, vs, bs, S', m1, JJ, fun _ _ _ => ⟨W.nT, m', n', rs', b, u, vs, bs, S', m1, JJ, fun o2 p2 q2 => ⟨_, _, .inr (SqT.of e1), aB (j := 0) rfl, W.nT, ?_⟩⟩⟩
 walk_at "rd"
 refine ⟨vs, bs, hbk, W.bk, JJ.l1, JJ.l2, JJ.l3 _, fun o4 t H1 p4 q4 ht hS s1 N1 => ⟨_, yS hS (S'.same s1), ?_⟩⟩
 obtain rfl := (SO.mk p2 q2).eq ⟨p4, q4⟩
 refine itp rfl ?_
 exact k14 D sc d ch pc j x5 x6 m _ told oth ns as cy b u vs bs _ H1 (W.same s1 N1) A8 lcy lbs m0 so (S.same s1) k
theorem p10 (T : Txt K mg a) {cdv : Value} {A : Around} {outer : List Env} {s : Shared} {H : Hp} {E : XK} (hr : Room 9 (A.deeper (PyProof.Rows.envOfC "law" (ad bE) s.heap.objs.size a.dq cdv))) : ∃ tz, PSs (cW (XE P w) P w K mg base ["_law_script", "_law_accounts_here", "_law_chart_here", "_law_currencies_here", "_law_journal", "_law_k", "_law_day_here", "_law_month_here", "_law_bookings", "_law_told", "_law_other"] "law" (ad bE) a.dq cdv A outer s H E) (List.drop 10 (av bE)) tz /\
 ∀ (D : cv) sc d ch pc j x5 x6 m bk told x10 ns as cy b u vs bs out G, WS a.aR K G sc d pc j ns as cy b u vs bs -> As8 as -> cy.length = 3 -> bs.length <= 12 -> (0 <= m /\ m <= 4799) -> G bk = some (.lst vs) -> SO bs m out -> SeAt G told m (mny (FD (m + 1) - 1) bs) (res (rsd (FD (m + 1) - 1) bs) out) -> (∀ H', D.rt (.bl true) H') ->
  tz D (sgL sc d ch pc j x5 x6 m (some (.ref bk)) (some (.ref told)) x10) G := by
 have sz := szl
 have ND := gh.nd
 have HU := aM hr
 have G__law_cell_at := bc (P := P) (w := w) (base := base) T
 have b__law_cell_at := ba T.aE
 have G__law_spoilt := oW (P := P) (w := w) (base := base) T
 have b__law_spoilt := qw T.gQ
 obtain ⟨u11, hu11, k11⟩ := p11 (P := P) (w := w) (base := base) T (cdv := cdv) (A := A) (outer := outer) (s := s) (H := H) (E := E) hr
 refine ⟨_, (ah (aH (i := 10) ND rfl (Or.inl rfl) (al G__law_spoilt (hr.mono (by decide)) rfl T.qY T.gQ.kp b__law_spoilt .nil aD (FA.pa (aa (fv 9) (aa (al G__law_cell_at (hr.mono (by decide)) rfl T.aU T.aE.kp b__law_cell_at .nil aD (FA.pa (aa (fv 0) (aa af ae)))) ae)))))
  hu11), fun D sc d ch pc j x5 x6 m bk told x10 ns as cy b u vs bs out G W A8 lcy lbs m0 hbk so S k => ?_⟩
 walk_at "rd"
 refine ⟨ns, W.sc_.1, W.nT, m, _, _, S, m0, ?_, fun r hr => ?_, fun t' m' n' rs' H1 S1 m1 s1 N1 => k11 D sc d ch pc j x5 x6 m bk told t' ns as cy b u vs bs out m' n' rs' H1 (W.same s1 N1) A8 lcy lbs m0 (s1 _ _ hbk) so (S.same s1) S1 m1 k⟩
 ·have h1 := oR (rsd (FD (m + 1) - 1) bs) out
  have h2 := so.p.length_eq
  have h3 := (W.jb A8 lcy).l3 (FD (m + 1) - 1)
  rw [List.length_map] at h2
  omega
 ·obtain ⟨x, mx, e⟩ := (yz (rsd (FD (m + 1) - 1) bs)).2.1 _ (so.p.mem_iff.mp (Dd hr).1)
  obtain ⟨h1, h2⟩ := W.ok.row x mx
  obtain ⟨e1, e2⟩ := Prod.mk.inj e
  rw [<- e1] at h1
  rw [<- e2] at h2
  obtain ⟨y, my, ey⟩ := List.mem_map.mp h1
  obtain ⟨i, hi, ei⟩ := List.mem_iff_getElem.mp my
  have := (A8.ok i y ((List.getElem?_eq_getElem hi).trans (congrArg some ei))).po.len
  exact ⟨by rw [<- ey]; omega, W.cl _ h2⟩
theorem p9 (T : Txt K mg a) {cdv : Value} {A : Around} {outer : List Env} {s : Shared} {H : Hp} {E : XK} (hr : Room 9 (A.deeper (PyProof.Rows.envOfC "law" (ad bE) s.heap.objs.size a.dq cdv))) : ∃ tz, PSs (cW (XE P w) P w K mg base ["_law_script", "_law_accounts_here", "_law_chart_here", "_law_currencies_here", "_law_journal", "_law_k", "_law_day_here", "_law_month_here", "_law_bookings", "_law_told", "_law_other"] "law" (ad bE) a.dq cdv A outer s H E) (List.drop 9 (av bE)) tz /\
 ∀ (D : cv) sc d ch pc j x5 x6 m bk told x10 ns as cy b u vs bs out G, WS a.aR K G sc d pc j ns as cy b u vs bs -> As8 as -> cy.length = 3 -> bs.length <= 12 -> (0 <= m /\ m <= 4799) -> G bk = some (.lst vs) -> SO bs m out -> SeAt G told m (mny (FD (m + 1) - 1) bs) (res (rsd (FD (m + 1) - 1) bs) out) -> (∀ H', D.rt (.bl true) H') ->
  tz D (sgL sc d ch pc j x5 x6 m (some (.ref bk)) (some (.ref told)) x10) G := by
 have sz := szl
 have ND := gh.nd
 have HU := aM hr
 have G__law_whole := qS (P := P) (w := w) (base := base) T
 have b__law_whole := qU T.d6
 obtain ⟨u10, hu10, k10⟩ := p10 (P := P) (w := w) (base := base) T (cdv := cdv) (A := A) (outer := outer) (s := s) (H := H) (E := E) hr
 refine ⟨_, (ah (bF (L2.PW.pt (pU (dI (cT (al G__law_whole (hr.mono (by decide)) rfl T.il T.d6.kp b__law_whole .nil aD (FA.pa (aa (aQ (aA K) (fv 9) af (fun _ _ => rfl)) ae))))) (pU (dI (cT (al G__law_whole (hr.mono (by decide)) rfl T.il T.d6.kp b__law_whole .nil aD (FA.pa (aa (aQ (aA K) (fv 9) af (fun _ _ => rfl)) ae))))) (pw (dI (cT (aJ (uE K rfl) rfl T.BJ xq (FA.pa (aa (c6 rfl (cl := _) (x := "_law_row") (xs := ["_law_row"]) (fr := []) (ks := []) (by exact ⟨rfl, by decide +kernel, rfl, by decide +kernel, rfl, dw rfl, rfl, a7 rfl, a7 (k := fun y => List.lookup y _) rfl, dA rfl⟩) rfl (xU K (aQ (aA K) (fv 9) af (fun _ _ => rfl))) (fun _ _ _ _ _ => (aO (i := 0) (ig (l := ["_law_row"]) (by decide)) rfl (Or.inl rfl))) (fun _ _ _ _ _ => iA) (fun _ _ _ _ _ => (al G__law_whole (hr.mono (by decide)) rfl T.il T.d6.kp b__law_whole .nil yR (FA.pa (aa (aQ (aA K) (fv 0) af (fun _ _ => rfl)) ae))))) ae))))))))) (ai (aL jt)) aS)
  hu10), fun D sc d ch pc j x5 x6 m bk told x10 ns as cy b u vs bs out G W A8 lcy lbs m0 hbk so S k => ?_⟩
 obtain ⟨tr, ws, e1, e2, e3⟩ := id S
 walk_at "rd"
 refine ⟨_, _, .inr (SqT.of e1), aB (j := 0) rfl, ?_⟩
 walk_at "rd"
 refine ⟨_, _, .inr (SqT.of e1), aB (j := 1) rfl, ?_⟩
 walk_at "rd"
 have lw : ws.length <= sizeLine := by
  have h1 := oR (rsd (FD (m + 1) - 1) bs) out
  have h2 := so.p.length_eq
  have h3 := (W.jb A8 lcy).l3 (FD (m + 1) - 1)
  rw [List.length_map] at h2
  rw [e3.len]; omega
 refine cmT tr ws (fun H2 => Same G H2) (fun D ys hD => aq _ hD) (fun H2 c => SqT.of (c _ _ e2)) (fun _ => true) (fun _ => .bl true) (fun R r => ?_) (SqT.of e2) lw (fun x _ H2 R _ r => r) (fun x hx _ H2 R cc r => ?_) (fun D1 hD => ?_)
 ·walk_at "rd"
  exact ⟨_, _, .inr (SqT.of e1), aB (j := 2) rfl, r⟩
 ·obtain ⟨rr, q, rfl, hq⟩ := Rws.of e3 x hx
  walk_at "rd"
  refine ⟨_, _, .inr (SqT.of (cc _ _ hq)), aB (j := 2) rfl, ?_⟩
  walk_at "rd"
  exact r
 ·walk_at "rd"
  have s1 := aq (HO.lst ((ws.filter fun _ => true).map fun _ => V.bl true)) hD
  refine ⟨(ws.filter fun _ => true).map fun _ => true, SqL.of (ag.trans (by rw [List.map_map]; rfl)), itn (by simp) (k10 D sc d ch pc j x5 x6 m bk told x10 ns as cy b u vs bs out _ (W.same s1 (az W.nT rfl)) A8 lcy lbs m0 (s1 _ _ hbk) so (S.same s1) k)⟩
theorem p8 (T : Txt K mg a) {cdv : Value} {A : Around} {outer : List Env} {s : Shared} {H : Hp} {E : XK} (hr : Room 9 (A.deeper (PyProof.Rows.envOfC "law" (ad bE) s.heap.objs.size a.dq cdv))) : ∃ tz, PSs (cW (XE P w) P w K mg base ["_law_script", "_law_accounts_here", "_law_chart_here", "_law_currencies_here", "_law_journal", "_law_k", "_law_day_here", "_law_month_here", "_law_bookings", "_law_told", "_law_other"] "law" (ad bE) a.dq cdv A outer s H E) (List.drop 8 (av bE)) tz /\
 ∀ (D : cv) sc d ch pc j x5 x6 m bk told x10 ns as cy b u vs bs out G, WS a.aR K G sc d pc j ns as cy b u vs bs -> As8 as -> cy.length = 3 -> bs.length <= 12 -> (0 <= m /\ m <= 4799) -> G bk = some (.lst vs) -> SO bs m out -> SeAt G told m (mny (FD (m + 1) - 1) bs) (res (rsd (FD (m + 1) - 1) bs) out) -> (∀ H', D.rt (.bl true) H') ->
  tz D (sgL sc d ch pc j x5 x6 m (some (.ref bk)) (some (.ref told)) x10) G := by
 have sz := szl
 have ND := gh.nd
 have HU := aM hr
 have G__law_due := iZ (P := P) (w := w) (base := base) T
 have b__law_due := i7 T.dL
 obtain ⟨u9, hu9, k9⟩ := p9 (P := P) (w := w) (base := base) T (cdv := cdv) (A := A) (outer := outer) (s := s) (H := H) (E := E) hr
 refine ⟨_, (ah (bF (L2.PW.pt (pU (dI (cT (aJ (cN K) rfl T.a8 aW (FA.pa (aa (fv 9) (aa (dt (v := .ty "tuple") rfl T.mD jq rfl) ae)))))) (pU (bo (gM K HU) (fv 9) (al G__law_due (hr.mono (by decide)) rfl T.k6 T.dL.kp b__law_due .nil aD (FA.pa (aa (fv 8) (aa (fv 7) ae)))) (aY _)) (pw (dI (cT (aJ (cN K) rfl T.a8 aW (FA.pa (aa (aQ (aA K) (fv 9) af (fun _ _ => rfl)) (aa (dt (v := .ty "tuple") rfl T.mD jq rfl) ae)))))))))) (ai (aL jt)) aS)
  hu9), fun D sc d ch pc j x5 x6 m bk told x10 ns as cy b u vs bs out G W A8 lcy lbs m0 hbk so S k => ?_⟩
 obtain ⟨tr, ws, e1, e2, e3⟩ := id S
 have kq : er G (.ref told) = some "tuple" := by simp [er, e1]
 walk_at "rd"
 simp only [kq]
 have JJ := W.jb A8 lcy
 refine itn (by decide) ⟨W.nT, vs, bs, hbk, W.bk, JJ.l1, JJ.l2, JJ.l3 _, fun o4 t H1 p4 q4 ht hS s1 N1 => ⟨_, yS (S.same s1) hS, ?_⟩⟩
 obtain rfl := so.eq ⟨p4, q4⟩
 rw [mK]
 refine itn (by decide) ⟨_, _, .inr (SqT.of (s1 _ _ e1)), aB (j := 2) rfl, ?_⟩
 have kr : er H1 (.ref tr) = some "tuple" := by simp [er, s1 _ _ e2]
 simp only [kr]
 exact itn (by decide) (k9 D sc d ch pc j x5 x6 m bk told x10 ns as cy b u vs bs _ H1 (W.same s1 N1) A8 lcy lbs m0 (s1 _ _ hbk) so (S.same s1) k)
end
open PySem L2 K19 K22
section
variable {P : Program} {w : World} {K : PySem.W.Frag} {mg : Str -> Option Value} {base : Heap} {a : Adr}
open K3
theorem p5 (T : Txt K mg a) {cdv : Value} {A : Around} {outer : List Env} {s : Shared} {H : Hp} {E : XK} (hr : Room 9 (A.deeper (PyProof.Rows.envOfC "law" (ad bE) s.heap.objs.size a.dq cdv))) : ∃ tz, PSs (cW (XE P w) P w K mg base ["_law_script", "_law_accounts_here", "_law_chart_here", "_law_currencies_here", "_law_journal", "_law_k", "_law_day_here", "_law_month_here", "_law_bookings", "_law_told", "_law_other"] "law" (ad bE) a.dq cdv A outer s H E) (List.drop 5 (av bE)) tz /\
 ∀ (D : cv) sc d ch pc j x5 x6 x7 x8 x9 x10 ns as cy b u vs bs G, WS a.aR K G sc d pc j ns as cy b u vs bs -> As8 as -> cy.length = 3 -> bs.length <= 12 -> (∀ H', D.rt (.bl true) H') ->
  tz D [some (.ref sc), some (.ref d), some (.ref ch), some (.ref pc), some (.ref j), x5, x6, x7, x8, x9, x10] G := by
 have sz := szl
 have ND := gh.nd
 have HU := aM hr
 have G__law_cell_at := bc (P := P) (w := w) (base := base) T
 have b__law_cell_at := ba T.aE
 have G_seal := oN (P := P) (w := w) (base := base) T
 have b_seal := oO T.iF
 have G_Journal_every := eN (P := P) (w := w) (base := base) T
 have b_Journal_every := eI T.dv
 have G__law_month := qM (P := P) (w := w) (base := base) T
 have b__law_month := rl T.iH
 have G__law_base := iq (P := P) (w := w) (base := base) T
 have b__law_base := io T.cO
 obtain ⟨u8, hu8, k8⟩ := p8 (P := P) (w := w) (base := base) T (cdv := cdv) (A := A) (outer := outer) (s := s) (H := H) (E := E) hr
 refine ⟨_, (ah (aH (i := 7) ND rfl (Or.inl rfl) (aJ (uB rfl) rfl T.xP tZ (FA.pa (aa af (aa (ak aI (ak dP (al G__law_month (hr.mono (by decide)) rfl T.sV T.iH.kp b__law_month .nil aD (FA.pa (aa (al G__law_base (hr.mono (by decide)) rfl T.jc T.cO.kp b__law_base .nil aD (FA.pa (aa (fv 0) ae))) ae))) af) (ak aV (al G__law_cell_at (hr.mono (by decide)) rfl T.aU T.aE.kp b__law_cell_at .nil aD (FA.pa (aa (fv 0) (aa af ae)))) af)) ae)))))
  (ah (aH (i := 8) ND rfl (Or.inl rfl) (dZ (fv 4) T.b9 T.eF G_Journal_every (hr.mono (by decide)) b_Journal_every .nil aD))
  (ah (aH (i := 9) ND rfl (Or.inl rfl) (al G_seal (hr.mono (by decide)) rfl T.sY T.iF.kp b_seal .nil aD (FA.pa (aa (fv 2) (aa (fv 4) (aa (fv 7) ae))))))
  hu8))), fun D sc d ch pc j x5 x6 x7 x8 x9 x10 ns as cy b u vs bs G W A8 lcy lbs k => ?_⟩
 obtain ⟨dj, hj⟩ := W.jo.ob
 walk_at "rd"
 refine ⟨ns, W.sc_.1, fun i i0 i1 => ⟨W.nT, ⟨by omega, by omega⟩, fun m H1 m0 m1 s1 N1 => ⟨ns, W.sc_.1.same s1, fun c => ?_⟩⟩⟩
 have W1 := W.same s1 N1
 have mb : 0 <= (if m - 1 + c % 6 > 0 then m - 1 + c % 6 else 0) /\ (if m - 1 + c % 6 > 0 then m - 1 + c % 6 else 0) <= 4799 := by
  have e : FD 4792 = 145852 := by decide
  have h : m <= 4791 := by
   by_cases z : m <= 4791
   ·exact z
   ·have := Cn (m := 4792) (n := m) (by omega)
    omega
  split <;> omega
 generalize (if m - 1 + c % 6 > 0 then m - 1 + c % 6 else 0) = mo at mb ⊢
 refine ⟨dj, _, s1 _ _ hj, pX _ _, N1, b, u, vs, W1.jo, fun q hq => ?_⟩
 obtain ⟨G2, z2, s2, g2, N2⟩ := ck (HO.lst vs) hq N1 rfl
 rw [z2]
 have W2 := W1.same s2 N2
 have JJ := W2.jb A8 lcy
 have em : amg (.int mo) 0 4799 = true := by unfold amg; simp [mb.1, mb.2]
 refine ⟨N2, itp em ⟨b, u, vs, bs, JJ.jo, JJ.bk, JJ.l1, JJ.l2, JJ.l3 _, fun out t H3 p3 o3 ht hS s3 N3 => ?_⟩⟩
 exact k8 D sc d ch pc j x5 x6 mo q t _ ns as cy b u vs bs out H3 (W2.same s3 N3) A8 lcy lbs mb (s3 _ _ g2) ⟨p3, o3⟩ hS k
theorem p4 (T : Txt K mg a) {cdv : Value} {A : Around} {outer : List Env} {s : Shared} {H : Hp} {E : XK} (hr : Room 9 (A.deeper (PyProof.Rows.envOfC "law" (ad bE) s.heap.objs.size a.dq cdv))) : ∃ tz, PSs (cW (XE P w) P w K mg base ["_law_script", "_law_accounts_here", "_law_chart_here", "_law_currencies_here", "_law_journal", "_law_k", "_law_day_here", "_law_month_here", "_law_bookings", "_law_told", "_law_other"] "law" (ad bE) a.dq cdv A outer s H E) (List.drop 4 (av bE)) tz /\
 ∀ (D : cv) sc d ch pc j ns as cy b u G, WS a.aR K G sc d pc j ns as cy b u [] [] -> As8 as -> cy.length = 3 -> (∀ H', D.rt (.bl true) H') ->
  tz D [some (.ref sc), some (.ref d), some (.ref ch), some (.ref pc), some (.ref j), none, none, none, none, none, none] G := by
 have sz := szl
 have ND := gh.nd
 have HU := aM hr
 have G__law_cell_at := bc (P := P) (w := w) (base := base) T
 have b__law_cell_at := ba T.aE
 have G_Journal_put := jB (P := P) (w := w) (base := base) T
 have b_Journal_put := jp T.gL
 have G__law_rows_by := iS (P := P) (w := w) (base := base) T
 have b__law_rows_by := iK T.cX
 have G__law_day := oa (P := P) (w := w) (base := base) T
 have b__law_day := nA T.fO
 obtain ⟨u5, hu5, k5⟩ := p5 (P := P) (w := w) (base := base) T (cdv := cdv) (A := A) (outer := outer) (s := s) (H := H) (E := E) hr
 refine ⟨_, (ah (e_ (by passes_own) rfl (g_ rfl T.jS (FA.pa (aa (ak aI af (ak aV (al G__law_cell_at (hr.mono (by decide)) rfl T.aU T.aE.kp b__law_cell_at .nil aD (FA.pa (aa (fv 0) (aa af ae)))) af)) ae))) (aO (i := 5) ND rfl (Or.inl rfl)) (ah (aH (i := 6) ND rfl (Or.inl rfl) (al G__law_day (hr.mono (by decide)) rfl T.pz T.fO.kp b__law_day .nil aD (FA.pa (aa (fv 0) (aa (ak aI af (fv 5)) ae)))))
  (ai (cg (cK (fv 4) T.b9 T.i5 G_Journal_put (hr.mono (by decide)) b_Journal_put .nil aD (FA.pa (aa (fv 6) (aa (aK []) (aa (al G__law_rows_by (hr.mono (by decide)) rfl T.jz T.cX.kp b__law_rows_by .nil aD (FA.pa (aa (al G__law_cell_at (hr.mono (by decide)) rfl T.aU T.aE.kp b__law_cell_at .nil aD (FA.pa (aa (fv 0) (aa (ak aI af (fv 5)) ae)))) (aa (fv 1) (aa (fv 6) (aa (fv 3) ae)))))) (aa eZ ae))))))))))
  hu5), fun D sc d ch pc j ns as cy b u G W A8 lcy k => jx ?_⟩
 walk_at "rd"
 refine ⟨ns, W.sc_.1, fun c => ⟨by omega, by omega, ?_⟩⟩
 refine g6 (lo := 0) (n := (1 + c % 10).toNat) (fun i σ' G' => ∃ vs bs x5 x6, WS a.aR K G' sc d pc j ns as cy b u vs bs /\ bs.length = i /\ σ' = [some (.ref sc), some (.ref d), some (.ref ch), some (.ref pc), some (.ref j), x5, x6, none, none, none, none]) ⟨[], [], _, _, W, rfl, rfl⟩ ?_ ?_
 ·rintro i σ' G' hi ⟨vs, bs, x5, x6, W1, lb, rfl⟩
  obtain ⟨dj, hj⟩ := W1.jo.ob
  have lv := W1.bk.len
  walk_at "rd"
  refine ⟨ns, W1.sc_.1, by omega, fun day d0 d1 => ⟨dj, _, hj, xS _ _, ns, W1.sc_.1, by omega, W1.nT, d0, as, cy, W1.dc, W1.ac, A8, W1.cc, lcy, fun q rv rs H2 hq hq2 ar lrs hin s2 N2 => ?_⟩⟩
  have W2 := W1.same s2 N2
  refine ⟨N2, b, u, vs, rv, W2.jo, by omega, hq2, fun t q1 H3 ht ht3 hq1 hq3 J3 k3 N3 => ?_⟩
  have W3 := W2.put k3 N3 J3 ht3 ar hq3 (by omega) (by omega) hin
  exact ⟨_, _, _, _, W3, by rw [List.length_append, lb]; rfl, rfl, rfl⟩
 ·rintro σ' G' ⟨vs, bs, x5, x6, W1, lb, rfl⟩
  exact k5 D sc d ch pc j _ _ _ _ _ _ ns as cy b u vs bs G' W1 A8 lcy (by omega) k
def sp_law (K : PySem.W.Frag) : Sp := sp1 fun x H Q _ => asR x fun p => NoT H /\ ∃ ns : List Int, SqL K H p (ns.map V.int) /\ ns.length <= 63 /\ ∀ H', Q (.bl true) H'
theorem Fk (T : Txt K mg a) : bd P w K mg base (XE P w) 10 a.dq a.BP ["_law_script"] (sp_law K) := by
 refine T.FO.okX gh (fun vs H Q E h => sp1.len h) (fun cdv A outer s H vs Q E hr h => ?_)
 obtain ⟨x0, rfl, h⟩ := sp1.inv h
 try dsimp only [sp_law, sp1] at h
 have ND := gh.nd
 have HU := aM hr
 obtain ⟨sc, rfl, hN, ns, hS, lns, k⟩ := asR.inv h
 have sz := szl
 have G__law_cell_at := bc (P := P) (w := w) (base := base) T
 have b__law_cell_at := ba T.aE
 have G_Journal___init__ := jY (P := P) (w := w) (base := base) T
 have b_Journal___init__ := j0 T.fW
 have G__law_currencies := fZ (P := P) (w := w) (base := base) T
 have b__law_currencies := gj T.b5
 have G__law_chart := rh (P := P) (w := w) (base := base) T
 have b__law_chart := qZ T.iw
 have G__law_accounts := nn (P := P) (w := w) (base := base) T
 have b__law_accounts := m_ T.fh
 obtain ⟨u4, hu4, k4⟩ := p4 (P := P) (w := w) (base := base) T (cdv := cdv) (A := A) (outer := outer) (s := s) (H := H) (E := E) hr
 refine ⟨_, (ah (aH (i := 1) ND rfl (Or.inl rfl) (al G__law_accounts (hr.mono (by decide)) rfl T.oF T.fh.kp b__law_accounts .nil aD (FA.pa (aa (fv 0) ae))))
  (ah (aH (i := 2) ND rfl (Or.inl rfl) (al G__law_chart (hr.mono (by decide)) rfl T.tO T.iw.kp b__law_chart .nil aD (FA.pa (aa (fv 1) ae))))
  (ah (aH (i := 3) ND rfl (Or.inl rfl) (al G__law_currencies (hr.mono (by decide)) rfl T.gG T.b5.kp b__law_currencies .nil aD (FA.pa (aa (al G__law_cell_at (hr.mono (by decide)) rfl T.aU T.aE.kp b__law_cell_at .nil aD (FA.pa (aa (fv 0) (aa af ae)))) ae))))
  (ah (aH (i := 4) ND rfl (Or.inl rfl) (jO T.wV G_Journal___init__ (hr.mono (by decide)) rfl T.zE b_Journal___init__ .nil aD))
  hu4)))), ?_⟩
 walk_at "rd"
 refine ⟨hN, ns, hS, fun d as H1 s1 N1 d0 hd AC A8 => ⟨N1, as, hd, AC, A8, fun ch cd cs H2 CH cb ch0 cd0 s2 N2 => ⟨ns, (hS.same s1).same s2, N2, fun pc H3 cy s3 N3 pc0 hpc lcy ccy j dj hj hdj ndj => ⟨az (az N3 rfl) rfl, dj, ag, fun b u H4 hb hu J4 kp N4 => ?_⟩⟩⟩⟩
 have s4 : Same H3 H4 := fun p o e => hV hj hdj kp p o e List.not_mem_nil
 have b0 : H3 b = none := eG hb
 have s24 := s3.trans s4
 have s14 := s2.trans s24
 refine k4 _ sc d ch pc j ns as cy b u H4 ⟨s14 _ _ hd, AC.same s14, J4, .nil, ⟨Nat.zero_le _, (fun _ m => nomatch m), fun _ m => nomatch m⟩, s4 _ _ hpc, N4, ⟨(hS.same s1).same s14, ?_⟩, ⟨au hpc b0, fun x m => au ((s2.trans s3) _ _ (AC.ls x m)) b0⟩, fun c m => by rw [(xE (ccy c m)).1]; decide⟩ A8 lcy k
 have sH := s1.trans (s2.trans s3)
 rcases hS with (h | ⟨o, h⟩) | h
 ·exact .inr (au (sH _ _ h) b0)
 ·exact .inr (au (sH _ _ h) b0)
 ·exact .inl fun _ => .inr h
theorem law_starts {K : PySem.W.Frag} {H : Hp} {p : Addr} {ns : List Int} (hO : zL H) (hS : SqL K H p (ns.map V.int)) (hl : ns.length <= 63) : sp_law K [.ref p] H (fun v _ => v = .bl true) (fun _ _ _ => False) := ⟨BH hO, ns, hS, hl, fun _ => rfl⟩
end
noncomputable abbrev fnQ (x q : String) (s : Stmt) (kV dc pm : Value) (an : Option Addr) (cd ct : Value) : FuncData := PySem.W.fnOf x q (aC s) (av s) (ad s) .none kV dc pm an cd ct
noncomputable def NFn (K : PySem.W.Frag) (x : Str) (st : Stmt) (f : Addr) : Prop := PySem.W.nsIn K mainGlobals x = some (some (.ref f)) /\ ∃ d, Fun K x x st f d
noncomputable def MFn (K : PySem.W.Frag) (C : Addr) (m q : Str) (st : Stmt) (f : Addr) : Prop := (PySem.W.findIn K (.ref C) m = some (some (.ref f)) /\ PySem.W.isFn K (.ref f) = true) /\ ∃ d, Fun K m q st f d
noncomputable abbrev Gh (x q : Str) (s : Stmt) (kV dc pm : Value) (an : Option Addr) (cd ct : Value) : FuncData := PySem.W.fnOf x q (aC s) (av s) (ad s) .none kV dc pm an cd ct
theorem nf_mk {K : PySem.W.Frag} {qual : Str} {st : Stmt} {f : Addr} {oc : Value} {od an : Option Addr} {osl : Array (Option Value)} {kV doc pm cdv ct : Value} (a : PySem.W.nsIn K mainGlobals qual = some (some (.ref f))) (l : K.lookup f = some ⟨oc, od, .func (Gh qual qual st kV doc pm an cdv ct), osl⟩) (c : PySem.W.codeIn K cdv qual = true) (k : PySem.W.keepIn K (.ref f) = true) : NFn K qual st f := ⟨a, _, wB l c k⟩
theorem mf_mk {K : PySem.W.Frag} {x qual : Str} {st : Stmt} {f C : Addr} {oc : Value} {od an : Option Addr} {osl : Array (Option Value)} {kV doc pm cdv ct : Value} (a : PySem.W.findIn K (.ref C) x = some (some (.ref f))) (i : PySem.W.isFn K (.ref f) = true) (l : K.lookup f = some ⟨oc, od, .func (Gh x qual st kV doc pm an cdv ct), osl⟩) (c : PySem.W.codeIn K cdv qual = true) (k : PySem.W.keepIn K (.ref f) = true) : MFn K C x qual st f := ⟨⟨a, i⟩, _, wB l c k⟩
open PySem.W in
theorem all_mk {l : OpenLaw} {w : World} {K : Frag} {h : Heap} {mg : Str -> Option Value} {fa : Addr} (X : K.In h) (G : h.Ns mainGlobals mg) (hfa : mg "law" = some (.ref fa))
 {C0 C1 C2 C3 C4 C5 C6 C7 C8 C9 C10 C11 C12 C13 C14 C15 C16 : Addr}
 {f0 f1 f2 f3 f4 f5 f6 f7 f8 f9 f10 f11 f12 f13 f14 f15 f16 f17 f18 f19 f20 f21 f22 f23 f24 f25 f26 f27 f28 f29 f30 f31 f32 f33 f34 f35 f36 f37 f38 f39 f40 f41 f42 f43 f44 f45 f46 f47 f48 f49 f50 f51 f52 f53 f54 f55 f56 f57 : Addr} {od an : Option Addr} {sl : Array (Option Value)} {oc kV dc pm cd ct : Value}
 {cl0 : ClassData}
 {cl3 : ClassData}
 {cl12 : ClassData}
 {D0 : Addr} {dd0 : Option Addr} {dsl0 : Array (Option Value)} {dn0 : Nat} {tl0 tl1 tl2 tl3 tl4 tl5 tl6 tl7 tl8 tl9 tl10 tl11 : Tok}
 {D1 : Addr} {dd1 : Option Addr} {dsl1 : Array (Option Value)} {dn1 : Nat} {tk0 tk1 tk2 tk3 tk4 : Tok}
 (p0 : nsIn K mainGlobals "HouseError" = some (some (.ref C0)))
 (p1 : nsIn K mainGlobals "BadName" = some (some (.ref C1)))
 (p2 : nsIn K mainGlobals "BadDay" = some (some (.ref C2)))
 (p3 : nsIn K mainGlobals "BadMonth" = some (some (.ref C3)))
 (p4 : nsIn K mainGlobals "BadCurrency" = some (some (.ref C4)))
 (p5 : nsIn K mainGlobals "BadPath" = some (some (.ref C5)))
 (p6 : nsIn K mainGlobals "BadKind" = some (some (.ref C6)))
 (p7 : nsIn K mainGlobals "NoAccount" = some (some (.ref C7)))
 (p8 : nsIn K mainGlobals "Twice" = some (some (.ref C8)))
 (p9 : nsIn K mainGlobals "NotOpen" = some (some (.ref C9)))
 (p10 : nsIn K mainGlobals "HasBelow" = some (some (.ref C10)))
 (p11 : nsIn K mainGlobals "NoBooking" = some (some (.ref C11)))
 (p12 : nsIn K mainGlobals "NotNext" = some (some (.ref C12)))
 (p13 : nsIn K mainGlobals "Seals" = some (some (.ref C13)))
 (p14 : nsIn K mainGlobals "Account" = some (some (.ref C14)))
 (p15 : nsIn K mainGlobals "Chart" = some (some (.ref C15)))
 (p16 : nsIn K mainGlobals "Journal" = some (some (.ref C16)))
 (l0 : NFn K "is_whole" dO f0)
 (l1 : NFn K "is_among" dU f1)
 (l2 : NFn K "signs_lie" cS f2)
 (l3 : NFn K "is_name" eE f3)
 (l4 : NFn K "is_day" gf f4)
 (l5 : NFn K "is_month" dQ f5)
 (l6 : NFn K "leap_days" cP f6)
 (l7 : NFn K "first_day" cZ f7)
 (l8 : NFn K "last_day" dJ f8)
 (l9 : NFn K "is_currency" b7 f9)
 (l10 : NFn K "sums_of" eL f10)
 (l11 : NFn K "are_names" cR f11)
 (l12 : NFn K "is_path" eM f12)
 (l13 : NFn K "names_of" dS f13)
 (l14 : NFn K "above" iD f14)
 (l15 : NFn K "rows_of" eO f15)
 (l16 : NFn K "bookings_up_to" bC f16)
 (l17 : NFn K "balances" dH f17)
 (l18 : NFn K "seal" kX f18)
 (l19 : NFn K "holds" iB f19)
 (l20 : NFn K "_law_cell_at" bS f20)
 (l21 : NFn K "_law_whole" cH f21)
 (l22 : NFn K "_law_names" cC f22)
 (l23 : NFn K "_law_currencies" bw f23)
 (l24 : NFn K "_law_start" cB f24)
 (l25 : NFn K "_law_lengths" bQ f25)
 (l26 : NFn K "_law_month_ends" br f26)
 (l27 : NFn K "_law_month" cE f27)
 (l28 : NFn K "_law_base" c5 f28)
 (l29 : NFn K "_law_day" dN f29)
 (l30 : NFn K "_law_accounts" aP f30)
 (l31 : NFn K "_law_chart" bM f31)
 (l32 : NFn K "_law_is_open" bN f32)
 (l33 : NFn K "_law_rows_by" bR f33)
 (l34 : NFn K "_law_balances" bJ f34)
 (l35 : NFn K "_law_refused" bP f35)
 (l36 : NFn K "_law_due" dF f36)
 (l37 : NFn K "_law_spoilt" aN f37)
 (l38 : NFn K "_law_kept" a6 f38)
 (a39 : nsIn K mainGlobals "law" = some (some (.ref f39))) (l39 : K.lookup f39 = some ⟨oc, od, .func (fnQ "law" "law" bE kV dc pm an cd ct), sl⟩) (c39 : codeIn K cd "law" = true) (k39 : keepIn K (.ref f39) = true)
 (l40 : MFn K C13 "__init__" "Seals.__init__" bD f40)
 (l41 : MFn K C13 "put" "Seals.put" c8 f41)
 (l42 : MFn K C13 "every" "Seals.every" ce f42)
 (l43 : MFn K C14 "__init__" "Account.__init__" bq f43)
 (l44 : MFn K C14 "stands_on" "Account.stands_on" bg f44)
 (l45 : MFn K C14 "stands_later" "Account.stands_later" aX f45)
 (l46 : MFn K C15 "__init__" "Chart.__init__" bB f46)
 (l47 : MFn K C15 "add_top" "Chart.add_top" bK f47)
 (l48 : MFn K C15 "add" "Chart.add" bW f48)
 (l49 : MFn K C15 "shut" "Chart.shut" cw f49)
 (l50 : MFn K C15 "has" "Chart.has" cU f50)
 (l51 : MFn K C15 "account" "Chart.account" bL f51)
 (l52 : MFn K C15 "beneath" "Chart.beneath" cL f52)
 (l53 : MFn K C16 "__init__" "Journal.__init__" bp f53)
 (l54 : MFn K C16 "put" "Journal.put" b_ f54)
 (l55 : MFn K C16 "many" "Journal.many" cY f55)
 (l56 : MFn K C16 "booking" "Journal.booking" b6 f56)
 (l57 : MFn K C16 "every" "Journal.every" bI f57)
 (pg13 : plainGet K C13 Str.empty = true) (hd13 : hasDictIn K C13 = true) (po13 : plainOver K C13 = true) (sa13 : findIn K (.ref C13) "__setattr__" = some (some (.builtin "object.__setattr__"))) (mk13 : makesIn K C13 = true) (kc13 : keepIn K (.ref C13) = true)
 (na13_0 : findIn K (.ref C13) "told_seals" = some none)
 (pg14 : plainGet K C14 Str.empty = true) (hd14 : hasDictIn K C14 = true) (po14 : plainOver K C14 = true) (sa14 : findIn K (.ref C14) "__setattr__" = some (some (.builtin "object.__setattr__"))) (mk14 : makesIn K C14 = true) (kc14 : keepIn K (.ref C14) = true)
 (na14_0 : findIn K (.ref C14) "kind" = some none)
 (na14_1 : findIn K (.ref C14) "currency" = some none)
 (na14_2 : findIn K (.ref C14) "first" = some none)
 (na14_3 : findIn K (.ref C14) "until" = some none)
 (na14_4 : findIn K (.ref C14) "below" = some none)
 (pg15 : plainGet K C15 Str.empty = true) (hd15 : hasDictIn K C15 = true) (po15 : plainOver K C15 = true) (sa15 : findIn K (.ref C15) "__setattr__" = some (some (.builtin "object.__setattr__"))) (mk15 : makesIn K C15 = true) (kc15 : keepIn K (.ref C15) = true)
 (na15_0 : findIn K (.ref C15) "by_path" = some none)
 (pg16 : plainGet K C16 Str.empty = true) (hd16 : hasDictIn K C16 = true) (po16 : plainOver K C16 = true) (sa16 : findIn K (.ref C16) "__setattr__" = some (some (.builtin "object.__setattr__"))) (mk16 : makesIn K C16 = true) (kc16 : keepIn K (.ref C16) = true)
 (na16_0 : findIn K (.ref C16) "bookings" = some none)
 (na16_1 : findIn K (.ref C16) "undoings" = some none)
 (o0 : clsIn K C0 = some cl0) (r0 : typeIn K (.ref C0) = some (.type "type")) (b0 : mroIn K C0 (.type "BaseException") = some true)
 (o3 : clsIn K C3 = some cl3) (r3 : typeIn K (.ref C3) = some (.type "type")) (b3 : mroIn K C3 (.type "BaseException") = some true)
 (o12 : clsIn K C12 = some cl12) (r12 : typeIn K (.ref C12) = some (.type "type")) (b12 : mroIn K C12 (.type "BaseException") = some true)
 (g3 : mroIn K C3 (.type "object") = some true) (v3 : mroIn K C3 (.type "ValueError") = some true) (u3 : findIn K (.ref C3) "__getattribute__" = some (some (.builtin "BaseException.__getattribute__"))) (w3 : findIn K (.ref C3) "__getattr__" = some none) (y3 : findIn K (.ref C3) "__class__" = some (some (.builtin "object.__class__")))
 (s3_0 : mroIn K C3 (.ref C0) = some true)
 (s3_3 : mroIn K C3 (.ref C3) = some true)
 (s3_12 : mroIn K C3 (.ref C12) = some false)
 (d0 : nsIn K mainGlobals "LENGTHS" = some (some (.ref D0))) (e0 : K.lookup D0 = some ⟨.type "tuple", dd0, .seq #[.int 31 tl0, .int 28 tl1, .int 31 tl2, .int 30 tl3, .int 31 tl4, .int 30 tl5, .int 31 tl6, .int 31 tl7, .int 30 tl8, .int 31 tl9, .int 30 tl10, .int 31 tl11] dn0, dsl0⟩)
 (d1 : nsIn K mainGlobals "KINDS" = some (some (.ref D1))) (e1 : K.lookup D1 = some ⟨.type "tuple", dd1, .seq #[.str ⟨#[104, 97, 118, 101]⟩ tk0, .str ⟨#[111, 119, 101]⟩ tk1, .str ⟨#[111, 119, 110]⟩ tk2, .str ⟨#[103, 97, 105, 110]⟩ tk3, .str ⟨#[99, 111, 115, 116]⟩ tk4] dn1, dsl1⟩)
 (z0 : nsIn K mainGlobals "ValueError" = some none)
 (z1 : nsIn K mainGlobals "all" = some none)
 (z2 : nsIn K mainGlobals "any" = some none)
 (z3 : nsIn K mainGlobals "bool" = some none)
 (z4 : nsIn K mainGlobals "enumerate" = some none)
 (z5 : nsIn K mainGlobals "int" = some none)
 (z6 : nsIn K mainGlobals "isinstance" = some none)
 (z7 : nsIn K mainGlobals "len" = some none)
 (z8 : nsIn K mainGlobals "list" = some none)
 (z9 : nsIn K mainGlobals "max" = some none)
 (z10 : nsIn K mainGlobals "min" = some none)
 (z11 : nsIn K mainGlobals "range" = some none)
 (z12 : nsIn K mainGlobals "sorted" = some none)
 (z13 : nsIn K mainGlobals "str" = some none)
 (z14 : nsIn K mainGlobals "sum" = some none)
 (z15 : nsIn K mainGlobals "tuple" = some none)
 (q4 : excIn K C4 [.type "ValueError", .type "Exception", .type "BaseException", .type "object"] "ValueError.__new__" = true)
 (q2 : excIn K C2 [.type "ValueError", .type "Exception", .type "BaseException", .type "object"] "ValueError.__new__" = true)
 (q6 : excIn K C6 [.type "ValueError", .type "Exception", .type "BaseException", .type "object"] "ValueError.__new__" = true)
 (q3 : excIn K C3 [.type "ValueError", .type "Exception", .type "BaseException", .type "object"] "ValueError.__new__" = true)
 (q1 : excIn K C1 [.type "ValueError", .type "Exception", .type "BaseException", .type "object"] "ValueError.__new__" = true)
 (q5 : excIn K C5 [.type "ValueError", .type "Exception", .type "BaseException", .type "object"] "ValueError.__new__" = true)
 (q10 : excIn K C10 [.type "ValueError", .type "Exception", .type "BaseException", .type "object"] "ValueError.__new__" = true)
 (q7 : excIn K C7 [.type "ValueError", .type "Exception", .type "BaseException", .type "object"] "ValueError.__new__" = true)
 (q11 : excIn K C11 [.type "ValueError", .type "Exception", .type "BaseException", .type "object"] "ValueError.__new__" = true)
 (q9 : excIn K C9 [.type "ValueError", .type "Exception", .type "BaseException", .type "object"] "ValueError.__new__" = true)
 (q8 : excIn K C8 [.type "ValueError", .type "Exception", .type "BaseException", .type "object"] "ValueError.__new__" = true)
 : ∃ fd : FuncData, (∀ (s : Shared) (v : Value), BindsTo s fd ⟨[v], []⟩ [("_law_script", v)]) /\ ∀ base : Heap, K.In base -> base.Ns mainGlobals mg -> bd l.prog w K mg base (XE l.prog w) 10 fa fd ["_law_script"] (sp_law K) := by
  have e := hfa.symm.trans (mg_of X G a39)
  cases e
  have T : Txt K mg ⟨f0, l0.2.choose, f1, l1.2.choose, f2, l2.2.choose, f3, l3.2.choose, f4, l4.2.choose, f5, l5.2.choose, f6, l6.2.choose, f7, l7.2.choose, f8, l8.2.choose, f9, l9.2.choose, f10, l10.2.choose, f11, l11.2.choose, f12, l12.2.choose, f13, l13.2.choose, f14, l14.2.choose, f15, l15.2.choose, f16, l16.2.choose, f17, l17.2.choose, f18, l18.2.choose, f19, l19.2.choose, f20, l20.2.choose, f21, l21.2.choose, f22, l22.2.choose, f23, l23.2.choose, f24, l24.2.choose, f25, l25.2.choose, f26, l26.2.choose, f27, l27.2.choose, f28, l28.2.choose, f29, l29.2.choose, f30, l30.2.choose, f31, l31.2.choose, f32, l32.2.choose, f33, l33.2.choose, f34, l34.2.choose, f35, l35.2.choose, f36, l36.2.choose, f37, l37.2.choose, f38, l38.2.choose, fa, fnQ "law" "law" bE kV dc pm an cd ct, f40, l40.2.choose, f41, l41.2.choose, f42, l42.2.choose, f43, l43.2.choose, f44, l44.2.choose, f45, l45.2.choose, f46, l46.2.choose, f47, l47.2.choose, f48, l48.2.choose, f49, l49.2.choose, f50, l50.2.choose, f51, l51.2.choose, f52, l52.2.choose, f53, l53.2.choose, f54, l54.2.choose, f55, l55.2.choose, f56, l56.2.choose, f57, l57.2.choose, C0, C1, C2, C3, C4, C5, C6, C7, C8, C9, C10, C11, C12, C13, C14, C15, C16, D0, D1⟩ := ⟨l0.2.choose_spec, mg_of X G l0.1, l1.2.choose_spec, mg_of X G l1.1, l2.2.choose_spec, mg_of X G l2.1, l3.2.choose_spec, mg_of X G l3.1, l4.2.choose_spec, mg_of X G l4.1, l5.2.choose_spec, mg_of X G l5.1, l6.2.choose_spec, mg_of X G l6.1, l7.2.choose_spec, mg_of X G l7.1, l8.2.choose_spec, mg_of X G l8.1, l9.2.choose_spec, mg_of X G l9.1, l10.2.choose_spec, mg_of X G l10.1, l11.2.choose_spec, mg_of X G l11.1, l12.2.choose_spec, mg_of X G l12.1, l13.2.choose_spec, mg_of X G l13.1, l14.2.choose_spec, mg_of X G l14.1, l15.2.choose_spec, mg_of X G l15.1, l16.2.choose_spec, mg_of X G l16.1, l17.2.choose_spec, mg_of X G l17.1, l18.2.choose_spec, mg_of X G l18.1, l19.2.choose_spec, mg_of X G l19.1, l20.2.choose_spec, mg_of X G l20.1, l21.2.choose_spec, mg_of X G l21.1, l22.2.choose_spec, mg_of X G l22.1, l23.2.choose_spec, mg_of X G l23.1, l24.2.choose_spec, mg_of X G l24.1, l25.2.choose_spec, mg_of X G l25.1, l26.2.choose_spec, mg_of X G l26.1, l27.2.choose_spec, mg_of X G l27.1, l28.2.choose_spec, mg_of X G l28.1, l29.2.choose_spec, mg_of X G l29.1, l30.2.choose_spec, mg_of X G l30.1, l31.2.choose_spec, mg_of X G l31.1, l32.2.choose_spec, mg_of X G l32.1, l33.2.choose_spec, mg_of X G l33.1, l34.2.choose_spec, mg_of X G l34.1, l35.2.choose_spec, mg_of X G l35.1, l36.2.choose_spec, mg_of X G l36.1, l37.2.choose_spec, mg_of X G l37.1, l38.2.choose_spec, mg_of X G l38.1, wB (st := bE) l39 c39 k39, mg_of X G a39, l40.2.choose_spec, ⟨l40.1.1, l40.1.2, l40.2.choose_spec.kp⟩, l41.2.choose_spec, ⟨l41.1.1, l41.1.2, l41.2.choose_spec.kp⟩, l42.2.choose_spec, ⟨l42.1.1, l42.1.2, l42.2.choose_spec.kp⟩, l43.2.choose_spec, ⟨l43.1.1, l43.1.2, l43.2.choose_spec.kp⟩, l44.2.choose_spec, ⟨l44.1.1, l44.1.2, l44.2.choose_spec.kp⟩, l45.2.choose_spec, ⟨l45.1.1, l45.1.2, l45.2.choose_spec.kp⟩, l46.2.choose_spec, ⟨l46.1.1, l46.1.2, l46.2.choose_spec.kp⟩, l47.2.choose_spec, ⟨l47.1.1, l47.1.2, l47.2.choose_spec.kp⟩, l48.2.choose_spec, ⟨l48.1.1, l48.1.2, l48.2.choose_spec.kp⟩, l49.2.choose_spec, ⟨l49.1.1, l49.1.2, l49.2.choose_spec.kp⟩, l50.2.choose_spec, ⟨l50.1.1, l50.1.2, l50.2.choose_spec.kp⟩, l51.2.choose_spec, ⟨l51.1.1, l51.1.2, l51.2.choose_spec.kp⟩, l52.2.choose_spec, ⟨l52.1.1, l52.1.2, l52.2.choose_spec.kp⟩, l53.2.choose_spec, ⟨l53.1.1, l53.1.2, l53.2.choose_spec.kp⟩, l54.2.choose_spec, ⟨l54.1.1, l54.1.2, l54.2.choose_spec.kp⟩, l55.2.choose_spec, ⟨l55.1.1, l55.1.2, l55.2.choose_spec.kp⟩, l56.2.choose_spec, ⟨l56.1.1, l56.1.2, l56.2.choose_spec.kp⟩, l57.2.choose_spec, ⟨l57.1.1, l57.1.2, l57.2.choose_spec.kp⟩, mg_of X G p0, mg_of X G p1, mg_of X G p2, mg_of X G p3, mg_of X G p4, mg_of X G p5, mg_of X G p6, mg_of X G p7, mg_of X G p8, mg_of X G p9, mg_of X G p10, mg_of X G p11, mg_of X G p12, mg_of X G p13, mg_of X G p14, mg_of X G p15, mg_of X G p16, ⟨pg13, hd13, po13, sa13⟩, na13_0, ⟨mk13, l40.1.1, l40.1.2, kc13⟩, ⟨pg14, hd14, po14, sa14⟩, na14_0, na14_1, na14_2, na14_3, na14_4, ⟨mk14, l43.1.1, l43.1.2, kc14⟩, ⟨pg15, hd15, po15, sa15⟩, na15_0, ⟨mk15, l46.1.1, l46.1.2, kc15⟩, ⟨pg16, hd16, po16, sa16⟩, na16_0, na16_1, ⟨mk16, l53.1.1, l53.1.2, kc16⟩, q4, q2, q6, q3, ⟨u3, w3, y3, (by rw [o3]; rfl), g3, b3⟩, zA o0 r0 b0 s3_0, sq o3 r3 s3_3 s3_3, sq o12 r12 s3_3 s3_12, zo v3, q1, q5, q10, q7, q11, q9, q8, mg_of X G d0, ⟨_, _, _, e0, rfl, rfl, (by show 12 <= sizeLine; decide), (.cons ⟨_, rfl⟩ (.cons ⟨_, rfl⟩ (.cons ⟨_, rfl⟩ (.cons ⟨_, rfl⟩ (.cons ⟨_, rfl⟩ (.cons ⟨_, rfl⟩ (.cons ⟨_, rfl⟩ (.cons ⟨_, rfl⟩ (.cons ⟨_, rfl⟩ (.cons ⟨_, rfl⟩ (.cons ⟨_, rfl⟩ (.cons ⟨_, rfl⟩ .nil))))))))))))⟩, mg_of X G d1, ⟨_, _, _, e1, rfl, rfl, (by show 5 <= sizeLine; decide), (.cons ⟨_, rfl⟩ (.cons ⟨_, rfl⟩ (.cons ⟨_, rfl⟩ (.cons ⟨_, rfl⟩ (.cons ⟨_, rfl⟩ .nil)))))⟩, mg_none_of X G z0, mg_none_of X G z1, mg_none_of X G z2, mg_none_of X G z3, mg_none_of X G z4, mg_none_of X G z5, mg_none_of X G z6, mg_none_of X G z7, mg_none_of X G z8, mg_none_of X G z9, mg_none_of X G z10, mg_none_of X G z11, mg_none_of X G z12, mg_none_of X G z13, mg_none_of X G z14, mg_none_of X G z15⟩
  exact ⟨fnQ "law" "law" bE kV dc pm an cd ct, fun s v => .of_eq rfl, fun base _ _ => Fk T⟩
end K21
open PySem PySem.W PyProof.Rows
set_option maxRecDepth 100000 in
set_option maxHeartbeats 0 in
theorem PySem.Challenge.cw_evenhall_k21_seals_holds : PySem.Challenge.rw_evenhall_k21_seals.Holds := by
 w_on
 refine PySem.W.holds_law K21.ws fun said => ?_
 refine PySem.W.holds_open (q := K21.vw) (loose := []) (Xt := fun s => PySem.W.xlAt K21.vw [] s && PySem.W.recOk (PySem.W.RowW.records (PySem.W.OpenRow.toRowW (PySem.W.OpenLaw.row PySem.Challenge.rw_evenhall_k21_seals))) s) (XP := PySem.W.XL K21.vw []) (Yf := PySem.W.Hook.obs (PySem.W.kHook K21.frag K21.adrs K21.adrs_eq)) (Ya := PySem.W.Hook.val (PySem.W.kHook K21.frag K21.adrs K21.adrs_eq)) (YP := PySem.W.Hook.says (PySem.W.kHook K21.frag K21.adrs K21.adrs_eq)) (N := 12112) K21.left (PySem.W.Hook.of (PySem.W.kHook K21.frag K21.adrs K21.adrs_eq)) (PySem.W.Hook.keeps (PySem.W.kHook K21.frag K21.adrs K21.adrs_eq))
  (fun s e => PySem.W.xl_of s (Bool.and_eq_true_iff.mp e).1) PySem.W.XL.keeps (by rfl) (by rfl) (by rfl) (fun s e => PySem.W.recFacts_of (Bool.and_eq_true_iff.mp e).2) (by rfl) (by assumption) (by decide +kernel) ⟨rfl, rfl, rfl, rfl, rfl, by decide +kernel⟩ ?hw ?hc
 (case hw => w_witness2)
 k_fill
 refine L2.AQ (l := PySem.Challenge.rw_evenhall_k21_seals) (n := 63) (k := 10) (x := "_law_script") (sp := K21.sp_law) rfl (by decide) rfl ⟨rfl, by decide, by decide⟩ (fun w h Y => PySem.W.kIn_of Y) ?F ?S
 case F =>
  intro w mg fa h KX G hmg
  refine' K21.all_mk KX G hmg ?_ ?_ ?_ ?_ ?_ ?_ ?_ ?_ ?_ ?_ ?_ ?_ ?_ ?_ ?_ ?_ ?_ ?_ ?_ ?_ ?_ ?_ ?_ ?_ ?_ ?_ ?_ ?_ ?_ ?_ ?_ ?_ ?_ ?_ ?_ ?_ ?_ ?_ ?_ ?_ ?_ ?_ ?_ ?_ ?_ ?_ ?_ ?_ ?_ ?_ ?_ ?_ ?_ ?_ ?_ ?_ ?_ ?_ ?_ ?_ ?_ ?_ ?_ ?_ ?_ ?_ ?_ ?_ ?_ ?_ ?_ ?_ ?_ ?_ ?_ ?_ ?_ ?_ ?_ ?_ ?_ ?_ ?_ ?_ ?_ ?_ ?_ ?_ ?_ ?_ ?_ ?_ ?_ ?_ ?_ ?_ ?_ ?_ ?_ ?_ ?_ ?_ ?_ ?_ ?_ ?_ ?_ ?_ ?_ ?_ ?_ ?_ ?_ ?_ ?_ ?_ ?_ ?_ ?_ ?_ ?_ ?_ ?_ ?_ ?_ ?_ ?_ ?_ ?_ ?_ ?_ ?_ ?_ ?_ ?_ ?_ ?_ ?_ ?_ ?_ ?_ ?_ ?_ ?_ ?_ ?_ ?_ ?_ ?_ ?_ ?_ ?_ ?_ ?_ ?_ ?_ ?_ ?_ ?_
  all_goals try first | k_is | k_exc | refine' K21.nf_mk ?_ ?_ ?_ ?_ | refine' K21.mf_mk ?_ ?_ ?_ ?_ ?_
  all_goals try first | k_is | k_exc
  all_goals try first | k_is | k_exc
 case S => exact fun K H a ns hl hO hS => K21.law_starts hO hS hl
