import PyProof.Rows.All
import KE.KUnpack
import PyProof.DictTruth
import PyProof.DictWalks
import PyProof.Rows.SortKeyStr
import KE.KItem
import KE.KTupSum
import KE.KEqDict
import KE.KFromBytes
import KE.KIntText
import KE.KRevIter
import KE.KDictOf
import KE.LcSums
import KE.KDictSum
import KE.KTryMore
import OpenK.KLine
import OpenK.KOwn
import Wide.Line
import Wide.FinOn
import Lean
import PySem.Challenge.RW_evenhall_k25_budgets_kept
set_option Elab.async false
set_option linter.all false
set_option maxRecDepth 100000
open And renaming intro -> zA
open Array renaming length_toList -> Z4, perm_iff_toList_perm -> Yw
open Bool renaming false_ne_true -> xC, false_eq_true -> Zh, and_eq_true -> ZO, and_false -> YH, true_and -> YC
open False renaming elim -> ZV
open Int renaming eq_ofNat_of_zero_le -> fZ, toNat_natCast -> Zi, emod_nonneg -> Ys, emod_lt_of_pos -> Yb, toNat -> YT, le_refl -> Y8
open List renaming length_map -> zl, size_toArray -> zj, mem_singleton -> zY, mem_cons -> ve, replicate -> vd, length_append -> uf, mem_cons_of_mem -> ue, map_cons -> ud, map_map -> uY, mem_append -> uO, range -> uF, not_mem_nil -> uD, all_eq_true -> u9, length_cons -> ql, mem_of_getElem? -> qh, map_append -> qc, take_of_length_le -> oF, mem_append_right -> Zu, mem_cons_self -> Zt, map_congr_left -> Zs, mem_map -> Zp, lookup -> Zk, replicate_succ -> Zj, drop -> Zg, length_take -> Zf, filter_eq_self -> ZU, length_filter_le -> ZS, getElem_mem -> ZP, mem_map_of_mem -> ZL, length_singleton -> ZH, length_replicate -> ZG, sum_cons -> ZD, mem_of_mem_take -> ZB, flatten_cons -> Z0, mem_filter -> Z3, cons_append -> Z9, pairwise_cons -> Yy, pairwise_iff_getElem -> Yu, nodup_cons -> Yt, all_map -> Yq, take_succ -> Yk, take_length -> Yj, length -> Yh, filter_append -> Yc, drop_of_length_le -> YY, filter_map -> YW, append_nil -> YV, map_take -> YO, mem_range -> YI, mem_append_left -> YG, length_drop -> YE, length_nil -> Y2, all_append -> Y3
open Nat renaming le_refl -> zR, ne_of_lt -> uZ, lt_of_lt_of_le -> uW, le_trans -> sC, zero_le -> Zb, lt_irrefl -> ZR, min_eq_left -> ZJ, le_succ -> ZC, min_eq_right -> Z8, le_succ_of_le -> YM
open Option renaming map_eq_some_iff -> ZW, isSome_map -> ZA
open Option.some renaming inj -> Zm
open PyProof.Rows renaming callWith_type1 -> ZN
open PySem renaming wpAny_bind -> zu, wpAny_pure -> wG, mainGlobals -> uy, sizeLine_eq -> uT, wpAny_mono -> Zr, bootBuiltins -> Zq, compareOp -> Zo, wpAny_truthy_bool -> Zl, wpAny_call_entry -> ZX, mem_of_lookup -> ZM, wpAny_field -> ZK, wpAny_Call_Name_kw -> ZF, wpAny_holding -> Z5, attributeBase -> Z6, ClassData -> Z7, sliceBounds -> Yr, wpAny_newObj_type -> Yp, foldedSetIterable -> Yo, sysModules -> Yn, assignEach -> Ym, wpAny_getItem_str_slice -> Yi, call_meets -> Yg, wpAny_setField_rec -> Yd, behindInMarks -> YS, wpAny_passesOwn -> Y0, letOwnedTupleGo -> Y1, tupleKind_room_in1 -> Y4
open PySem.AutoSeq1 renaming wpAny_loadPart' -> YA
open PySem.Builtin.List renaming listTooLong -> Yl
open PySem.Builtin.SmallTypes renaming nextOf -> ZI
open PySem.Builtin.Str renaming strSliceIndices -> YL
open PySem.Calls renaming callWith_builtin -> YX, evalArgs_plain -> YF, call_function_entry -> YD, spliced_cons -> Y7
open PySem.Data renaming fields -> Y9
open PySem.F renaming excBase_ValueError -> nV, plainAttrs_list -> nO, type_list_append -> Ze, slot_list_append -> Zd, slot_tuple_iterator_next -> Yx, plainAttrs_str -> YZ, slot_enumerate_next -> YN, args_tuple_add_2 -> YB, entry_tuple_add -> Xz
open PySem.Heap renaming lt_size -> xw, SameBut -> ZQ
open PySem.Obj renaming mapSeq -> Zc, isFreed_of_fields -> Yv, data_mapFields -> Y6
open PySem.Str renaming ofString -> sV, length -> YK
open PySem.Value renaming ref -> xL, none -> Zn, type -> Ye, int -> YU
open PySem.W renaming kitOne -> rT, findIn -> Za, exmOne -> ZZ, kia_one -> ZY, emptyDict -> ZT, fnOf -> ZE, instObj -> Z2, keepIn -> Yz, mroIn -> YR, kHook -> YQ, codeIn -> YJ, callWith_K -> Y5
open True renaming intro -> Z1
namespace L2
theorem Zv {n k c : Nat} (h : n + 100 < c) (d : k <= 100 := by decide) : n + k < c := Nat.lt_of_le_of_lt (Nat.add_le_add_left d _) h
open PySem
noncomputable def eT (s : Stmt) (j : Nat) : Stmt := match s with
 | .ClassDef _ _ _ body _ _ _ _ _ _ _ => body.getD j (.Pass ⟨0, 0, 0, 0⟩)
 | _ => .Pass ⟨0, 0, 0, 0⟩
noncomputable def aM (s : Stmt) : Arguments := match s with
 | .FunctionDef _ a _ _ _ _ _ _ _ _ => a
 | _ => { posonlyargs := [], args := [], vararg := none, kwonlyargs := [], kw_defaults := [], kwarg := none, defaults := [] }
noncomputable def aw (s : Stmt) : List Stmt := match s with
 | .FunctionDef _ _ b _ _ _ _ _ _ _ => b
 | _ => []
noncomputable def af (s : Stmt) : Scope := match s with
 | .FunctionDef _ _ _ _ _ _ sc _ _ _ => sc
 | _ => { kind := .function, names := [], isGenerator := false, isCoroutine := false }
end L2
namespace K25
open PySem L2
noncomputable def top (i : Nat) : Stmt := PySem.Challenge.pw_evenhall_k25_budgets_kept.main.body.getD i (.Pass ⟨0, 0, 0, 0⟩)
noncomputable abbrev dt : Stmt := top 16
noncomputable abbrev dq : Stmt := top 17
noncomputable abbrev cV : Stmt := top 18
noncomputable abbrev dZ : Stmt := top 19
noncomputable abbrev dv : Stmt := top 21
noncomputable abbrev c8 : Stmt := top 23
noncomputable abbrev cr : Stmt := top 24
noncomputable abbrev cZ : Stmt := top 26
noncomputable abbrev d7 : Stmt := top 27
noncomputable abbrev cv : Stmt := top 29
noncomputable abbrev fR : Stmt := top 30
noncomputable abbrev cH : Stmt := top 32
noncomputable abbrev bR : Stmt := top 36
noncomputable abbrev cD : Stmt := top 37
noncomputable abbrev cB : Stmt := top 38
noncomputable abbrev cK : Stmt := top 39
noncomputable abbrev bL : Stmt := top 40
noncomputable abbrev bW : Stmt := top 41
noncomputable abbrev cL : Stmt := top 42
noncomputable abbrev bv : Stmt := top 43
noncomputable abbrev bB : Stmt := top 44
noncomputable abbrev cA : Stmt := top 45
noncomputable abbrev bE : Stmt := top 46
noncomputable abbrev bP : Stmt := top 47
noncomputable abbrev bY : Stmt := top 48
noncomputable abbrev cE : Stmt := top 49
noncomputable abbrev bU : Stmt := top 50
noncomputable abbrev bQ : Stmt := top 51
noncomputable abbrev cg : Stmt := top 52
noncomputable abbrev bb : Stmt := top 53
noncomputable abbrev bC : Stmt := top 54
noncomputable abbrev bS : Stmt := top 55
noncomputable abbrev bF : Stmt := top 56
noncomputable abbrev bd : Stmt := top 57
noncomputable abbrev dD : Stmt := top 58
noncomputable abbrev bx : Stmt := eT (top 33) 0
noncomputable abbrev bj : Stmt := eT (top 34) 0
noncomputable abbrev cq : Stmt := eT (top 34) 1
noncomputable abbrev bD : Stmt := eT (top 34) 2
noncomputable abbrev bV : Stmt := eT (top 34) 3
noncomputable abbrev bK : Stmt := eT (top 34) 4
noncomputable abbrev bM : Stmt := eT (top 34) 5
noncomputable abbrev br : Stmt := eT (top 34) 6
noncomputable abbrev be : Stmt := eT (top 34) 7
end K25
namespace TR
open PySem PySem.W
def go (p : Program) (w : World) (lo : Nat) (an : Option Value) : Nat -> SharedT -> Thread -> Option SharedT
 | 0, _, _ => none
 | k + 1, x, th => match through th with
  | true => some x
  | false => match stepOk lo an th with
   | false => none
   | true => match stepT (denote treeTable) p w x th with
    | none => none
    | some y => go p w lo an k y.1 y.2
theorem sW {p : Program} {w : World} {lo : Nat} {an : Option Value} (k : Nat) : ∀ {x y : SharedT} {th : Thread}, go p w lo an k x th = some y -> topRun treeTable p w lo an k x.abs th = some y.abs := by
 induction k with
 | zero => intro x y th e; cases e
 | succ k ih =>
  intro x y th e
  unfold go at e
  unfold topRun
  revert e
  cases through th with
  | true => intro e; cases e; rfl
  | false =>
   cases stepOk lo an th with
   | false => intro e; cases e
   | true =>
    dsimp only
    cases z : stepT (denote treeTable) p w x th with
    | none => intro e; cases e
    | some v =>
     intro e
     obtain ⟨v1, v2⟩ := v
     rw [stepT_spec z]
     exact ih e
noncomputable def lookB (p : Program) (b : Heap) (s : Shared) : Bool := staticsOk (importedModules p.main.body) b s.heap && namesBound p s.heap && gensDone s && laidKept b s.heap
noncomputable def look (p : Program) (P : Params) (s : Shared) : Bool := lookB p (boot_heap P) s
theorem left {p q : Program} {ls : List Str} {Xt : Shared -> Bool} {β : Type} {Yf : Shared -> β} {Ya : World -> β} {N lo : Nat} {an : Option Value} {tr : Params -> BT}
 (ho : ∀ w : World, (fencedOpening treeTable p w N).map (fun s => (s.heap, s.gens, s.drawn, s.toks)) = some (boot_heap w.params, Array.mk [], boot_drawn, boot_toks))
 (hz : ∀ P : Params, ((boot_heap P).isNs uy, (boot_heap P).objs.size, (boot_heap P).nsMap uy "__annotations__") = (true, lo, an))
 (ht : ∀ P : Params, absHeap (tr P) lo (boot_heap P).life = boot_heap P)
 (hr : ∀ w : World, (fun os => (go p w lo an N ⟨tr w.params, lo, (boot_heap w.params).life, Array.mk [], boot_drawn, boot_toks, os⟩ (topStub p)).map fun x => (look p w.params x.abs, openSeen q ls (importedModules p.main.body) Xt true x.abs, Yf x.abs)) = fun _ => some (true, openGood q ls, Ya w)) :
 LeftO p q ls Xt Yf Ya N := by
 intro w
 obtain ⟨⟨h, g, d, k, os⟩, e1, e2⟩ := ZW.mp (ho w)
 simp only [Prod.mk.injEq] at e2
 obtain ⟨rfl, rfl, rfl, rfl⟩ := e2
 have z := hz w.params
 simp only [Prod.mk.injEq] at z
 obtain ⟨z1, z2, z3⟩ := z
 obtain ⟨x, r1, r2⟩ := ZW.mp (congrFun (hr w) os)
 simp only [Prod.mk.injEq] at r2
 obtain ⟨l1, l2, l3⟩ := r2
 have t := sW _ r1
 have ab : SharedT.abs ⟨tr w.params, lo, (boot_heap w.params).life, Array.mk [], boot_drawn, boot_toks, os⟩ = ⟨boot_heap w.params, Array.mk [], boot_drawn, boot_toks, os⟩ := by
  show Shared.mk (absHeap (tr w.params) lo (boot_heap w.params).life) _ _ _ _ = _
  rw [ht]
 rw [ab] at t
 have f : topFrom treeTable p w N ⟨boot_heap w.params, Array.mk [], boot_drawn, boot_toks, os⟩ = some x.abs := by
  unfold topFrom
  dsimp only
  rw [z1, z2, z3, t]
  show (match look p w.params x.abs with | true => some x.abs | false => none) = _
  rw [l1]
 unfold openEnds
 rw [e1]
 show (topFrom treeTable p w N _).map _ = _
 rw [f]
 show some (_, _) = _
 rw [l2, l3]
theorem three {α β γ δ : Type} {o : Option α} {f : α -> β} {g : α -> γ} {h : α -> δ} {a : β} {b : γ} {c : δ} (e1 : o.map f = some a) (e2 : o.map g = some b) (e3 : o.map h = some c) : o.map (fun x => (f x, g x, h x)) = some (a, b, c) := by
 cases o with
 | none => cases e1
 | some x => cases e1; cases e2; cases e3; rfl
end TR
namespace K25
open PySem L2
abbrev kS (s : String) : Str := sV s
abbrev kR (a : Addr) : Value := .ref a
abbrev kY (s : String) : Value := .type s
abbrev kB (s : String) : Value := .builtin s
abbrev kZ (s : Str) (t : Tok) : Value := .str s t
abbrev kN : Value := .none
abbrev kD (h : Int) (k v : Value) : DictEntry := ⟨h, k, v⟩
abbrev kO (c : Value) (d : Option Addr) (t : Data) (s : Array (Option Value)) : Obj := ⟨c, d, t, s⟩
abbrev keyHash := PyData.keyHash
abbrev kE (P : Params) (s : String) (t : Tok) (v : Value) : DictEntry := ⟨keyHash P (kS s), kZ (kS s) t, v⟩
abbrev kI (i : Int) (t : Tok) : Value := .int i t
abbrev kz (s : String) (t : Tok) : Value := kZ (kS s) t
abbrev kC (t : Tok) : Value := kz "/claim/cut.py" t
abbrev kT (x : Array Value) : Obj := kO (kY "tuple") none (.seq x 0) #[]
abbrev kU : Value := .bool true
noncomputable abbrev q0 (a : String) (b : Nat) (c : String) (d : Nat) (e : Nat) (f : Int) (g : Int) (h : Nat) (i : Nat) (j : Nat) (k : Nat) (l : Nat) (m : Int) (n : Nat) : Obj := (kO (kY "code") none (Y9 #[(kz a b), (kz c d), (kC e), (kI f 0), (kI g 0), (kI 0 0), (kI 0 0), (kI 3 0), (kR h), kU, (kI 181 0), (kR i), kN, (kR j), (kR k), (kR l), (kI m 0), (kI f 0), (kC n)]) #[])
noncomputable abbrev q1 (a : String) (b : Nat) (c : Nat) (d : Int) (e : Nat) (f : Nat) (g : Nat) : Obj := (kO (kY "function") none (Data.func (FuncData.mk (kS "small_words") (kS a) (Arguments.mk [] [(Arg.mk (kS "self") none (Pos.mk b 20 b 24))] none [] [] none []) (FuncBody.stmts [(Stmt.Expr (Expr.Call (Expr.Name (kS "_wall") (Pos.mk c 8 c 13)) [(Expr.Constant (Const.int d) 0 (Pos.mk c 14 c e))] [] (Pos.mk c 8 c f)) (Pos.mk c 8 c f))]) (Scope.mk ScopeKind.function [((kS "self"), NameKind.local), ((kS "_wall"), NameKind.globalImplicit)] false false []) 3 [] kN kN kN (kz "evenhall.errors" 194) none (kR g) kN 0)) #[])
noncomputable abbrev q2 (a : String) (b : Nat) (c : Nat) (d : Nat) (e : Nat) (f : Nat) : Obj := (kO (kY "type") none (Data.cls (Z7.mk (kS a) [(kR 31)] [(kR b), (kR 31), (kY "ValueError"), (kY "Exception"), (kY "BaseException"), (kY "object")] c (kS a) true [] [] false none false)) #[(some (kR d)), none, (some (kz a e)), (some (kz a f)), (some (kB "ValueError.__new__")), (some kU)])
noncomputable abbrev q3 (P : Params) (a : Nat) (b : Nat) (c : Int) (d : Nat) (e : String) (f : Nat) (g : Nat) (h : String) (i : Nat) (j : Nat) (k : Nat) (l : Nat) : Obj := (kO (kY "dict") none (Data.dict #[(kE P "__module__" a (kz "evenhall.errors" 194)), (kE P "__firstlineno__" b (kI c d)), (kE P e f (kR g)), (kE P h i (kR j)), (kE P "__doc__" k kN)] l) #[])
noncomputable abbrev q4 (a : String) (b : Nat) (c : Nat) (d : Nat) (e : Int) (f : Int) (g : Nat) (h : Nat) (i : Nat) (j : Int) (k : Nat) : Obj := (kO (kY "code") none (Y9 #[(kz a b), (kz a c), (kC d), (kI e 0), (kI f 0), (kI 0 0), (kI 0 0), (kI 3 0), (kR g), kU, (kI 181 0), (kR h), kN, kN, kN, (kR i), (kI j 0), (kI e 0), (kC k)]) #[])
noncomputable abbrev q5 (a : String) (b : Nat) (c : Nat) (d : Nat) (e : Nat) : Obj := (kO (kY "type") none (Data.cls (Z7.mk (kS a) [(kY "object")] [(kR b), (kY "object")] c (kS a) true [] [] false none false)) #[none, none, (some (kz a d)), (some (kz a e)), (some (kB "object.__new__")), (some kU)])
noncomputable abbrev q6 (a : Nat) (b : Nat) : Obj := (kO (kY "getset_descriptor") none (Y9 #[(kz "__weakref__" a), (kR b), (kB "ExceptionGroup.__weakref__"), kN]) #[])
noncomputable abbrev q7 (a : Nat) (b : Nat) : Obj := (kO (kY "getset_descriptor") none (Y9 #[(kz "__dict__" a), (kR b), (kB "function.__dict__"), (kB "function.__dict__#set")]) #[])
noncomputable abbrev Zz (a b : String) (s : Stmt) (m : String) (n r : Nat) : Obj := (kO (kY "function") none (Data.func (ZE (kS a) (kS b) (aM s) (aw s) (af s) kN kN kN (kz m n) none (kR r) kN)) #[])
noncomputable abbrev Zy (a b : String) (s : Stmt) (r : Nat) : Obj := Zz a b s "evenhall.words" 490 r
noncomputable abbrev Zx (a b : String) (s : Stmt) (r : Nat) : Obj := Zz a b s "evenhall.budgets" 575 r
noncomputable abbrev Zw (a b : String) (s : Stmt) (r : Nat) : Obj := Zz a b s "law_evenhall_k25_budgets_kept" 710 r
set_option maxRecDepth 100000 in
noncomputable def frag (P : Params) : W.Frag :=
(nat_lit 2, (kO kN none (Data.dict #[] 0) #[]))::
(nat_lit 3, (kO (kY "dict") none (Data.dict #[(kE P "__name__" 165 (kz "law_evenhall_k25_budgets_kept" 710)), (kE P "__doc__" 166 kN), (kE P "__package__" 167 kN), (kE P "__loader__" 168 (kB "__main__.__loader__#opaque")), (kE P "__spec__" 169 kN), (kE P "__annotations__" 170 (kR 6)), (kE P "__builtins__" 171 (kR 4)), (kE P "__file__" 173 (kC 172)), (kE P "__cached__" 174 kN), (kE P "_wall" 193 (kR 21)), (kE P "HouseError" 213 (kR 31)), (kE P "BadName" 236 (kR 51)), (kE P "BadDay" 259 (kR 70)), (kE P "BadMonth" 282 (kR 89)), (kE P "BadCount" 305 (kR 108)), (kE P "BadAmount" 328 (kR 127)), (kE P "BadCurrency" 351 (kR 146)), (kE P "BadShare" 374 (kR 165)), (kE P "BadPath" 397 (kR 184)), (kE P "NoAccount" 420 (kR 203)), (kE P "Twice" 443 (kR 222)), (kE P "NoBudget" 466 (kR 241)), (kE P "NoOrder" 489 (kR 260)), (kE P "is_whole" 498 (kR 269)), (kE P "is_among" 507 (kR 276)), (kE P "signs_lie" 513 (kR 281)), (kE P "is_name" 520 (kR 288)), (kE P "is_month" 529 (kR 295)), (kE P "is_amount" 538 (kR 302)), (kE P "is_currency" 545 (kR 309)), (kE P "are_names" 553 (kR 314)), (kE P "is_path" 560 (kR 321)), (kE P "are_weights" 568 (kR 326)), (kE P "shared" 574 (kR 331)), (kE P "are_months" 584 (kR 338)), (kE P "Budget" 616 (kR 355)), (kE P "Budgets" 709 (kR 425)), (kE P "_law_cell_at" 719 (kR 436)), (kE P "_law_mixed" 727 (kR 443)), (kE P "_law_whole" 734 (kR 450)), (kE P "_law_names" 740 (kR 455)), (kE P "_law_currency" 748 (kR 462)), (kE P "_law_weights" 759 (kR 469)), (kE P "_law_total" 766 (kR 476)), (kE P "_law_terms" 780 (kR 483)), (kE P "_law_odd" 794 (kR 490)), (kE P "_law_word" 800 (kR 495)), (kE P "_law_spoilt" 815 (kR 502)), (kE P "_law_put" 826 (kR 509)), (kE P "_law_refusal" 836 (kR 516)), (kE P "_law_month" 845 (kR 523)), (kE P "_law_is_none" 855 (kR 530)), (kE P "_law_answers" 867 (kR 537)), (kE P "_law_told" 888 (kR 544)), (kE P "_law_names_told" 899 (kR 551)), (kE P "_law_all_names" 908 (kR 558)), (kE P "_law_word_of" 918 (kR 565)), (kE P "_law_mended" 929 (kR 572)), (kE P "_law_done" 943 (kR 579)), (kE P "law" 949 (kR 584))] 60) #[]))::
(nat_lit 15, (kT #[]))::
(nat_lit 17, (kT #[(kz "k" 190)]))::
(nat_lit 18, (kT #[]))::
(nat_lit 20, (q0 "_wall" 187 "_wall" 188 189 1 1 15 16 17 18 19 191 192))::
(nat_lit 21, (kO (kY "function") none (Data.func (FuncData.mk (kS "_wall") (kS "_wall") (Arguments.mk [] [(Arg.mk (kS "k") none (Pos.mk 1 10 1 11))] none [] [] none []) (FuncBody.stmts [(Stmt.While (Expr.Constant (Const.bool true) 0 (Pos.mk 2 10 2 14)) [(Stmt.Pass (Pos.mk 3 8 3 12))] [] (Pos.mk 2 4 3 12))]) (Scope.mk ScopeKind.function [((kS "k"), NameKind.local)] false false []) 3 [] kN kN kN (kz "__main__" 164) none (kR 20) kN 0)) #[]))::
(nat_lit 22, (kT #[(kY "ValueError")]))::
(nat_lit 29, (kT #[]))::
(nat_lit 30, (q3 P 203 207 5 206 "__static_attributes__" 208 29 "__weakref__" 210 32 211 3))::
(nat_lit 31, (kO (kY "type") none (Data.cls (Z7.mk (kS "HouseError") [(kY "ValueError")] [(kR 31), (kY "ValueError"), (kY "Exception"), (kY "BaseException"), (kY "object")] 30 (kS "HouseError") true [] [(kR 51), (kR 70), (kR 89), (kR 108), (kR 127), (kR 146), (kR 165), (kR 184), (kR 203), (kR 222), (kR 241), (kR 260)] false none false)) #[(some (kR 22)), none, (some (kz "HouseError" 196)), (some (kz "HouseError" 204)), (some (kB "ValueError.__new__")), (some kU)]))::
(nat_lit 32, (q6 209 31))::
(nat_lit 35, (kT #[(kR 31)]))::
(nat_lit 42, (kT #[]))::
(nat_lit 44, (kT #[(kz "self" 229)]))::
(nat_lit 45, (kT #[]))::
(nat_lit 47, (q0 "small_words" 226 "BadName.small_words" 227 228 9 1 42 43 44 45 46 230 231))::
(nat_lit 48, (q1 "BadName.small_words" 9 10 0 15 16 47))::
(nat_lit 49, (kT #[]))::
(nat_lit 50, (q3 P 221 225 7 224 "small_words" 232 48 "__static_attributes__" 233 49 234 2))::
(nat_lit 51, (q2 "BadName" 51 50 35 214 222))::
(nat_lit 54, (kT #[(kR 31)]))::
(nat_lit 61, (kT #[]))::
(nat_lit 63, (kT #[(kz "self" 252)]))::
(nat_lit 64, (kT #[]))::
(nat_lit 66, (q0 "small_words" 249 "BadDay.small_words" 250 251 13 1 61 62 63 64 65 253 254))::
(nat_lit 67, (q1 "BadDay.small_words" 13 14 1 15 16 66))::
(nat_lit 68, (kT #[]))::
(nat_lit 69, (q3 P 244 248 11 247 "small_words" 255 67 "__static_attributes__" 256 68 257 2))::
(nat_lit 70, (q2 "BadDay" 70 69 54 237 245))::
(nat_lit 73, (kT #[(kR 31)]))::
(nat_lit 80, (kT #[]))::
(nat_lit 82, (kT #[(kz "self" 275)]))::
(nat_lit 83, (kT #[]))::
(nat_lit 85, (q0 "small_words" 272 "BadMonth.small_words" 273 274 17 1 80 81 82 83 84 276 277))::
(nat_lit 86, (q1 "BadMonth.small_words" 17 18 2 15 16 85))::
(nat_lit 87, (kT #[]))::
(nat_lit 88, (q3 P 267 271 15 270 "small_words" 278 86 "__static_attributes__" 279 87 280 2))::
(nat_lit 89, (q2 "BadMonth" 89 88 73 260 268))::
(nat_lit 92, (kT #[(kR 31)]))::
(nat_lit 99, (kT #[]))::
(nat_lit 101, (kT #[(kz "self" 298)]))::
(nat_lit 102, (kT #[]))::
(nat_lit 104, (q0 "small_words" 295 "BadCount.small_words" 296 297 21 1 99 100 101 102 103 299 300))::
(nat_lit 105, (q1 "BadCount.small_words" 21 22 3 15 16 104))::
(nat_lit 106, (kT #[]))::
(nat_lit 107, (q3 P 290 294 19 293 "small_words" 301 105 "__static_attributes__" 302 106 303 2))::
(nat_lit 108, (q2 "BadCount" 108 107 92 283 291))::
(nat_lit 111, (kT #[(kR 31)]))::
(nat_lit 118, (kT #[]))::
(nat_lit 120, (kT #[(kz "self" 321)]))::
(nat_lit 121, (kT #[]))::
(nat_lit 123, (q0 "small_words" 318 "BadAmount.small_words" 319 320 25 1 118 119 120 121 122 322 323))::
(nat_lit 124, (q1 "BadAmount.small_words" 25 26 4 15 16 123))::
(nat_lit 125, (kT #[]))::
(nat_lit 126, (q3 P 313 317 23 316 "small_words" 324 124 "__static_attributes__" 325 125 326 2))::
(nat_lit 127, (q2 "BadAmount" 127 126 111 306 314))::
(nat_lit 130, (kT #[(kR 31)]))::
(nat_lit 137, (kT #[]))::
(nat_lit 139, (kT #[(kz "self" 344)]))::
(nat_lit 140, (kT #[]))::
(nat_lit 142, (q0 "small_words" 341 "BadCurrency.small_words" 342 343 29 1 137 138 139 140 141 345 346))::
(nat_lit 143, (q1 "BadCurrency.small_words" 29 30 5 15 16 142))::
(nat_lit 144, (kT #[]))::
(nat_lit 145, (q3 P 336 340 27 339 "small_words" 347 143 "__static_attributes__" 348 144 349 2))::
(nat_lit 146, (q2 "BadCurrency" 146 145 130 329 337))::
(nat_lit 149, (kT #[(kR 31)]))::
(nat_lit 156, (kT #[]))::
(nat_lit 158, (kT #[(kz "self" 367)]))::
(nat_lit 159, (kT #[]))::
(nat_lit 161, (q0 "small_words" 364 "BadShare.small_words" 365 366 33 1 156 157 158 159 160 368 369))::
(nat_lit 162, (q1 "BadShare.small_words" 33 34 6 15 16 161))::
(nat_lit 163, (kT #[]))::
(nat_lit 164, (q3 P 359 363 31 362 "small_words" 370 162 "__static_attributes__" 371 163 372 2))::
(nat_lit 165, (q2 "BadShare" 165 164 149 352 360))::
(nat_lit 168, (kT #[(kR 31)]))::
(nat_lit 175, (kT #[]))::
(nat_lit 177, (kT #[(kz "self" 390)]))::
(nat_lit 178, (kT #[]))::
(nat_lit 180, (q0 "small_words" 387 "BadPath.small_words" 388 389 37 1 175 176 177 178 179 391 392))::
(nat_lit 181, (q1 "BadPath.small_words" 37 38 7 15 16 180))::
(nat_lit 182, (kT #[]))::
(nat_lit 183, (q3 P 382 386 35 385 "small_words" 393 181 "__static_attributes__" 394 182 395 2))::
(nat_lit 184, (q2 "BadPath" 184 183 168 375 383))::
(nat_lit 187, (kT #[(kR 31)]))::
(nat_lit 194, (kT #[]))::
(nat_lit 196, (kT #[(kz "self" 413)]))::
(nat_lit 197, (kT #[]))::
(nat_lit 199, (q0 "small_words" 410 "NoAccount.small_words" 411 412 41 1 194 195 196 197 198 414 415))::
(nat_lit 200, (q1 "NoAccount.small_words" 41 42 8 15 16 199))::
(nat_lit 201, (kT #[]))::
(nat_lit 202, (q3 P 405 409 39 408 "small_words" 416 200 "__static_attributes__" 417 201 418 2))::
(nat_lit 203, (q2 "NoAccount" 203 202 187 398 406))::
(nat_lit 206, (kT #[(kR 31)]))::
(nat_lit 213, (kT #[]))::
(nat_lit 215, (kT #[(kz "self" 436)]))::
(nat_lit 216, (kT #[]))::
(nat_lit 218, (q0 "small_words" 433 "Twice.small_words" 434 435 45 1 213 214 215 216 217 437 438))::
(nat_lit 219, (q1 "Twice.small_words" 45 46 9 15 16 218))::
(nat_lit 220, (kT #[]))::
(nat_lit 221, (q3 P 428 432 43 431 "small_words" 439 219 "__static_attributes__" 440 220 441 2))::
(nat_lit 222, (q2 "Twice" 222 221 206 421 429))::
(nat_lit 225, (kT #[(kR 31)]))::
(nat_lit 232, (kT #[]))::
(nat_lit 234, (kT #[(kz "self" 459)]))::
(nat_lit 235, (kT #[]))::
(nat_lit 237, (q0 "small_words" 456 "NoBudget.small_words" 457 458 49 1 232 233 234 235 236 460 461))::
(nat_lit 238, (q1 "NoBudget.small_words" 49 50 10 16 17 237))::
(nat_lit 239, (kT #[]))::
(nat_lit 240, (q3 P 451 455 47 454 "small_words" 462 238 "__static_attributes__" 463 239 464 2))::
(nat_lit 241, (q2 "NoBudget" 241 240 225 444 452))::
(nat_lit 244, (kT #[(kR 31)]))::
(nat_lit 251, (kT #[]))::
(nat_lit 253, (kT #[(kz "self" 482)]))::
(nat_lit 254, (kT #[]))::
(nat_lit 256, (q0 "small_words" 479 "NoOrder.small_words" 480 481 53 1 251 252 253 254 255 483 484))::
(nat_lit 257, (q1 "NoOrder.small_words" 53 54 11 16 17 256))::
(nat_lit 258, (kT #[]))::
(nat_lit 259, (q3 P 474 478 51 477 "small_words" 485 257 "__static_attributes__" 486 258 487 2))::
(nat_lit 260, (q2 "NoOrder" 260 259 244 467 475))::
(nat_lit 263, (kT #[]))::
(nat_lit 265, (kT #[(kz "thing" 495)]))::
(nat_lit 266, (kT #[]))::
(nat_lit 268, (q0 "is_whole" 492 "is_whole" 493 494 56 1 263 264 265 266 267 496 497))::
(nat_lit 269, (Zy "is_whole" "is_whole" dt 268))::
(nat_lit 270, (kT #[]))::
(nat_lit 272, (kT #[(kz "thing" 502), (kz "least" 503), (kz "most" 504)]))::
(nat_lit 273, (kT #[]))::
(nat_lit 275, (q0 "is_among" 499 "is_among" 500 501 58 3 270 271 272 273 274 505 506))::
(nat_lit 276, (Zy "is_among" "is_among" dq 275))::
(nat_lit 277, (kT #[]))::
(nat_lit 280, (q4 "signs_lie" 508 509 510 60 3 277 278 279 511 512))::
(nat_lit 281, (Zy "signs_lie" "signs_lie" cV 280))::
(nat_lit 282, (kT #[]))::
(nat_lit 284, (kT #[(kz "thing" 517)]))::
(nat_lit 285, (kT #[]))::
(nat_lit 287, (q0 "is_name" 514 "is_name" 515 516 62 1 282 283 284 285 286 518 519))::
(nat_lit 288, (Zy "is_name" "is_name" dZ 287))::
(nat_lit 289, (kT #[]))::
(nat_lit 291, (kT #[(kz "thing" 526)]))::
(nat_lit 292, (kT #[]))::
(nat_lit 294, (q0 "is_month" 523 "is_month" 524 525 65 1 289 290 291 292 293 527 528))::
(nat_lit 295, (Zz "is_month" "is_month" dv "evenhall.days" 521 294))::
(nat_lit 296, (kT #[]))::
(nat_lit 298, (kT #[(kz "thing" 535)]))::
(nat_lit 299, (kT #[]))::
(nat_lit 301, (q0 "is_amount" 532 "is_amount" 533 534 68 1 296 297 298 299 300 536 537))::
(nat_lit 302, (Zz "is_amount" "is_amount" c8 "evenhall.money" 530 301))::
(nat_lit 303, (kT #[]))::
(nat_lit 305, (kT #[(kz "thing" 542)]))::
(nat_lit 306, (kT #[]))::
(nat_lit 308, (q0 "is_currency" 539 "is_currency" 540 541 70 1 303 304 305 306 307 543 544))::
(nat_lit 309, (Zz "is_currency" "is_currency" cr "evenhall.money" 530 308))::
(nat_lit 310, (kT #[]))::
(nat_lit 313, (q4 "are_names" 548 549 550 73 1 310 311 312 551 552))::
(nat_lit 314, (Zz "are_names" "are_names" cZ "evenhall.paths" 546 313))::
(nat_lit 315, (kT #[]))::
(nat_lit 317, (kT #[(kz "thing" 557)]))::
(nat_lit 318, (kT #[]))::
(nat_lit 320, (q0 "is_path" 554 "is_path" 555 556 75 1 315 316 317 318 319 558 559))::
(nat_lit 321, (Zz "is_path" "is_path" d7 "evenhall.paths" 546 320))::
(nat_lit 322, (kT #[]))::
(nat_lit 325, (q4 "are_weights" 563 564 565 78 1 322 323 324 566 567))::
(nat_lit 326, (Zz "are_weights" "are_weights" cv "evenhall.shares" 561 325))::
(nat_lit 327, (kT #[]))::
(nat_lit 330, (q4 "shared" 569 570 571 82 2 327 328 329 572 573))::
(nat_lit 331, (Zz "shared" "shared" fR "evenhall.shares" 561 330))::
(nat_lit 332, (kT #[]))::
(nat_lit 334, (kT #[(kz "first" 580), (kz "last" 581)]))::
(nat_lit 335, (kT #[]))::
(nat_lit 337, (q0 "are_months" 577 "are_months" 578 579 94 2 332 333 334 335 336 582 583))::
(nat_lit 338, (Zx "are_months" "are_months" cH 337))::
(nat_lit 346, (kT #[]))::
(nat_lit 348, (kT #[(kz "self" 600), (kz "agreed" 601), (kz "parts" 602)]))::
(nat_lit 349, (kT #[]))::
(nat_lit 351, (q0 "__init__" 597 "Budget.__init__" 598 599 98 3 346 347 348 349 350 603 604))::
(nat_lit 352, (Zx "__init__" "Budget.__init__" bx 351))::
(nat_lit 353, (kT #[(kz "agreed" 606), (kz "first" 607), (kz "parts" 608)]))::
(nat_lit 354, (kO (kY "dict") none (Data.dict #[(kE P "__module__" 592 (kz "evenhall.budgets" 575)), (kE P "__firstlineno__" 596 (kI 96 595)), (kE P "__init__" 605 (kR 352)), (kE P "__static_attributes__" 609 (kR 353)), (kE P "__dict__" 611 (kR 356)), (kE P "__weakref__" 613 (kR 357)), (kE P "__doc__" 614 kN)] 4) #[]))::
(nat_lit 355, (q5 "Budget" 355 354 585 593))::
(nat_lit 356, (q7 610 355))::
(nat_lit 357, (q6 612 355))::
(nat_lit 367, (kT #[]))::
(nat_lit 369, (kT #[(kz "self" 632)]))::
(nat_lit 370, (kT #[]))::
(nat_lit 372, (q0 "__init__" 629 "Budgets.__init__" 630 631 104 1 367 368 369 370 371 633 634))::
(nat_lit 373, (Zx "__init__" "Budgets.__init__" bj 372))::
(nat_lit 374, (kT #[]))::
(nat_lit 376, (kT #[(kz "self" 639), (kz "name" 640), (kz "path" 641), (kz "currency" 642), (kz "first" 643), (kz "last" 644), (kz "total" 645), (kz "weights" 646), (kz "parts" 647)]))::
(nat_lit 377, (kT #[]))::
(nat_lit 379, (q0 "put" 636 "Budgets.put" 637 638 107 8 374 375 376 377 378 648 649))::
(nat_lit 380, (Zx "put" "Budgets.put" cq 379))::
(nat_lit 381, (kT #[]))::
(nat_lit 383, (kT #[(kz "self" 654), (kz "name" 655)]))::
(nat_lit 384, (kT #[]))::
(nat_lit 386, (q0 "budget" 651 "Budgets.budget" 652 653 125 2 381 382 383 384 385 656 657))::
(nat_lit 387, (Zx "budget" "Budgets.budget" bD 386))::
(nat_lit 388, (kT #[]))::
(nat_lit 390, (kT #[(kz "self" 662), (kz "name" 663)]))::
(nat_lit 391, (kT #[]))::
(nat_lit 393, (q0 "drop" 659 "Budgets.drop" 660 661 130 2 388 389 390 391 392 664 665))::
(nat_lit 394, (Zx "drop" "Budgets.drop" bV 393))::
(nat_lit 395, (kT #[]))::
(nat_lit 397, (kT #[(kz "self" 670)]))::
(nat_lit 398, (kT #[]))::
(nat_lit 400, (q0 "names" 667 "Budgets.names" 668 669 134 1 395 396 397 398 399 671 672))::
(nat_lit 401, (Zx "names" "Budgets.names" bK 400))::
(nat_lit 402, (kT #[]))::
(nat_lit 404, (kT #[(kz "self" 677), (kz "name" 678)]))::
(nat_lit 405, (kT #[]))::
(nat_lit 407, (q0 "terms" 674 "Budgets.terms" 675 676 137 2 402 403 404 405 406 679 680))::
(nat_lit 408, (Zx "terms" "Budgets.terms" bM 407))::
(nat_lit 409, (kT #[]))::
(nat_lit 411, (kT #[(kz "self" 685), (kz "name" 686), (kz "month" 687)]))::
(nat_lit 412, (kT #[]))::
(nat_lit 414, (q0 "planned" 682 "Budgets.planned" 683 684 140 3 409 410 411 412 413 688 689))::
(nat_lit 415, (Zx "planned" "Budgets.planned" br 414))::
(nat_lit 416, (kT #[]))::
(nat_lit 418, (kT #[(kz "self" 694), (kz "name" 695), (kz "month" 696), (kz "budget" 697)]))::
(nat_lit 419, (kT #[]))::
(nat_lit 421, (q0 "planned_by" 691 "Budgets.planned_by" 692 693 143 3 416 417 418 419 420 698 699))::
(nat_lit 422, (Zx "planned_by" "Budgets.planned_by" be 421))::
(nat_lit 423, (kT #[(kz "by_name" 701)]))::
(nat_lit 424, (kO (kY "dict") none (Data.dict #[(kE P "__module__" 624 (kz "evenhall.budgets" 575)), (kE P "__firstlineno__" 628 (kI 102 627)), (kE P "__init__" 635 (kR 373)), (kE P "put" 650 (kR 380)), (kE P "budget" 658 (kR 387)), (kE P "drop" 666 (kR 394)), (kE P "names" 673 (kR 401)), (kE P "terms" 681 (kR 408)), (kE P "planned" 690 (kR 415)), (kE P "planned_by" 700 (kR 422)), (kE P "__static_attributes__" 702 (kR 423)), (kE P "__dict__" 704 (kR 426)), (kE P "__weakref__" 706 (kR 427)), (kE P "__doc__" 707 kN)] 4) #[]))::
(nat_lit 425, (q5 "Budgets" 425 424 617 625))::
(nat_lit 426, (q7 703 425))::
(nat_lit 427, (q6 705 425))::
(nat_lit 430, (kT #[]))::
(nat_lit 432, (kT #[(kz "_law_script" 715), (kz "_law_k" 716)]))::
(nat_lit 433, (kT #[]))::
(nat_lit 435, (q0 "_law_cell_at" 712 "_law_cell_at" 713 714 147 2 430 431 432 433 434 717 718))::
(nat_lit 436, (Zw "_law_cell_at" "_law_cell_at" bR 435))::
(nat_lit 437, (kT #[]))::
(nat_lit 439, (kT #[(kz "_law_cell" 723), (kz "_law_k" 724)]))::
(nat_lit 440, (kT #[]))::
(nat_lit 442, (q0 "_law_mixed" 720 "_law_mixed" 721 722 151 2 437 438 439 440 441 725 726))::
(nat_lit 443, (Zw "_law_mixed" "_law_mixed" cD 442))::
(nat_lit 444, (kT #[]))::
(nat_lit 446, (kT #[(kz "_law_found" 731)]))::
(nat_lit 447, (kT #[]))::
(nat_lit 449, (q0 "_law_whole" 728 "_law_whole" 729 730 153 1 444 445 446 447 448 732 733))::
(nat_lit 450, (Zw "_law_whole" "_law_whole" cB 449))::
(nat_lit 451, (kT #[]))::
(nat_lit 454, (q4 "_law_names" 735 736 737 155 1 451 452 453 738 739))::
(nat_lit 455, (Zw "_law_names" "_law_names" cK 454))::
(nat_lit 456, (kT #[]))::
(nat_lit 458, (kT #[(kz "_law_cell" 744), (kz "_law_letters" 745)]))::
(nat_lit 459, (kT #[]))::
(nat_lit 461, (q0 "_law_currency" 741 "_law_currency" 742 743 169 1 456 457 458 459 460 746 747))::
(nat_lit 462, (Zw "_law_currency" "_law_currency" bL 461))::
(nat_lit 463, (kT #[]))::
(nat_lit 465, (kT #[(kz "_law_cell" 752), (kz "_law_many" 753), (kz "_law_weights_here" 754), (kz "_law_k" 755), (kz "_law_one" 756)]))::
(nat_lit 466, (kT #[]))::
(nat_lit 468, (q0 "_law_weights" 749 "_law_weights" 750 751 172 2 463 464 465 466 467 757 758))::
(nat_lit 469, (Zw "_law_weights" "_law_weights" bW 468))::
(nat_lit 470, (kT #[]))::
(nat_lit 472, (kT #[(kz "_law_cell" 763)]))::
(nat_lit 473, (kT #[]))::
(nat_lit 475, (q0 "_law_total" 760 "_law_total" 761 762 180 1 470 471 472 473 474 764 765))::
(nat_lit 476, (Zw "_law_total" "_law_total" cL 475))::
(nat_lit 477, (kT #[]))::
(nat_lit 479, (kT #[(kz "_law_cell" 770), (kz "_law_names_here" 771), (kz "_law_many" 772), (kz "_law_first" 773), (kz "_law_path" 774), (kz "_law_currency_here" 775), (kz "_law_total_here" 776), (kz "_law_name" 777)]))::
(nat_lit 480, (kT #[]))::
(nat_lit 482, (q0 "_law_terms" 767 "_law_terms" 768 769 186 2 477 478 479 480 481 778 779))::
(nat_lit 483, (Zw "_law_terms" "_law_terms" bv 482))::
(nat_lit 484, (kT #[]))::
(nat_lit 486, (kT #[(kz "_law_way" 784), (kz "_law_terms_here" 785), (kz "_law_cell" 786), (kz "_law_far" 787), (kz "_law_many" 788), (kz "_law_at" 789), (kz "_law_some" 790), (kz "_law_thing" 791)]))::
(nat_lit 487, (kT #[]))::
(nat_lit 489, (q0 "_law_odd" 781 "_law_odd" 782 783 196 3 484 485 486 487 488 792 793))::
(nat_lit 490, (Zw "_law_odd" "_law_odd" bB 489))::
(nat_lit 491, (kT #[]))::
(nat_lit 494, (q4 "_law_word" 795 796 797 216 1 491 492 493 798 799))::
(nat_lit 495, (Zw "_law_word" "_law_word" cA 494))::
(nat_lit 496, (kT #[]))::
(nat_lit 498, (kT #[(kz "_law_terms_here" 804), (kz "_law_cell" 805), (kz "_law_ways" 806), (kz "_law_words" 807), (kz "_law_old" 808), (kz "_law_way" 809), (kz "_law_at" 810), (kz "_law_thing" 811), (kz "_law_word_here" 812)]))::
(nat_lit 499, (kT #[]))::
(nat_lit 501, (q0 "_law_spoilt" 801 "_law_spoilt" 802 803 223 2 496 497 498 499 500 813 814))::
(nat_lit 502, (Zw "_law_spoilt" "_law_spoilt" bE 501))::
(nat_lit 503, (kT #[]))::
(nat_lit 505, (kT #[(kz "_law_budgets" 819), (kz "_law_terms_here" 820), (kz "_law_handed" 821), (kz "_law_word_here" 822), (kz "_law_e" 823)]))::
(nat_lit 506, (kT #[]))::
(nat_lit 508, (q0 "_law_put" 816 "_law_put" 817 818 236 2 503 504 505 506 507 824 825))::
(nat_lit 509, (Zw "_law_put" "_law_put" bP 508))::
(nat_lit 510, (kT #[]))::
(nat_lit 512, (kT #[(kz "_law_budgets" 830), (kz "_law_name" 831), (kz "_law_way" 832), (kz "_law_e" 833)]))::
(nat_lit 513, (kT #[]))::
(nat_lit 515, (q0 "_law_refusal" 827 "_law_refusal" 828 829 251 3 510 511 512 513 514 834 835))::
(nat_lit 516, (Zw "_law_refusal" "_law_refusal" bY 515))::
(nat_lit 517, (kT #[]))::
(nat_lit 519, (kT #[(kz "_law_cell" 840), (kz "_law_terms_here" 841), (kz "_law_some" 842)]))::
(nat_lit 520, (kT #[]))::
(nat_lit 522, (q0 "_law_month" 837 "_law_month" 838 839 264 2 517 518 519 520 521 843 844))::
(nat_lit 523, (Zw "_law_month" "_law_month" cE 522))::
(nat_lit 524, (kT #[]))::
(nat_lit 526, (kT #[(kz "_law_budgets" 849), (kz "_law_name" 850), (kz "_law_turn" 851), (kz "_law_k" 852)]))::
(nat_lit 527, (kT #[]))::
(nat_lit 529, (q0 "_law_is_none" 846 "_law_is_none" 847 848 267 3 524 525 526 527 528 853 854))::
(nat_lit 530, (Zw "_law_is_none" "_law_is_none" bU 529))::
(nat_lit 531, (kT #[]))::
(nat_lit 533, (kT #[(kz "_law_budgets" 859), (kz "_law_name" 860), (kz "_law_month_here" 861), (kz "_law_turn" 862), (kz "_law_answers_here" 863), (kz "_law_way" 864)]))::
(nat_lit 534, (kT #[]))::
(nat_lit 536, (q0 "_law_answers" 856 "_law_answers" 857 858 272 4 531 532 533 534 535 865 866))::
(nat_lit 537, (Zw "_law_answers" "_law_answers" bQ 536))::
(nat_lit 538, (kT #[]))::
(nat_lit 540, (kT #[(kz "_law_budgets" 871), (kz "_law_rows" 872), (kz "_law_name" 873), (kz "_law_cell" 874), (kz "_law_terms_here" 875), (kz "_law_month_here" 876), (kz "_law_told_here" 877), (kz "_law_one" 878), (kz "_law_together" 879), (kz "_law_first_ones" 880), (kz "_law_shares" 881), (kz "_law_here" 882), (kz "_law_early" 883), (kz "_law_k" 884), (kz "_law_part" 885)]))::
(nat_lit 541, (kT #[]))::
(nat_lit 543, (q0 "_law_told" 868 "_law_told" 869 870 282 4 538 539 540 541 542 886 887))::
(nat_lit 544, (Zw "_law_told" "_law_told" cg 543))::
(nat_lit 545, (kT #[]))::
(nat_lit 547, (kT #[(kz "_law_budgets" 892), (kz "_law_rows" 893), (kz "_law_held" 894), (kz "_law_due" 895), (kz "_law_found" 896)]))::
(nat_lit 548, (kT #[]))::
(nat_lit 550, (q0 "_law_names_told" 889 "_law_names_told" 890 891 302 3 545 546 547 548 549 897 898))::
(nat_lit 551, (Zw "_law_names_told" "_law_names_told" bb 550))::
(nat_lit 552, (kT #[]))::
(nat_lit 554, (kT #[(kz "_law_both" 903), (kz "_law_rows" 904), (kz "_law_held" 905)]))::
(nat_lit 555, (kT #[]))::
(nat_lit 557, (q0 "_law_all_names" 900 "_law_all_names" 901 902 310 3 552 553 554 555 556 906 907))::
(nat_lit 558, (Zw "_law_all_names" "_law_all_names" bC 557))::
(nat_lit 559, (kT #[]))::
(nat_lit 561, (kT #[(kz "_law_budgets" 912), (kz "_law_terms_here" 913), (kz "_law_weights_here" 914), (kz "_law_e" 915)]))::
(nat_lit 562, (kT #[]))::
(nat_lit 564, (q0 "_law_word_of" 909 "_law_word_of" 910 911 312 3 559 560 561 562 563 916 917))::
(nat_lit 565, (Zw "_law_word_of" "_law_word_of" bS 564))::
(nat_lit 566, (kT #[]))::
(nat_lit 568, (kT #[(kz "_law_budgets" 922), (kz "_law_rows" 923), (kz "_law_terms_here" 924), (kz "_law_handed" 925), (kz "_law_due" 926)]))::
(nat_lit 569, (kT #[]))::
(nat_lit 571, (q0 "_law_mended" 919 "_law_mended" 920 921 318 3 566 567 568 569 570 927 928))::
(nat_lit 572, (Zw "_law_mended" "_law_mended" bF 571))::
(nat_lit 573, (kT #[]))::
(nat_lit 575, (kT #[(kz "_law_budgets" 933), (kz "_law_rows" 934), (kz "_law_names_here" 935), (kz "_law_cell" 936), (kz "_law_name" 937), (kz "_law_word_here" 938), (kz "_law_terms_here" 939), (kz "_law_due" 940)]))::
(nat_lit 576, (kT #[]))::
(nat_lit 578, (q0 "_law_done" 930 "_law_done" 931 932 330 4 573 574 575 576 577 941 942))::
(nat_lit 579, (Zw "_law_done" "_law_done" bd 578))::
(nat_lit 580, (kT #[]))::
(nat_lit 583, (q4 "law" 944 945 946 354 1 580 581 582 947 948))::
(nat_lit 584, (Zw "law" "law" dD 583))
 :: []
noncomputable def adrs : List Addr := [nat_lit 2, nat_lit 3, nat_lit 15, nat_lit 17, nat_lit 18, nat_lit 20, nat_lit 21, nat_lit 22, nat_lit 29, nat_lit 30, nat_lit 31, nat_lit 32, nat_lit 35, nat_lit 42, nat_lit 44, nat_lit 45, nat_lit 47, nat_lit 48, nat_lit 49, nat_lit 50, nat_lit 51, nat_lit 54, nat_lit 61, nat_lit 63, nat_lit 64, nat_lit 66, nat_lit 67, nat_lit 68, nat_lit 69, nat_lit 70, nat_lit 73, nat_lit 80, nat_lit 82, nat_lit 83, nat_lit 85, nat_lit 86, nat_lit 87, nat_lit 88, nat_lit 89, nat_lit 92, nat_lit 99, nat_lit 101, nat_lit 102, nat_lit 104, nat_lit 105, nat_lit 106, nat_lit 107, nat_lit 108, nat_lit 111, nat_lit 118, nat_lit 120, nat_lit 121, nat_lit 123, nat_lit 124, nat_lit 125, nat_lit 126, nat_lit 127, nat_lit 130, nat_lit 137, nat_lit 139, nat_lit 140, nat_lit 142, nat_lit 143, nat_lit 144, nat_lit 145, nat_lit 146, nat_lit 149, nat_lit 156, nat_lit 158, nat_lit 159, nat_lit 161, nat_lit 162, nat_lit 163, nat_lit 164, nat_lit 165, nat_lit 168, nat_lit 175, nat_lit 177, nat_lit 178, nat_lit 180, nat_lit 181, nat_lit 182, nat_lit 183, nat_lit 184, nat_lit 187, nat_lit 194, nat_lit 196, nat_lit 197, nat_lit 199, nat_lit 200, nat_lit 201, nat_lit 202, nat_lit 203, nat_lit 206, nat_lit 213, nat_lit 215, nat_lit 216, nat_lit 218, nat_lit 219, nat_lit 220, nat_lit 221, nat_lit 222, nat_lit 225, nat_lit 232, nat_lit 234, nat_lit 235, nat_lit 237, nat_lit 238, nat_lit 239, nat_lit 240, nat_lit 241, nat_lit 244, nat_lit 251, nat_lit 253, nat_lit 254, nat_lit 256, nat_lit 257, nat_lit 258, nat_lit 259, nat_lit 260, nat_lit 263, nat_lit 265, nat_lit 266, nat_lit 268, nat_lit 269, nat_lit 270, nat_lit 272, nat_lit 273, nat_lit 275, nat_lit 276, nat_lit 277, nat_lit 280, nat_lit 281, nat_lit 282, nat_lit 284, nat_lit 285, nat_lit 287, nat_lit 288, nat_lit 289, nat_lit 291, nat_lit 292, nat_lit 294, nat_lit 295, nat_lit 296, nat_lit 298, nat_lit 299, nat_lit 301, nat_lit 302, nat_lit 303, nat_lit 305, nat_lit 306, nat_lit 308, nat_lit 309, nat_lit 310, nat_lit 313, nat_lit 314, nat_lit 315, nat_lit 317, nat_lit 318, nat_lit 320, nat_lit 321, nat_lit 322, nat_lit 325, nat_lit 326, nat_lit 327, nat_lit 330, nat_lit 331, nat_lit 332, nat_lit 334, nat_lit 335, nat_lit 337, nat_lit 338, nat_lit 346, nat_lit 348, nat_lit 349, nat_lit 351, nat_lit 352, nat_lit 353, nat_lit 354, nat_lit 355, nat_lit 356, nat_lit 357, nat_lit 367, nat_lit 369, nat_lit 370, nat_lit 372, nat_lit 373, nat_lit 374, nat_lit 376, nat_lit 377, nat_lit 379, nat_lit 380, nat_lit 381, nat_lit 383, nat_lit 384, nat_lit 386, nat_lit 387, nat_lit 388, nat_lit 390, nat_lit 391, nat_lit 393, nat_lit 394, nat_lit 395, nat_lit 397, nat_lit 398, nat_lit 400, nat_lit 401, nat_lit 402, nat_lit 404, nat_lit 405, nat_lit 407, nat_lit 408, nat_lit 409, nat_lit 411, nat_lit 412, nat_lit 414, nat_lit 415, nat_lit 416, nat_lit 418, nat_lit 419, nat_lit 421, nat_lit 422, nat_lit 423, nat_lit 424, nat_lit 425, nat_lit 426, nat_lit 427, nat_lit 430, nat_lit 432, nat_lit 433, nat_lit 435, nat_lit 436, nat_lit 437, nat_lit 439, nat_lit 440, nat_lit 442, nat_lit 443, nat_lit 444, nat_lit 446, nat_lit 447, nat_lit 449, nat_lit 450, nat_lit 451, nat_lit 454, nat_lit 455, nat_lit 456, nat_lit 458, nat_lit 459, nat_lit 461, nat_lit 462, nat_lit 463, nat_lit 465, nat_lit 466, nat_lit 468, nat_lit 469, nat_lit 470, nat_lit 472, nat_lit 473, nat_lit 475, nat_lit 476, nat_lit 477, nat_lit 479, nat_lit 480, nat_lit 482, nat_lit 483, nat_lit 484, nat_lit 486, nat_lit 487, nat_lit 489, nat_lit 490, nat_lit 491, nat_lit 494, nat_lit 495, nat_lit 496, nat_lit 498, nat_lit 499, nat_lit 501, nat_lit 502, nat_lit 503, nat_lit 505, nat_lit 506, nat_lit 508, nat_lit 509, nat_lit 510, nat_lit 512, nat_lit 513, nat_lit 515, nat_lit 516, nat_lit 517, nat_lit 519, nat_lit 520, nat_lit 522, nat_lit 523, nat_lit 524, nat_lit 526, nat_lit 527, nat_lit 529, nat_lit 530, nat_lit 531, nat_lit 533, nat_lit 534, nat_lit 536, nat_lit 537, nat_lit 538, nat_lit 540, nat_lit 541, nat_lit 543, nat_lit 544, nat_lit 545, nat_lit 547, nat_lit 548, nat_lit 550, nat_lit 551, nat_lit 552, nat_lit 554, nat_lit 555, nat_lit 557, nat_lit 558, nat_lit 559, nat_lit 561, nat_lit 562, nat_lit 564, nat_lit 565, nat_lit 566, nat_lit 568, nat_lit 569, nat_lit 571, nat_lit 572, nat_lit 573, nat_lit 575, nat_lit 576, nat_lit 578, nat_lit 579, nat_lit 580, nat_lit 583, nat_lit 584]
theorem adrs_eq (P : Params) : adrs = (frag P).map (·.1) := by kernel_rfl
noncomputable def vw : Program := PySem.W.view PySem.Challenge.pw_evenhall_k25_budgets_kept [0, 2, 3, 4, 5, 6, 7, 8, 9, 10, 11, 12, 13, 14, 16, 17, 18, 19, 21, 23, 24, 26, 27, 29, 30, 32, 33, 34, 36, 37, 38, 39, 40, 41, 42, 43, 44, 45, 46, 47, 48, 49, 50, 51, 52, 53, 54, 55, 56, 57, 58]
open PySem.W in
noncomputable def tree0 (P : Params) : BT := (.node (boot_o_0 P) (.node (boot_o_1 P) (.node (boot_o_3 P) (.node (boot_o_7 P) .nil .nil) .nil) (.node (boot_o_5 P) (.node (boot_o_9 P) .nil .nil) .nil)) (.node (boot_o_2 P) (.node (boot_o_4 P) (.node (boot_o_8 P) .nil .nil) .nil) (.node (boot_o_6 P) (.node (boot_o_10 P) .nil .nil) .nil)))
open PySem.W PyProof.Rows in
noncomputable def ran (p : Program) (t : BT) (b : Heap) (w : World) (os : OsState) : Option SharedT := TR.go p w 11 (some (.ref 6)) 10044 ⟨t, 11, b.life, Array.mk [], boot_drawn, boot_toks, os⟩ (topStub p)
noncomputable def runA (p : Program) (t : PySem.W.BT) (b : Heap) (w : World) (os : OsState) := (ran p t b w os).map fun x => TR.lookB p b x.abs
noncomputable def runB (p v : Program) (c : PySem.W.WRecords) (t : PySem.W.BT) (b : Heap) (w : World) (os : OsState) := (ran p t b w os).map fun x => PySem.W.openSeen v [] (importedModules p.main.body) (fun s => PySem.W.xlAt v [] s && PySem.W.recOk c s) true x.abs
noncomputable def runC (p : Program) (t : PySem.W.BT) (b : Heap) (w : World) (os : OsState) := (ran p t b w os).map fun x => adrs.map x.abs.heap.get?
noncomputable def good (v : Program) (_ : OsState) := some (PySem.W.openGood v [])
set_option maxRecDepth 100000 in
set_option maxHeartbeats 0 in
lay_quick K25.runA
set_option maxRecDepth 100000 in
set_option maxHeartbeats 0 in
lay_quick K25.runB
set_option maxRecDepth 100000 in
set_option maxHeartbeats 0 in
lay_quick K25.runC
set_option maxRecDepth 100000 in
set_option maxHeartbeats 0 in
lay_quick K25.good
set_option maxRecDepth 100000 in
set_option maxHeartbeats 0 in
theorem gA (w : World) : PySem.W.Fast.tw294704361440087669 PySem.Challenge.pw_evenhall_k25_budgets_kept (tree0 w.params) (PySem.W.boot_heap w.params) w = fun _ => some true := by kernel_rfl
set_option maxRecDepth 100000 in
set_option maxHeartbeats 0 in
theorem gB (w : World) : PySem.W.Fast.tw8280229886809627318 PySem.Challenge.pw_evenhall_k25_budgets_kept vw (PySem.W.RowW.records (PySem.W.OpenRow.toRowW (PySem.W.OpenLaw.row PySem.Challenge.rw_evenhall_k25_budgets_kept))) (tree0 w.params) (PySem.W.boot_heap w.params) w = PySem.W.Fast.tw16527501881103811633 vw := by kernel_rfl
set_option maxRecDepth 100000 in
set_option maxHeartbeats 0 in
theorem gC (w : World) : PySem.W.Fast.tw12976103139643038799 PySem.Challenge.pw_evenhall_k25_budgets_kept (tree0 w.params) (PySem.W.boot_heap w.params) w = fun _ => some ((frag w.params).map fun p => some p.2) := by kernel_rfl
set_option maxRecDepth 100000 in
set_option maxHeartbeats 0 in
theorem left : PySem.W.LeftO PySem.Challenge.pw_evenhall_k25_budgets_kept vw [] (fun s => PySem.W.xlAt vw [] s && PySem.W.recOk (PySem.W.RowW.records (PySem.W.OpenRow.toRowW (PySem.W.OpenLaw.row PySem.Challenge.rw_evenhall_k25_budgets_kept))) s) (YQ frag adrs adrs_eq).obs (YQ frag adrs adrs_eq).val 10044 :=
 TR.left (lo := 11) (an := some (.ref 6)) (tr := tree0) (PySem.W.boot_open (by kernel_rfl) (by decide) (fun s => by kernel_rfl)) (fun P => by kernel_rfl) (fun P => by kernel_rfl) fun w => funext fun os =>
  TR.three (congrFun ((congrFun (congrFun (congrFun (congrFun PySem.W.Fast.te294704361440087669 _) _) _) w).trans (gA w)) os) (congrFun ((congrFun (congrFun (congrFun (congrFun (congrFun (congrFun PySem.W.Fast.te8280229886809627318 _) _) _) _) _) w).trans ((gB w).trans (congrFun PySem.W.Fast.te16527501881103811633 _).symm)) os) (congrFun ((congrFun (congrFun (congrFun (congrFun PySem.W.Fast.te12976103139643038799 _) _) _) w).trans (gC w)) os)
noncomputable def wsaid (l : PySem.W.OpenLaw) : Bool := PySem.W.OpenLaw.wellSaid l
set_option maxRecDepth 100000 in
set_option maxHeartbeats 0 in
lay_quick K25.wsaid
set_option maxRecDepth 100000 in
set_option maxHeartbeats 0 in
theorem ws : wsaid PySem.Challenge.rw_evenhall_k25_budgets_kept = true := (congrFun PySem.W.Fast.te15766500047716286127 _).trans (by kernel_rfl)
end K25
namespace L2
open PySem PySem.Spec PyProof.Rows
abbrev Key := Sum Int Str
def ut : Key -> Value -> Bool
 | .inl k, v => Value.isInt k v
 | .inr x, v => Value.isStrOf x v
def Hj (w : World) : Key -> Int
 | .inl k => hashInt k
 | .inr x => hashStr w x
theorem cf : ∀ {k : Key} {v : Value}, ut k v = true -> (∃ i t, k = Sum.inl i /\ v = YU i t) \/ (∃ x t, k = Sum.inr x /\ v = Value.str x t)
 | .inl i, v, h => by
  obtain ⟨t, e⟩ := Value.isInt_shape (k := i) (v := v) h
  exact .inl ⟨i, t, rfl, e⟩
 | .inr x, v, h => by
  obtain ⟨t, e⟩ := Value.isStrOf_shape (x := x) (v := v) h
  exact .inr ⟨x, t, rfl, e⟩
theorem AH (i : Int) (t : Tok) : ut (.inl i) (.int i t) = true := by simp [ut, Value.isInt]
theorem AZ (x : Str) (t : Tok) : ut (.inr x) (.str x t) = true := by simp [ut, Value.isStrOf]
theorem Fj (a b : Int) : decide ((Sum.inl a : Key) = Sum.inl b) = (a == b) := by
 by_cases e : a = b
 ·subst e; simp
 ·have h : ¬ (Sum.inl a : Key) = Sum.inl b := fun q => e (Sum.inl.inj q)
  rw [decide_eq_false h]
  exact (beq_eq_false_iff_ne.mpr e).symm
theorem Fp (a b : Str) : decide ((Sum.inr a : Key) = Sum.inr b) = decide (a = b) := by
 by_cases e : a = b
 ·subst e; simp
 ·have h : ¬ (Sum.inr a : Key) = Sum.inr b := fun q => e (Sum.inr.inj q)
  rw [decide_eq_false h, decide_eq_false e]
theorem F8 (a : Int) (b : Str) : decide ((Sum.inl a : Key) = Sum.inr b) = false := decide_eq_false (fun q => nomatch q)
theorem FT (a : Str) (b : Int) : decide ((Sum.inr a : Key) = Sum.inl b) = false := decide_eq_false (fun q => nomatch q)
def bN (prog : Program) (w : World) : PySem.KeyKind prog w Key where
 is := ut
 hash := Hj w
 inj := fun v a b ha hb => by
  rcases cf ha with ⟨i, t, rfl, rfl⟩ | ⟨x, t, rfl, rfl⟩
  ·rcases cf hb with ⟨j, u, rfl, e⟩ | ⟨y, u, rfl, e⟩
   ·injection e with e1 _; rw [e1]
   ·exact nomatch e
  ·rcases cf hb with ⟨j, u, rfl, e⟩ | ⟨y, u, rfl, e⟩
   ·exact nomatch e
   ·injection e with e1 _; rw [e1]
 byValue := fun k v h => by
  rcases cf h with ⟨i, t, rfl, rfl⟩ | ⟨x, t, rfl, rfl⟩ <;> rfl
 pyHash := fun hv h => by
  rcases cf hv with ⟨i, t, rfl, rfl⟩ | ⟨x, t, rfl, rfl⟩
  ·exact wpAny_pyHash_int h
  ·exact wpAny_pyHash_str h
 eqBool := fun hu hv h => by
  rcases cf hu with ⟨i, t, rfl, rfl⟩ | ⟨x, t, rfl, rfl⟩
  ·rcases cf hv with ⟨j, u, rfl, rfl⟩ | ⟨y, u, rfl, rfl⟩
   ·rw [Fj] at h; exact wpAny_eqBool_int h
   ·rw [F8] at h; exact SeqAt.EqAt.int_str i t y u _ _ _ _ h
  ·rcases cf hv with ⟨j, u, rfl, rfl⟩ | ⟨y, u, rfl, rfl⟩
   ·rw [FT] at h; exact SeqAt.EqAt.str_int x t j u _ _ _ _ h
   ·rw [Fp] at h; exact wpAny_eqBool_str h
 «strs» := fun k x t v h => by
  rcases cf h with ⟨i, u, rfl, e⟩ | ⟨y, u, rfl, e⟩
  ·exact nomatch e
  ·injection e with e1 _
   subst e1
   cases v <;> rfl
theorem xr (prog : Program) (w : World) (i : Int) (t : Tok) : (bN prog w).is (.inl i) (.int i t) = true := AH i t
theorem wK (prog : Program) (w : World) (x : Str) (t : Tok) : (bN prog w).is (.inr x) (.str x t) = true := AZ x t
end L2
namespace L2
open PySem PySem.Spec PyProof.Rows
inductive V where
 | non | bl (b : Bool) | int (i : Int) | str (x : Str) | byt (b : Array UInt8) | flt (b : UInt64) | ref (a : Addr) | ty (n : String)
 deriving DecidableEq
def RelV : V -> Value -> Prop
 | .non, u => u = Zn
 | .bl b, u => u = Value.bool b
 | .int i, u => ∃ t, u = YU i t
 | .str x, u => ∃ t, u = Value.str x t
 | .byt b, u => ∃ t, u = Value.bytes b t
 | .flt b, u => ∃ t, u = Value.float b t
 | .ref a, u => u = xL a
 | .ty n, u => u = Ye n
abbrev Vals : List V -> List Value -> Prop := Paired RelV
theorem Vals.length {xs : List V} {us : List Value} (r : Vals xs us) : xs.length = us.length := Paired.length r
theorem Vals.get : ∀ {xs : List V} {us : List Value} {i : Nat} {x : V}, Vals xs us -> xs[i]? = some x -> ∃ u, us[i]? = some u /\ RelV x u
 | _, _, _, _, .nil, e => by simp at e
 | _, _, 0, _, .cons r _, e => by simp at e; subst e; exact ⟨_, rfl, r⟩
 | _, _, i + 1, x, .cons _ t, e => by
  obtain ⟨u, h1, h2⟩ := Vals.get (i := i) (x := x) t (by simpa using e)
  exact ⟨u, by simpa using h1, h2⟩
theorem Vals.set {x : V} {u : Value} (r : RelV x u) : ∀ {xs : List V} {us : List Value} (i : Nat), Vals xs us -> Vals (xs.set i x) (us.set i u)
 | _, _, _, .nil => .nil
 | _, _, 0, .cons _ t => .cons r t
 | _, _, i + 1, .cons q t => .cons q (Vals.set r i t)
theorem Vals.append : ∀ {xs ys : List V} {us ws : List Value}, Vals xs us -> Vals ys ws -> Vals (xs ++ ys) (us ++ ws)
 | _, _, _, _, .nil, s => s
 | _, _, _, _, .cons r t, s => .cons r (Vals.append t s)
theorem Vals.take : ∀ {xs : List V} {us : List Value} (n : Nat), Vals xs us -> Vals (xs.take n) (us.take n)
 | _, _, 0, _ => .nil
 | _, _, _ + 1, .nil => .nil
 | _, _, n + 1, .cons r t => .cons r (Vals.take n t)
theorem Vals.drop : ∀ {xs : List V} {us : List Value} (n : Nat), Vals xs us -> Vals (xs.drop n) (us.drop n)
 | _, _, 0, r => r
 | _, _, _ + 1, .nil => .nil
 | _, _, n + 1, .cons _ t => Vals.drop n t
def RelO : Option V -> Option Value -> Prop
 | some v, some u => RelV v u
 | none, none => True
 | _, _ => False
def KV {κ : Type} : List (κ × V) -> List (κ × Value) -> Prop := Paired fun (p : κ × V) (q : κ × Value) => p.1 = q.1 /\ RelV p.2 q.2
def kV : Key -> V
 | .inl i => .int i
 | .inr x => .str x
inductive HO where
 | lst (xs : List V)
 | tup (xs : List V)
 | dK (kvs : List (Key × V)) | dT (kvs : List (List Key × V))
 | set (S : Int -> Bool) (n : Nat)
 | ins (C dx : Addr) (fs : List (Str × V))
 | own (x : Addr)
 | xd (fs : List (Str × V))
 | met (f x : Addr)
 | rng (lo hi : Int)
 | frz (o : Obj) (u : HO)
 | tbl (ps : Array Value)
 | ext (φ : Heap -> Prop)
abbrev Hp := Addr -> Option HO
def upd (H : Hp) (a : Addr) (o : HO) : Hp := fun b => if b = a then some o else H b
theorem al {H : Hp} {a : Addr} {o : HO} : upd H a o a = some o := by unfold upd; rw [if_pos rfl]
theorem ay {H : Hp} {a b : Addr} {o : HO} (h : b ≠ a) : upd H a o b = H b := by unfold upd; rw [if_neg h]
theorem qX {H : Hp} {a : Addr} {o u : HO} : upd (upd H a o) a u = upd H a u := by
 funext b; unfold upd; split <;> rfl
theorem GX {H : Hp} {a b : Addr} {o u : HO} (h : H a = some o) (h' : H b = some u) (d : o ≠ u) : a ≠ b := by
 intro e; subst e; rw [h] at h'; exact d (Zm h')
theorem ar {H : Hp} {a b : Addr} {o : HO} (h : H a = some o) (h' : H b = none) : a ≠ b := by
 intro e; subst e; rw [h] at h'; cases h'
section
variable (P : Program) (w : World)
def ObjOk (H : Hp) (h : Heap) (a : Addr) : HO -> Prop
 | .lst xs => xs.length <= sizeLine /\ ∃ (its : List Value) (n : Nat), Vals xs its /\ h.get? a = some { cls := .type "list", data := .seq its.toArray n }
 | .tup xs => xs.length <= sizeLine /\ ∃ its : List Value, Vals xs its /\ IsTup h a its.toArray
 | .dK kvs => kvs.length <= sizeLine /\ (a == Yn) = false /\ ∃ vs, KV kvs vs /\ h.DictOf (bN P w) a vs
 | .dT kvs => kvs.length <= sizeLine /\ (a == Yn) = false /\ ∃ xs : List (List Key × Addr × Value),
  Paired (fun (p : List Key × V) (q : List Key × Addr × Value) => p.1 = q.1 /\ H q.2.1 = some (.tup (p.1.map kV)) /\ RelV p.2 q.2.2) kvs xs /\
  ∃ o es ep, h.get? a = some o /\ o.ExactDict /\ o.data = .dict es ep /\ es.toList = xs.map (entryOfKey (tupleKind (bN P w))) /\ (xs.map (·.1)).Nodup
 | .set S n => h.SetOf (intKind P w) a S n
 | .ins C dx fs => H dx = some (.own a) /\ fs.length <= 1000 /\ dx ≠ a /\ h.get? a = some (Z2 C dx) /\
  ∃ mA, h.Ns1 dx mA /\ (∀ f, RelO (fs.lookup f) (mA f)) /\ PySem.Within mA (fs.map (·.1))
 | .own _ => ∃ o, h.get? a = some o
 | .xd fs => ∃ mA, h.Ns1 a mA /\ ∀ f, RelO (fs.lookup f) (mA f)
 | .rng lo hi => ∃ t u v, h.get? a = some { cls := .type "range", data := .fields #[.int lo t, .int hi u, .int 1 v] }
 | .frz o u => h.get? a = some o /\ ObjOk H h a u
 | .tbl ps => h.get? a = some { cls := .none, data := .fields ps }
 | .met f x => h.get? a = some (PySem.W.methodObj (.ref f) (.ref x))
 | .ext φ => φ h /\ (∃ o, h.get? a = some o) /\ ∀ h1 h2 : Heap, φ h1 -> (∀ o, h1.get? a = some o -> h2.get? a = some o) -> φ h2
def HOk (H : Hp) (h : Heap) : Prop := ∀ a o, H a = some o -> ObjOk P w H h a o
end
section
variable {P : Program} {w : World} {H H' : Hp} {h h' : Heap} {a : Addr} {o : HO}
theorem ObjOk.lt (x : ObjOk P w H h a o) : a < h.objs.size := by
 cases o with
 | lst xs => obtain ⟨_, _, _, _, e⟩ := x; exact xw e
 | tup xs => obtain ⟨_, _, _, p⟩ := x; exact p.lt
 | dK kvs => obtain ⟨_, _, _, _, o, _, _, e, _⟩ := x; exact xw e
 | dT kvs => obtain ⟨_, _, _, _, o, _, _, e, _⟩ := x; exact xw e
 | set S n => obtain ⟨o, _, _, _, e, _⟩ := x; exact xw e
 | ins C dx fs => obtain ⟨_, _, _, e, _⟩ := x; exact xw e
 | own y => obtain ⟨_, e⟩ := x; exact xw e
 | xd fs => obtain ⟨_, ⟨_, _, _, e, _⟩, _⟩ := x; exact xw e
 | rng lo hi => obtain ⟨_, _, _, e⟩ := x; exact xw e
 | frz ob u => obtain ⟨e, _⟩ := x; exact xw e
 | tbl ps => exact xw (show h.get? a = some _ from x)
 | met f y => exact xw (show h.get? a = some _ from x)
 | ext φ => obtain ⟨_, ⟨_, e⟩, _⟩ := x; exact xw e
theorem Paired.mapP {α β : Type} {F G : α -> β -> Prop} : ∀ {l₁ : List α} {l₂ : List β}, Paired F l₁ l₂ -> (∀ a b, F a b -> G a b) -> Paired G l₁ l₂
 | _, _, .nil, _ => .nil
 | _, _, .cons r t, f => .cons (f _ _ r) (Paired.mapP t f)
theorem ObjOk.stay (x : ObjOk P w H h a o) (k : ∀ b u, (b = a \/ H b = some (.own a)) -> h.get? b = some u -> h'.get? b = some u)
 (ho : ∀ b, H b = some (.own a) -> H' b = some (.own a)) (ht : ∀ b xs, H b = some (.tup xs) -> H' b = some (.tup xs)) : ObjOk P w H' h' a o := by
 induction o with
 | lst xs => obtain ⟨z, its, n, r, e⟩ := x; exact ⟨z, its, n, r, k _ _ (.inl rfl) e⟩
 | tup xs => obtain ⟨z, its, r, ob, e, c⟩ := x; exact ⟨z, its, r, ob, k _ _ (.inl rfl) e, c⟩
 | dK kvs => obtain ⟨z, y, vs, r, ob, es, ep, e, c⟩ := x; exact ⟨z, y, vs, r, ob, es, ep, k _ _ (.inl rfl) e, c⟩
 | dT kvs =>
  obtain ⟨z, y, xs, r, ob, es, ep, e, c⟩ := x
  exact ⟨z, y, xs, Paired.mapP r fun p q z => ⟨z.1, ht _ _ z.2.1, z.2.2⟩, ob, es, ep, k _ _ (.inl rfl) e, c⟩
 | set S n => obtain ⟨ob, es, ep, t, e, c⟩ := x; exact ⟨ob, es, ep, t, k _ _ (.inl rfl) e, c⟩
 | ins C dx fs =>
  obtain ⟨d, z, ne, e, mA, ⟨od, es, ep, e2, c⟩, r⟩ := x
  exact ⟨ho _ d, z, ne, k _ _ (.inl rfl) e, mA, ⟨od, es, ep, k _ _ (.inr d) e2, c⟩, r⟩
 | own y => obtain ⟨ob, e⟩ := x; exact ⟨ob, k _ _ (.inl rfl) e⟩
 | xd fs => obtain ⟨mA, ⟨od, es, ep, e, c⟩, r⟩ := x; exact ⟨mA, ⟨od, es, ep, k _ _ (.inl rfl) e, c⟩, r⟩
 | rng lo hi => obtain ⟨t, u, v, e⟩ := x; exact ⟨t, u, v, k _ _ (.inl rfl) e⟩
 | frz ob u ih => obtain ⟨e, q⟩ := x; exact ⟨k _ _ (.inl rfl) e, ih q⟩
 | tbl ps =>
  have e : h.get? a = some { cls := .none, data := .fields ps } := x
  show h'.get? a = some { cls := .none, data := .fields ps }
  exact k a _ (.inl rfl) e
 | met f y =>
  have e : h.get? a = some (PySem.W.methodObj (.ref f) (.ref y)) := x
  show h'.get? a = some (PySem.W.methodObj (.ref f) (.ref y))
  exact k a _ (.inl rfl) e
 | ext φ => obtain ⟨p, ⟨o, e⟩, st⟩ := x; exact ⟨st _ _ p fun o q => k _ _ (.inl rfl) q, ⟨o, k _ _ (.inl rfl) e⟩, st⟩
theorem HOk.lt (x : HOk P w H h) (e : H a = some o) : a < h.objs.size := (x a o e).lt
theorem HOk.fresh (x : HOk P w H h) (e : h.objs.size <= a) : H a = none := by
 cases q : H a with
 | none => rfl
 | some u => exact absurd (uW (x.lt q) e) (ZR _)
theorem HOk.kept (x : HOk P w H h) (k : ∀ b u, h.get? b = some u -> h'.get? b = some u) : HOk P w H h' := fun a o e =>
 (x a o e).stay (fun b u _ q => k b u q) (fun _ q => q) fun _ _ q => q
theorem HOk.laid (x : HOk P w H h) (k : ∀ b u, h.get? b = some u -> h'.get? b = some u) (hp : h.objs.size <= a) (new : ObjOk P w (upd H a o) h' a o) : HOk P w (upd H a o) h' := fun b u e => by
 have hn := x.fresh hp
 by_cases hb : b = a
 ·subst hb; rw [al] at e; cases e; exact new
 ·rw [ay hb] at e
  exact (x b u e).stay (fun c v _ q => k c v q) (fun c q => by rw [ay (ar q hn)]; exact q) fun c xs q => by rw [ay (ar q hn)]; exact q
end
def Rd (H : Hp) (a : Addr) (u : HO) : Prop := H a = some u \/ ∃ o, H a = some (.frz o u)
theorem Rd.ok {P : Program} {w : World} {H : Hp} {h : Heap} {a : Addr} {u : HO} (r : Rd H a u) (x : HOk P w H h) : ObjOk P w H h a u := by
 rcases r with r | ⟨o, r⟩
 ·exact x a u r
 ·obtain ⟨_, q⟩ := x a _ r
  exact q
def Mut : Option HO -> Prop
 | some (.lst _) => True
 | some (.dK _) => True
 | some (.dT _) => True
 | some (.set _ _) => True
 | some (.ins _ _ _) => True
 | some (.ext _) => True
 | _ => False
section
variable {P : Program} {w : World} {H : Hp} {h h' : Heap} {x e : Addr} {o' : HO}
theorem HOk.write (ok : HOk P w H h) (mu : Mut (H x)) (he : e = x \/ H e = some (.own x)) (k : ∀ b u, b ≠ e -> h.get? b = some u -> h'.get? b = some u) (heo : ∃ u, h'.get? e = some u)
 (new : ObjOk P w (upd H x o') h' x o') : HOk P w (upd H x o') h' := fun b u q => by
 have nown : ∀ c y, H c = some (.own y) -> c ≠ x := fun c y r z => by subst z; rw [r] at mu; exact mu
 have ntup : ∀ c xs, H c = some (.tup xs) -> c ≠ x := fun c xs r z => by subst z; rw [r] at mu; exact mu
 by_cases hb : b = x
 ·subst hb; rw [al] at q; cases q; exact new
 ·rw [ay hb] at q
  by_cases hbe : b = e
  ·have q' : H b = some (.own x) := by
    rcases he with z | z
    ·exact absurd (hbe.trans z) hb
    ·rw [hbe]; exact z
   rw [q] at q'; cases q'
   obtain ⟨v, hv⟩ := heo
   exact ⟨v, by rw [hbe]; exact hv⟩
  ·refine (ok b u q).stay (fun c v hc r => k c v ?_ r) (fun c r => by rw [ay (nown c b r)]; exact r) fun c xs r => by rw [ay (ntup c xs r)]; exact r
   rcases hc with rfl | hc
   ·exact hbe
   ·rintro rfl
    rcases he with z | z
    ·exact nown c b hc z
    ·rw [hc] at z; cases z; exact hb rfl
end
structure Un (fs ex : List Addr) (H H' : Hp) (h h' : Heap) : Prop where
 keep : ∀ b o, h.get? b = some o -> H b = none -> b ∉ fs -> b ∉ ex -> h'.get? b = some o
 slot : ∀ b o, h.get? b = some o -> H b = none -> b ∈ fs -> b ∉ ex -> ∃ sl, h'.get? b = some { o with slots := sl }
 free : ∀ b o, h.get? b = some o -> H b = none -> b ∉ ex -> H' b = none
 there : ∀ b o, h.get? b = some o -> b ∉ ex -> ∃ o', h'.get? b = some o'
 tups : ∀ b xs, H b = some (.tup xs) -> H' b = some (.tup xs)
 frzs : ∀ b o u, H b = some (.frz o u) -> H' b = some (.frz o u)
 tbls : ∀ b ps, H b = some (.tbl ps) -> ∃ more, H' b = some (.tbl (ps ++ more))
section
variable {fs fs' ex ex' : List Addr} {H H1 H2 : Hp} {h h1 h2 h' : Heap} {a x e : Addr} {o : HO}
theorem Un.any (u : Un fs ex H H1 h h1) {b : Addr} {ob : Obj} (q : h.get? b = some ob) (n : H b = none) (hx : b ∉ ex) : ∃ sl, h1.get? b = some { ob with slots := sl } := by
 by_cases hb : b ∈ fs
 ·exact u.slot b ob q n hb hx
 ·exact ⟨ob.slots, u.keep b ob q n hb hx⟩
theorem Un.kept (k : ∀ b u, h.get? b = some u -> h'.get? b = some u) : Un fs ex H H h h' :=
 ⟨fun b ob q _ _ _ => k b ob q, fun b ob q _ _ _ => ⟨ob.slots, k b ob q⟩, fun _ _ _ n _ => n, fun b ob q _ => ⟨ob, k b ob q⟩, fun _ _ q => q, fun _ _ _ q => q, fun _ ps q => ⟨#[], by rw [q]; simp⟩⟩
theorem Un.refl : Un fs ex H H h h := Un.kept fun _ _ q => q
theorem Un.laid (k : ∀ b u, h.get? b = some u -> h'.get? b = some u) (hp : h.objs.size <= a) (hn : H a = none) : Un fs ex H (upd H a o) h h' where
 keep := fun b u q _ _ _ => k b u q
 slot := fun b u q _ _ _ => ⟨u.slots, k b u q⟩
 free := fun b u q n _ => by rw [ay (uZ (uW (xw q) hp))]; exact n
 there := fun b u q _ => ⟨u, k b u q⟩
 tups := fun b xs q => by rw [ay (ar q hn)]; exact q
 frzs := fun b u xs q => by rw [ay (ar q hn)]; exact q
 tbls := fun b ps q => ⟨#[], by rw [ay (ar q hn), q]; simp⟩
theorem Un.write (mu : Mut (H x)) (he : e = x \/ H e = some (.own x)) (k : ∀ b u, b ≠ e -> h.get? b = some u -> h'.get? b = some u) (heo : ∃ u, h'.get? e = some u) : Un fs ex H (upd H x o) h h' := by
 have hx : ∀ b, H b = none -> b ≠ x := fun b n z => by subst z; rw [n] at mu; exact mu
 have hb : ∀ b, H b = none -> b ≠ e := fun b n z => by
  subst z
  rcases he with r | r
  ·exact hx b n r
  ·rw [n] at r; cases r
 have hm : ∀ b u, H b = some u -> ¬ Mut (some u) -> b ≠ x := fun b u q nm z => by subst z; rw [q] at mu; exact nm mu
 refine ⟨fun b u q n _ _ => k b u (hb b n) q, fun b u q n _ _ => ⟨u.slots, k b u (hb b n) q⟩, fun b u q n _ => by rw [ay (hx b n)]; exact n, fun b u q _ => ?_,
  fun b xs q => by rw [ay (hm b _ q fun z => z)]; exact q, fun b u xs q => by rw [ay (hm b _ q fun z => z)]; exact q, fun b ps q => ⟨#[], by rw [ay (hm b _ q fun z => z), q]; simp⟩⟩
 by_cases hbe : b = e
 ·subst hbe; exact heo
 ·exact ⟨u, k b u hbe q⟩
end
def trk (h : Heap) (H : Hp) : List Addr := (uF h.objs.size).filter fun a => (H a).isSome
def vx (h : Heap) (H : Hp) : Heap := PySem.W.hideAll h (trk h H)
theorem AQ (h : Heap) (H : Hp) : (vx h H).objs.size = h.objs.size := PySem.W.hideAll_size _ _
theorem Bl {h : Heap} {H : Hp} {b : Addr} {o : Obj} (e : h.get? b = some o) (n : H b = none) : (vx h H).get? b = some o :=
 PySem.W.hideAll_get _ e fun hm => by
  have q : (H b).isSome = true := (Z3.mp hm).2
  rw [n] at q; simp at q
theorem D8 {h : Heap} {H : Hp} {b : Addr} {o : Obj} (e : (vx h H).get? b = some o) : h.get? b = some o /\ H b = none := by
 have e' : h.get? b = some o := PySem.W.of_hideAll (trk h H) e
 refine ⟨e', ?_⟩
 cases q : H b with
 | none => rfl
 | some x =>
  have hm : b ∈ trk h H := Z3.mpr ⟨YI.mpr (xw e'), by simp [q]⟩
  have z : (vx h H).get? b = none := PySem.W.hideAll_none (trk h H) hm
  rw [z] at e; cases e
def En (g h : Heap) (L : Addr) : List (Addr × Obj) := (uF h.objs.size).filterMap fun a => if a = L \/ (g.get? a).isSome = true then none else (h.get? a).map fun o => (a, o)
def rest (g h : Heap) (L d : Addr) : List (Addr × Obj) := (En g h L).filter fun p => decide (p.1 ≠ d)
end L2
namespace L2
open PySem PySem.Spec PyProof.Rows
structure Mod (K : W.Frag) (mg : Str -> Option Value) (base : Heap) : Prop where
 kin : K.In base
 glob : base.Ns uy mg
 blt : ∃ mb, base.Ns builtinsNs mb /\ ∀ x : Str, x ≠ "__name__" -> mb x = Zq x
 nolimit : base.NoLimit
structure Cx where
 prog : Program
 w : World
 K : W.Frag
 mg : Str -> Option Value
 base : Heap
 A : Around
 N : List Str
 s₀ : Shared
 H₀ : Hp
 env : Env
 outer : List Env
 stack : List Env
 ex : List Addr
 fn : Str -> Bool
 calm : Bool
 pn : List (Addr × Obj)
 xe : Value -> Shared -> Prop
def frs (l : List Env) : List Addr := l.filterMap (·.frame)
abbrev Cx.fs (X : Cx) : List Addr := frs X.outer
def Vis (sc : Scope) (x : Str) : Prop := sc.names.lookup x = some .local \/ sc.names.lookup x = some .cell \/ sc.names.lookup x = some .free
def Loc (sc : Scope) (x : Str) : Prop := sc.names.lookup x = some .local \/ sc.names.lookup x = some .cell
def Hv (env : Env) (h : Heap) (m : Str -> Option Value) (x : Str) (u : Value) : Prop :=
 (env.kindOf x = some .local /\ m x = some u) \/ ((env.kindOf x = some .cell \/ env.kindOf x = some .free) /\ ∃ c, env.cells.lookup x = some c /\ h.IsCell c (some u))
structure Cx.Ok (X : Cx) : Prop where
 mod : Mod X.K X.mg X.base
 kind : X.env.scope.kind = .function
 glob : X.env.globals = uy
 blt : X.env.builtins = builtinsNs
 above : X.s₀.heap.objs.size <= X.env.locals
 inj : ∀ x y c, X.env.cells.lookup x = some c -> X.env.cells.lookup y = some c -> x = y
 has : ∀ x, (X.env.kindOf x = some .cell \/ X.env.kindOf x = some .free) -> ∃ c, X.env.cells.lookup x = some c
 cab : ∀ x c, X.fn x = true -> X.env.cells.lookup x = some c -> X.s₀.heap.objs.size <= c
 hd : X.calm = true -> X.A.handled = none
 frames : X.A.frames = some X.stack
 stk : X.stack = X.outer \/ (X.stack = X.env :: X.outer /\ X.env.frame = some X.env.locals)
 exf : ∀ b ∈ X.ex, b ≠ X.env.locals /\ ∀ x c, X.env.cells.lookup x = some c -> c ≠ b
 bs : ∀ b o, X.base.get? b = some o -> X.s₀.heap.get? b = some o /\ X.H₀ b = none
 bsz : X.base.objs.size <= X.s₀.heap.objs.size
 noex : ∀ b o, X.base.get? b = some o -> b ∉ X.ex
 exfs : ∀ b ∈ X.ex, b ∉ X.fs
 funs : X.s₀.heap.FunFrames X.base X.outer
 frf : ∀ b ∈ X.fs, X.H₀ b = none
structure Inv (X : Cx) (pins : List (Addr × Obj)) (σ : List (Option V)) (H : Hp) (s : Shared) : Prop where
 ok : X.Ok
 os : s.os = X.s₀.os
 bare : AllBare s.gens
 base : Un X.fs X.ex X.H₀ H X.s₀.heap s.heap
 loc : ∃ m, s.heap.Ns X.env.locals m /\ ∀ (i : Nat) (x : Str) (v : V), X.N[i]? = some x -> σ[i]? = some (some v) -> Vis X.env.scope x -> ∃ u, RelV v u /\ Hv X.env s.heap m x u
 cell : ∀ x c, X.env.cells.lookup x = some c -> ∃ v, s.heap.IsCell c v
 free : H X.env.locals = none
 freeC : ∀ x c, X.env.cells.lookup x = some c -> H c = none
 pin : ∀ p ∈ X.pn ++ pins, s.heap.get? p.1 = some p.2 /\ H p.1 = none /\ p.1 ≠ X.env.locals /\ p.1 ∉ X.fs /\ ∀ v, p.2.data ≠ .cell v
 hok : HOk X.prog X.w H s.heap
 len : σ.length = X.N.length
section
variable {X : Cx} {pins : List (Addr × Obj)} {σ : List (Option V)} {H H' : Hp} {s : Shared} {h' : Heap}
theorem Cx.Ok.nofr (ok : X.Ok) {b : Addr} {o : Obj} (e : X.base.get? b = some o) : b ∉ X.fs := fun hb => by
 have := (ok.funs.mem hb).1
 rw [e] at this; cases this
theorem Inv.bs (I : Inv X pins σ H s) : ∀ b o, X.base.get? b = some o -> s.heap.get? b = some o /\ H b = none := fun b o e =>
 ⟨I.base.keep b o (I.ok.bs b o e).1 (I.ok.bs b o e).2 (I.ok.nofr e) (I.ok.noex b o e), I.base.free b o (I.ok.bs b o e).1 (I.ok.bs b o e).2 (I.ok.noex b o e)⟩
theorem Inv.bk (I : Inv X pins σ H s) : ∀ b o, X.base.get? b = some o -> s.heap.get? b = some o := fun b o e => (I.bs b o e).1
theorem Inv.mod (I : Inv X pins σ H s) : Mod X.K X.mg X.base := I.ok.mod
theorem Inv.kIn (I : Inv X pins σ H s) : X.K.In s.heap := I.ok.mod.kin.keeps I.bk
theorem Inv.lt (I : Inv X pins σ H s) : X.env.locals < s.heap.objs.size := let ⟨_, hn, _⟩ := I.loc; hn.lt
theorem Inv.sz (I : Inv X pins σ H s) : X.s₀.heap.objs.size <= s.heap.objs.size := sC I.ok.above (Nat.le_of_lt I.lt)
theorem Inv.nofs (I : Inv X pins σ H s) {a : Addr} (h : s.heap.objs.size <= a) : a ∉ X.fs := fun hb => by
 obtain ⟨_, o, ho, _⟩ := I.ok.funs.mem hb
 exact absurd (uW (xw ho) (sC I.sz h)) (ZR _)
theorem Inv.cne (I : Inv X pins σ H s) : ∀ x c, X.env.cells.lookup x = some c -> c ≠ X.env.locals := fun x c e z => by
 obtain ⟨v, o, ho, hd⟩ := I.cell x c e
 obtain ⟨m, ⟨o', es, ep, ho', hd', _⟩, _⟩ := I.loc
 rw [z, ho'] at ho; cases ho; rw [hd'] at hd; cases hd
theorem Inv.funs (I : Inv X pins σ H s) : s.heap.FunFrames X.base X.outer := by
 have all : ∀ (l : List Env), (∀ b ∈ frs l, b ∈ X.fs) -> X.s₀.heap.FunFrames X.base l -> s.heap.FunFrames X.base l := by
  intro l
  induction l with
  | nil => intro _ _; trivial
  | cons env r ih =>
   intro hs hl
   obtain ⟨hk, ⟨L, o, hf, hn, ho, hd⟩, hr⟩ := hl
   have hL : L ∈ X.fs := hs L (by unfold frs; rw [List.filterMap_cons, hf]; exact Zt)
   obtain ⟨sl, e⟩ := I.base.slot L o ho (I.ok.frf L hL) hL fun z => I.ok.exfs L z hL
   exact ⟨hk, ⟨L, _, hf, hn, e, hd⟩, ih (fun b hb => hs b (by unfold frs; rw [List.filterMap_cons, hf]; exact ue _ hb)) hr⟩
 exact all X.outer (fun _ hb => hb) I.ok.funs
theorem Inv.stack (I : Inv X pins σ H s) : s.heap.FunFrames X.base X.stack := by
 rcases I.ok.stk with e | ⟨e, hf⟩
 ·rw [e]; exact I.funs
 ·rw [e]
  obtain ⟨m, hn, _⟩ := I.loc
  refine .cons (by rw [I.ok.kind]; decide) hf hn ?_ I.funs
  exact Heap.get?_none_of_le (sC I.ok.bsz I.ok.above)
theorem Inv.stkSub (I : Inv X pins σ H s) : ∀ b ∈ frs X.stack, b ∈ X.env.locals :: X.fs := fun b hb => by
 rcases I.ok.stk with e | ⟨e, hf⟩
 ·rw [e] at hb; exact ue _ hb
 ·rw [e] at hb
  unfold frs at hb
  rw [List.filterMap_cons, hf] at hb
  exact hb
theorem Inv.stkFree (I : Inv X pins σ H s) : ∀ b ∈ frs X.stack, H b = none := fun b hb => by
 rcases ve.mp (I.stkSub b hb) with e | hb
 ·rw [e]; exact I.free
 ·obtain ⟨_, o, ho, _⟩ := I.ok.funs.mem hb
  exact I.base.free b o ho (I.ok.frf b hb) fun z => I.ok.exfs b z hb
theorem Inv.step {g' : Array GenState} {t' : Nat} {d' : Drawn} {ch : List Addr} (I : Inv X pins σ H s)
 (hch : ∀ b ∈ ch, (b ∈ X.ex \/ X.s₀.heap.objs.size <= b) /\ b ≠ X.env.locals /\ (∀ x c, X.env.cells.lookup x = some c -> c ≠ b) /\ ∀ p ∈ X.pn ++ pins, p.1 ≠ b)
 (keep : ∀ b o, b ≠ X.env.locals -> b ∉ X.fs -> b ∉ ch -> s.heap.get? b = some o -> H b = none -> h'.get? b = some o)
 (slot : ∀ b o, b ≠ X.env.locals -> b ∈ X.fs -> b ∉ ch -> s.heap.get? b = some o -> H b = none -> ∃ sl, h'.get? b = some { o with slots := sl }) (free : ∀ b o, b ∉ ch -> s.heap.get? b = some o -> H b = none -> H' b = none)
 (there : ∀ b o, b ∉ ch -> s.heap.get? b = some o -> ∃ o', h'.get? b = some o')
 (tups : ∀ b xs, H b = some (.tup xs) -> H' b = some (.tup xs)) (frzs : ∀ b o u, H b = some (.frz o u) -> H' b = some (.frz o u)) (tbls : ∀ b ps, H b = some (.tbl ps) -> ∃ more, H' b = some (.tbl (ps ++ more)))
 (ns : ∀ m, s.heap.Ns X.env.locals m -> h'.Ns X.env.locals m) (hok : HOk X.prog X.w H' h') (hg : AllBare g') :
 Inv X pins σ H' { s with heap := h', gens := g', drawn := d', toks := t' } := by
 have neL : ∀ b o, X.s₀.heap.get? b = some o -> b ≠ X.env.locals := fun b o e => uZ (uW (xw e) I.ok.above)
 have neC : ∀ b o, X.s₀.heap.get? b = some o -> b ∉ X.ex -> b ∉ ch := fun b o e hx hb => by
  rcases (hch b hb).1 with z | z
  ·exact hx z
  ·exact absurd (uW (xw e) z) (ZR _)
 have cellK : ∀ x c, X.env.cells.lookup x = some c -> ∀ v, s.heap.IsCell c v -> h'.IsCell c v := fun x c e v ⟨o, ho, hd⟩ => by
  have nch : c ∉ ch := fun z => (hch c z).2.2.1 x c e rfl
  by_cases hc : c ∈ X.fs
  ·obtain ⟨sl, q⟩ := slot c o (I.cne x c e) hc nch ho (I.freeC x c e)
   exact ⟨_, q, hd⟩
  ·exact ⟨o, keep c o (I.cne x c e) hc nch ho (I.freeC x c e), hd⟩
 refine ⟨I.ok, I.os, hg, ⟨fun b o e n hb hx => ?_, fun b o e n hb hx => ?_, fun b o e n hx => ?_, fun b o e hx => ?_, fun b xs e => tups b xs (I.base.tups b xs e), fun b o xs e => frzs b o xs (I.base.frzs b o xs e), fun b ps e => ?_⟩, ?_, fun x c e => ?_, ?_, fun x c e => ?_, fun p hp => ?_, hok, I.len⟩
 ·exact keep b o (neL b o e) hb (neC b o e hx) (I.base.keep b o e n hb hx) (I.base.free b o e n hx)
 ·obtain ⟨sl, e1⟩ := I.base.slot b o e n hb hx
  obtain ⟨sl', e2⟩ := slot b _ (neL b o e) hb (neC b o e hx) e1 (I.base.free b o e n hx)
  exact ⟨sl', e2⟩
 ·obtain ⟨o', e1⟩ := I.base.there b o e hx
  exact free b o' (neC b o e hx) e1 (I.base.free b o e n hx)
 ·obtain ⟨o', e1⟩ := I.base.there b o e hx
  exact there b o' (neC b o e hx) e1
 ·obtain ⟨m1, e1⟩ := I.base.tbls b ps e
  obtain ⟨m2, e2⟩ := tbls b _ e1
  exact ⟨m1 ++ m2, by rw [e2, Array.append_assoc]⟩
 ·obtain ⟨m, hn, hl⟩ := I.loc
  refine ⟨m, ns m hn, fun i x v e1 e2 e3 => ?_⟩
  obtain ⟨u, r, l⟩ := hl i x v e1 e2 e3
  refine ⟨u, r, ?_⟩
  rcases l with l | ⟨k, c, e, z⟩
  ·exact .inl l
  ·exact .inr ⟨k, c, e, cellK x c e _ z⟩
 ·obtain ⟨v, z⟩ := I.cell x c e
  exact ⟨v, cellK x c e v z⟩
 ·obtain ⟨m, ⟨o, _, _, ho, _⟩, _⟩ := I.loc
  exact free _ o (fun z => (hch _ z).2.1 rfl) ho I.free
 ·obtain ⟨v, o, ho, hd⟩ := I.cell x c e
  exact free c o (fun z => (hch c z).2.2.1 x c e rfl) ho (I.freeC x c e)
 ·obtain ⟨e, n, ne, nf, d⟩ := I.pin p hp
  have nch : p.1 ∉ ch := fun z => (hch p.1 z).2.2.2 p hp rfl
  exact ⟨keep p.1 p.2 ne nf nch e n, free p.1 p.2 nch e n, ne, nf, d⟩
theorem Inv.un {t' : Nat} (I : Inv X pins σ H s) (u : Un X.fs [] H H' s.heap h') (hok : HOk X.prog X.w H' h') : Inv X pins σ H' { s with heap := h', toks := t' } := by
 obtain ⟨m, ⟨o, es, ep, ho, r⟩, _⟩ := id I.loc
 obtain ⟨sl, hL⟩ := u.any ho I.free (by simp)
 exact I.step (g' := s.gens) (d' := s.drawn) (ch := []) (fun _ z => nomatch z) (fun b o _ hb _ e n => u.keep b o e n hb (by simp)) (fun b o _ hb _ e n => u.slot b o e n hb (by simp)) (fun b o _ e n => u.free b o e n (by simp)) (fun b o _ e => u.there b o e (by simp)) u.tups u.frzs u.tbls (fun m' hm => by
  obtain ⟨o', es', ep', ho', r'⟩ := hm
  rw [ho] at ho'; cases ho'
  exact ⟨_, es', ep', hL, r'⟩) hok I.bare
theorem Inv.call {g' : Array GenState} {t' : Nat} {d' : Drawn} {ch : List Addr} (I : Inv X pins σ H s) (u : Un (frs X.stack) ch H H' s.heap h') (hok : HOk X.prog X.w H' h') (hg : AllBare g')
 (hch : ∀ b ∈ ch, (b ∈ X.ex \/ X.s₀.heap.objs.size <= b) /\ b ≠ X.env.locals /\ (∀ x c, X.env.cells.lookup x = some c -> c ≠ b) /\ ∀ p ∈ X.pn ++ pins, p.1 ≠ b) :
 Inv X pins σ H' { s with heap := h', gens := g', drawn := d', toks := t' } := by
 obtain ⟨m, ⟨o, es, ep, ho, r⟩, _⟩ := id I.loc
 obtain ⟨sl, hL⟩ := u.any ho I.free fun z => (hch _ z).2.1 rfl
 exact I.step (ch := ch) hch (fun b o hL hb hc e n => u.keep b o e n (fun z => (ve.mp (I.stkSub b z)).elim hL hb) hc) (fun b o _ _ hc e n => u.any e n hc) (fun b o hc e n => u.free b o e n hc) (fun b o hc e => u.there b o e hc) u.tups u.frzs u.tbls (fun m' hm => by
  obtain ⟨o', es', ep', ho', r'⟩ := hm
  rw [ho] at ho'; cases ho'
  exact ⟨_, es', ep', hL, r'⟩) hok hg
theorem Inv.turned {t' : Nat} {it : Addr} (I : Inv X pins σ H s) (k : ∀ b o, b ≠ it -> s.heap.get? b = some o -> h'.get? b = some o) (hn : H it = none) (hL : it ≠ X.env.locals)
 (h1 : it ∈ X.ex \/ X.s₀.heap.objs.size <= it) (h2 : ∀ x c, X.env.cells.lookup x = some c -> c ≠ it) (h3 : ∀ p ∈ X.pn ++ pins, p.1 ≠ it) : Inv X pins σ H { s with heap := h', toks := t' } := by
 have nit : ∀ b u, H b = some u -> b ≠ it := fun b u e z => by rw [z, hn] at e; cases e
 refine I.step (g' := s.gens) (d' := s.drawn) (ch := [it]) (fun b hb => ?_) (fun b o _ _ hc e _ => k b o (fun z => hc (by simp [z])) e) (fun b o _ _ hc e _ => ⟨o.slots, k b o (fun z => hc (by simp [z])) e⟩) (fun _ _ _ _ n => n)
  (fun b o hc e => ⟨o, k b o (fun z => hc (by simp [z])) e⟩) (fun _ _ e => e) (fun _ _ _ e => e) (fun b ps e => ⟨#[], by rw [e]; simp⟩) (fun m hm => ?_) (fun b u e => ?_) I.bare
 ·have e : b = it := by simpa using hb
  subst e
  exact ⟨h1, hL, h2, h3⟩
 ·obtain ⟨o, es, ep, ho, r⟩ := hm
  exact ⟨o, es, ep, k _ o (Ne.symm hL) ho, r⟩
 ·refine (I.hok b u e).stay (fun c v hc q => k c v ?_ q) (fun _ q => q) fun _ _ q => q
  rcases hc with z | z
  ·rw [z]; exact nit b u e
  ·exact nit c _ z
theorem Inv.tok (I : Inv X pins σ H s) (t : Nat) : Inv X pins σ H { s with toks := t } := I.un (h' := s.heap) (t' := t) Un.refl I.hok
theorem Inv.kept {t' : Nat} (I : Inv X pins σ H s) (k : ∀ b u, s.heap.get? b = some u -> h'.get? b = some u) : Inv X pins σ H { s with heap := h', toks := t' } := I.un (Un.kept k) (I.hok.kept k)
theorem Inv.laid {a : Addr} {o : HO} {t' : Nat} (I : Inv X pins σ H s) (k : ∀ b u, s.heap.get? b = some u -> h'.get? b = some u) (hp : s.heap.objs.size <= a) (new : ObjOk X.prog X.w (upd H a o) h' a o) :
 Inv X pins σ (upd H a o) { s with heap := h', toks := t' } := I.un (Un.laid k hp (I.hok.fresh hp)) (I.hok.laid k hp new)
theorem Inv.write {x e : Addr} {o : HO} {t' : Nat} (I : Inv X pins σ H s) (mu : Mut (H x)) (he : e = x \/ H e = some (.own x)) (k : ∀ b u, b ≠ e -> s.heap.get? b = some u -> h'.get? b = some u) (heo : ∃ u, h'.get? e = some u)
 (new : ObjOk X.prog X.w (upd H x o) h' x o) : Inv X pins σ (upd H x o) { s with heap := h', toks := t' } := I.un (Un.write mu he k heo) (I.hok.write mu he k heo new)
theorem Inv.pins_of {pins' : List (Addr × Obj)} (I : Inv X pins σ H s) (h : ∀ p ∈ pins', s.heap.get? p.1 = some p.2 /\ H p.1 = none /\ p.1 ≠ X.env.locals /\ p.1 ∉ X.fs /\ ∀ v, p.2.data ≠ .cell v) : Inv X pins' σ H s :=
 ⟨I.ok, I.os, I.bare, I.base, I.loc, I.cell, I.free, I.freeC, fun p hp => (uO.mp hp).elim (fun z => I.pin p (YG _ z)) (h p), I.hok, I.len⟩
theorem rF {N : List Str} (hN : N.Nodup) {i j : Nat} {x : Str} (a : N[i]? = some x) (b : N[j]? = some x) : i = j := by
 obtain ⟨h1, e1⟩ := List.getElem?_eq_some_iff.mp a
 obtain ⟨h2, e2⟩ := List.getElem?_eq_some_iff.mp b
 exact (List.getElem_inj hN).mp (e1.trans e2.symm)
theorem uK {M : Model} {A : Around} {E : Value -> Shared -> Prop} {i : Nat} {x : Str} {v : V} {u : Value} {Q : Unit -> Shared -> Prop} (I : Inv X pins σ H s) (hN : X.N.Nodup) (hi : X.N[i]? = some x) (hx : Loc X.env.scope x) (r : RelV v u)
 (h : ∀ s', Inv X pins (σ.set i (some v)) H s' -> (∃ a, ZQ a s.heap s'.heap /\ (a = X.env.locals \/ X.env.cells.lookup x = some a)) -> Q () s') (hf : X.fn x = true \/ X.env.scope.names.lookup x = some .local := by first | exact .inl rfl | exact .inr rfl | assumption) : wpAny M A (storeName X.env x u) Q E s := by
 obtain ⟨m, hn, hl⟩ := id I.loc
 have hcls : (X.env.scope.kind == .class || (X.env.scope.kind == .module && X.env.locals != X.env.globals)) = false := by rw [I.ok.kind]; rfl
 have hiσ : i < σ.length := by rw [I.len]; exact (List.getElem?_eq_some_iff.mp hi).1
 have cne := I.cne
 have tracked : ∀ {a : Addr} {h' : Heap}, (∃ o, s.heap.get? a = some o /\ H a = none) -> ZQ a s.heap h' -> HOk X.prog X.w H h' := fun {a h'} ha hs b ob e => by
  obtain ⟨_, _, hfree⟩ := ha
  refine (I.hok b ob e).stay (fun c w' hc q => (hs.2 c ?_).trans q) (fun _ q => q) fun _ _ q => q
  rintro rfl
  rcases hc with rfl | hc
  ·rw [hfree] at e; cases e
  ·rw [hfree] at hc; cases hc
 rcases hx with hk | hk
 ·refine wpAny_storeName_local hk hn (fun h' hn' hs => ?_) hcls
  obtain ⟨oL, _, _, hoL, _⟩ := id hn
  refine h _ ⟨I.ok, I.os, I.bare, ⟨fun b o e n hb hx => ?_, fun b o e n hb hx => ?_, I.base.free, fun b o e hx => ?_, I.base.tups, I.base.frzs, I.base.tbls⟩, ⟨_, hn', fun j y v' e1 e2 e3 => ?_⟩, fun y c e => ?_, I.free, I.freeC, fun p hp => ?_, tracked ⟨oL, hoL, I.free⟩ hs, by simpa using I.len⟩ ⟨_, hs, .inl rfl⟩
  ·exact (hs.2 b (uZ (uW (xw e) I.ok.above))).trans (I.base.keep b o e n hb hx)
  ·obtain ⟨sl, e1⟩ := I.base.slot b o e n hb hx
   exact ⟨sl, (hs.2 b (uZ (uW (xw e) I.ok.above))).trans e1⟩
  ·obtain ⟨o', e1⟩ := I.base.there b o e hx
   exact ⟨o', (hs.2 b (uZ (uW (xw e) I.ok.above))).trans e1⟩
  ·by_cases hj : j = i
   ·subst hj
    rw [hi] at e1; cases e1
    rw [List.getElem?_set_self hiσ] at e2
    cases e2
    exact ⟨u, r, .inl ⟨hk, by simp⟩⟩
   ·rw [List.getElem?_set_ne (Ne.symm hj)] at e2
    obtain ⟨u', r', q⟩ := hl j y v' e1 e2 e3
    refine ⟨u', r', ?_⟩
    rcases q with ⟨k, e⟩ | ⟨k, c, e, z⟩
    ·refine .inl ⟨k, ?_⟩
     have : y ≠ x := fun e => hj (rF hN e1 (e ▸ hi))
     simp [this, e]
    ·exact .inr ⟨k, c, e, z.sameBut hs (cne y c e)⟩
  ·obtain ⟨w', z⟩ := I.cell y c e
   exact ⟨w', z.sameBut hs (cne y c e)⟩
  ·obtain ⟨e, n, ne, nf, d⟩ := I.pin p hp
   exact ⟨(hs.2 p.1 ne).trans e, n, ne, nf, d⟩
 ·have hfn : X.fn x = true := by
   rcases hf with z | z
   ·exact z
   ·rw [z] at hk; cases hk
  obtain ⟨c, hc⟩ := I.ok.has x (.inl hk)
  obtain ⟨w', z⟩ := I.cell x c hc
  refine wpAny_storeName_cell I.ok.kind hk hc z (fun h' hc' hs => ?_)
  obtain ⟨oc, hoc, hocd⟩ := id z
  refine h { s with heap := h' } ⟨I.ok, I.os, I.bare, ⟨fun b o e n hb hx => ?_, fun b o e n hb hx => ?_, I.base.free, fun b o e hx => ?_, I.base.tups, I.base.frzs, I.base.tbls⟩, ⟨m, hn.sameBut hs (Ne.symm (cne x c hc)), fun j y v' e1 e2 e3 => ?_⟩, fun y c' e => ?_, I.free, I.freeC, fun p hp => ?_, tracked ⟨oc, hoc, I.freeC x c hc⟩ hs, by simpa using I.len⟩ ⟨c, hs, .inr hc⟩
  ·exact (hs.2 b (uZ (uW (xw e) (I.ok.cab x c hfn hc)))).trans (I.base.keep b o e n hb hx)
  ·obtain ⟨sl, e1⟩ := I.base.slot b o e n hb hx
   exact ⟨sl, (hs.2 b (uZ (uW (xw e) (I.ok.cab x c hfn hc)))).trans e1⟩
  ·obtain ⟨o', e1⟩ := I.base.there b o e hx
   exact ⟨o', (hs.2 b (uZ (uW (xw e) (I.ok.cab x c hfn hc)))).trans e1⟩
  ·by_cases hj : j = i
   ·subst hj
    rw [hi] at e1; cases e1
    rw [List.getElem?_set_self hiσ] at e2
    cases e2
    exact ⟨u, r, .inr ⟨.inl hk, c, hc, hc'⟩⟩
   ·rw [List.getElem?_set_ne (Ne.symm hj)] at e2
    obtain ⟨u', r', q⟩ := hl j y v' e1 e2 e3
    refine ⟨u', r', ?_⟩
    rcases q with q | ⟨k, c', e, z'⟩
    ·exact .inl q
    ·refine .inr ⟨k, c', e, z'.sameBut hs ?_⟩
     rintro rfl
     exact hj (rF hN e1 (I.ok.inj _ _ _ e hc ▸ hi))
  ·by_cases hcc : c' = c
   ·subst hcc; exact ⟨_, hc'⟩
   ·obtain ⟨w2, z2⟩ := I.cell y c' e
    exact ⟨w2, z2.sameBut hs hcc⟩
  ·obtain ⟨e, n, ne, nf, d⟩ := I.pin p hp
   refine ⟨(hs.2 p.1 ?_).trans e, n, ne, nf, d⟩
   intro q
   rw [q, hoc] at e
   have q' : oc = p.2 := Zm e
   exact d w' (by rw [<- q']; exact hocd)
theorem rG {M : Model} {A : Around} {E : Value -> Shared -> Prop} {i : Nat} {x : Str} {v : V} {u : Value} {Q : Unit -> Shared -> Prop} (I : Inv X pins σ H s) (hN : X.N.Nodup) (hi : X.N[i]? = some x) (hx : Loc X.env.scope x) (r : RelV v u)
 (h : ∀ s', Inv X pins (σ.set i (some v)) H s' -> Q () s') (hf : X.fn x = true \/ X.env.scope.names.lookup x = some .local := by first | exact .inl rfl | exact .inr rfl | assumption) : wpAny M A (storeName X.env x u) Q E s :=
 uK I hN hi hx r (fun s' I' _ => h s' I') hf
theorem Inv.call' {s' : Shared} {ch : List Addr} (I : Inv X pins σ H s) (ho : s'.os = s.os) (u : Un (frs X.stack) ch H H' s.heap s'.heap) (hok : HOk X.prog X.w H' s'.heap) (hg : AllBare s'.gens)
 (hch : ∀ b ∈ ch, (b ∈ X.ex \/ X.s₀.heap.objs.size <= b) /\ b ≠ X.env.locals /\ (∀ x c, X.env.cells.lookup x = some c -> c ≠ b) /\ ∀ p ∈ X.pn ++ pins, p.1 ≠ b) : Inv X pins σ H' s' := by
 obtain ⟨h', g', d', t', o'⟩ := s'
 have e : o' = s.os := ho
 subst e
 exact I.call (g' := g') (t' := t') (d' := d') u hok hg hch
end
abbrev XK := Value -> Option Addr -> Hp -> Prop
abbrev St := List (Option V)
abbrev VK := V -> Hp -> Prop
abbrev TE := St -> Hp -> VK -> Prop
abbrev TT := St -> Hp -> (Bool -> Hp -> Prop) -> Prop
abbrev TA := St -> Hp -> (List V -> Hp -> Prop) -> Prop
structure fA where
 nx : St -> Hp -> Prop
 rt : VK
 bk : St -> Hp -> Prop := fun _ _ => False
 ct : St -> Hp -> Prop := fun _ _ => False
abbrev TS := fA -> St -> Hp -> Prop
def EP (X : Cx) (pins : List (Addr × Obj)) (σ : St) (Q : VK) (u : Value) (s' : Shared) : Prop := ∃ v H', Inv X pins σ H' s' /\ RelV v u /\ Q v H'
def TP (X : Cx) (pins : List (Addr × Obj)) (σ : St) (Q : Bool -> Hp -> Prop) (b : Bool) (s' : Shared) : Prop := ∃ H', Inv X pins σ H' s' /\ Q b H'
def AP (X : Cx) (pins : List (Addr × Obj)) (σ : St) (Q : List V -> Hp -> Prop) (us : List Value) (s' : Shared) : Prop := ∃ vs H', Inv X pins σ H' s' /\ Vals vs us /\ Q vs H'
def SP (X : Cx) (pins : List (Addr × Obj)) (D : fA) (f : Flow) (s' : Shared) : Prop :=
 match f with
 | .next => ∃ σ' H', Inv X pins σ' H' s' /\ D.nx σ' H'
 | .brk => ∃ σ' H', Inv X pins σ' H' s' /\ D.bk σ' H'
 | .cont => ∃ σ' H', Inv X pins σ' H' s' /\ D.ct σ' H'
 | .ret u => ∃ v σ' H', Inv X pins σ' H' s' /\ RelV v u /\ D.rt v H'
def PE (X : Cx) (e : Expr) (t : TE) : Prop :=
 ∀ (pins : List (Addr × Obj)) (s : Shared) (σ : St) (H : Hp) (Q : VK), Inv X pins σ H s -> t σ H Q -> wpAny (model X.prog X.w) X.A (eval e X.env) (EP X pins σ Q) X.xe s
def PT (X : Cx) (e : Expr) (t : TT) : Prop :=
 ∀ (pins : List (Addr × Obj)) (s : Shared) (σ : St) (H : Hp) (Q : Bool -> Hp -> Prop), Inv X pins σ H s -> t σ H Q -> wpAny (model X.prog X.w) X.A (isTrue e X.env (eval e X.env)) (TP X pins σ Q) X.xe s
def PW (X : Cx) (e : Expr) (t : TT) : Prop :=
 ∀ (whole : Sem Value) (pins : List (Addr × Obj)) (s : Shared) (σ : St) (H : Hp) (Q : Bool -> Hp -> Prop), Inv X pins σ H s -> t σ H Q -> wpAny (model X.prog X.w) X.A (isTrue e X.env whole) (TP X pins σ Q) X.xe s
theorem PW.pt {X : Cx} {e : Expr} {t : TT} (h : PW X e t) : PT X e t := h _
def PA (X : Cx) (es : List Expr) (t : TA) : Prop :=
 ∀ (pos : Pos) (pins : List (Addr × Obj)) (s : Shared) (σ : St) (H : Hp) (Q : List V -> Hp -> Prop), Inv X pins σ H s -> t σ H Q -> wpAny (model X.prog X.w) X.A (spliced (backTo pos (starEach es X.env))) (AP X pins σ Q) X.xe s
def PS (X : Cx) (st : Stmt) (t : TS) : Prop :=
 ∀ (pins : List (Addr × Obj)) (s : Shared) (σ : St) (H : Hp) (D : fA), Inv X pins σ H s -> t D σ H -> wpAny (model X.prog X.w) X.A (exec st X.env) (SP X pins D) X.xe s
def PSs (X : Cx) (st : List Stmt) (t : TS) : Prop :=
 ∀ (pins : List (Addr × Obj)) (s : Shared) (σ : St) (H : Hp) (D : fA), Inv X pins σ H s -> t D σ H -> wpAny (model X.prog X.w) X.A (execs st X.env) (SP X pins D) X.xe s
theorem thn {α : Type} {t : Sem α} {Q Q' : α -> Shared -> Prop} {M : Model} {A : Around} {E : Value -> Shared -> Prop} {s : Shared} (h : wpAny M A t Q E s) (hQ : ∀ a s, Q a s -> Q' a s) : wpAny M A t Q' E s := Zr h hQ fun _ _ x => x
end L2
namespace L2
open PySem PySem.Spec PyProof.Rows
section
variable {X : Cx}
theorem bin {a b : Expr} {ta tb : TE} (ha : PE X a ta) (hb : PE X b tb) {pins : List (Addr × Obj)} {s : Shared} {σ : St} {H : Hp} {R : V -> V -> Hp -> Prop} (I : Inv X pins σ H s) (h : ta σ H fun x H1 => tb σ H1 fun y H2 => R x y H2)
 {α : Type} {Q : α -> Shared -> Prop} {f : Value -> Value -> Sem α}
 (hf : ∀ v u s2 x y H2, Inv X pins σ H2 s2 -> RelV x v -> RelV y u -> R x y H2 -> wpAny (model X.prog X.w) X.A (f v u) Q X.xe s2) :
 wpAny (model X.prog X.w) X.A (eval a X.env) (fun v s₁ => wpAny (model X.prog X.w) X.A (eval b X.env) (fun u s₂ => wpAny (model X.prog X.w) X.A (f v u) Q X.xe s₂) X.xe s₁) X.xe s := by
 refine thn (ha pins s σ H _ I h) fun v s1 ⟨x, H1, I1, r1, q1⟩ => ?_
 refine thn (hb pins s1 σ H1 _ I1 q1) fun u s2 ⟨y, H2, I2, r2, q2⟩ => ?_
 exact hf v u s2 x y H2 I2 r1 r2 q2
def Hr (i : Nat) : TE := fun σ H Q => ∃ v, σ[i]? = some (some v) /\ Q v H
def tC (v : V) : TE := fun _ H Q => Q v H
theorem FD {i : Nat} {x : Str} {pos : Pos} (hN : X.N[i]? = some x) (hv : Vis X.env.scope x) (hd : (x == ("__debug__" : Str)) = false := by decide) (hcd : (x == ("__classdict__" : Str)) = false := by decide) : PE X (.Name x pos) (Hr i) := by
 intro pins s σ H Q I h
 obtain ⟨v, e, h⟩ := h
 obtain ⟨m, hn, hl⟩ := I.loc
 obtain ⟨u, r, l⟩ := hl i x v hN e hv
 have fin : EP X pins σ Q u s := ⟨v, H, I, r, h⟩
 rcases l with ⟨hk, hm⟩ | ⟨hk, c, hc, hcell⟩
 ·exact wpAny_Name (wpAny_loadName_local I.ok.kind hk hn hm fin) hd
 ·rcases hk with hk | hk
  ·exact wpAny_Name (wpAny_loadName_cell I.ok.kind hk hc hcell fin) hd
  ·exact wpAny_Name (wpAny_loadName_free I.ok.kind hk hc hcell fin hcd) hd
theorem ac {i j pos} : PE X (.Constant (.int i) j pos) (tC (.int i)) := fun _ _ _ H _ I h => wpAny_Constant_int ⟨.int i, H, I.tok _, ⟨_, rfl⟩, h⟩
theorem dk {b j pos} : PE X (.Constant (.bool b) j pos) (tC (.bl b)) := fun _ _ _ H _ I h => Constant_bool ⟨.bl b, H, I, rfl, h⟩
theorem fS {j pos} : PE X (.Constant .none j pos) (tC .non) := fun _ _ _ H _ I h => Constant_none ⟨.non, H, I, rfl, h⟩
theorem Ff {x j pos} : PE X (.Constant (.str x) j pos) (tC (.str x)) := fun _ _ _ H _ I h => Calls.Constant_str ⟨.str x, H, I.tok _, ⟨_, rfl⟩, h⟩
def Gl (X : Cx) (x : Str) : Prop := X.env.kindOf x = some .globalImplicit
theorem il {E : Value -> Shared -> Prop} {pins : List (Addr × Obj)} {s : Shared} {σ : St} {H : Hp} {x : Str} {u : Value} {pos : Pos} {Q : Value -> Shared -> Prop} (I : Inv X pins σ H s) (hg : Gl X x) (hm : X.mg x = some u) (h : Q u s)
 (hd : (x == ("__debug__" : Str)) = false := by decide) : wpAny (model X.prog X.w) X.A (eval (.Name x pos) X.env) Q E s :=
 Calls.Name_function_global I.ok.kind hg (Calls.loadGlobal_global (by rw [I.ok.glob]; exact I.mod.glob.keeps I.bk) hm h) hd
theorem jK {E : Value -> Shared -> Prop} {pins : List (Addr × Obj)} {s : Shared} {σ : St} {H : Hp} {x : Str} {u : Value} {pos : Pos} {Q : Value -> Shared -> Prop} (I : Inv X pins σ H s) (hg : Gl X x) (hm : X.mg x = none) (hv : Zq x = some u) (h : Q u s)
 (hn : x ≠ "__name__" := by decide) (hd : (x == ("__debug__" : Str)) = false := by decide) : wpAny (model X.prog X.w) X.A (eval (.Name x pos) X.env) Q E s := by
 obtain ⟨mb, h1, h2⟩ := I.mod.blt
 exact Calls.Name_function_global I.ok.kind hg (Calls.loadGlobal_builtin (by rw [I.ok.glob]; exact I.mod.glob.keeps I.bk) hm (by rw [I.ok.blt]; exact h1.keeps I.bk) ((h2 x hn).trans hv) h) hd
theorem dl {x : Str} {v : V} {u : Value} {pos : Pos} (hg : Gl X x) (hm : X.mg x = some u) (r : RelV v u) (hd : (x == ("__debug__" : Str)) = false := by decide) : PE X (.Name x pos) (tC v) :=
 fun _ _ _ H _ I h => il I hg hm ⟨v, H, I, r, h⟩ hd
theorem cF {x : Str} {v : V} {u : Value} {pos : Pos} (hg : Gl X x) (hm : X.mg x = none) (hv : Zq x = some u) (r : RelV v u) (hn : x ≠ "__name__" := by decide) (hd : (x == ("__debug__" : Str)) = false := by decide) : PE X (.Name x pos) (tC v) :=
 fun _ _ _ H _ I h => jK I hg hm hv ⟨v, H, I, r, h⟩ hn hd
variable {a b : Expr} {ta tb : TE} {pos : Pos}
def PC (X : Cx) (op : CmpOp) (a b : Expr) (t : TE) : Prop :=
 ∀ (pins : List (Addr × Obj)) (s : Shared) (σ : St) (H : Hp) (Q : VK), Inv X pins σ H s -> t σ H Q ->
  wpAny (model X.prog X.w) X.A (eval a X.env) (fun v s₁ => wpAny (model X.prog X.w) X.A (eval b X.env) (fun u s₂ => wpAny (model X.prog X.w) X.A (Zo op v u) (EP X pins σ Q) X.xe s₂) X.xe s₁) X.xe s
theorem Ba (b : Expr) {op : CmpOp} (h : op ≠ .In) (h2 : op ≠ .NotIn) : YS op b = false := by
 have e1 : (op == CmpOp.In) = false := by cases op <;> first | rfl | exact absurd rfl h
 have e2 : (op == CmpOp.NotIn) = false := by cases op <;> first | rfl | exact absurd rfl h2
 cases b <;> simp [YS, e1, e2]
def EM (ta : TE) : TE := fun σ H Q => ta σ H fun x H1 => Q (.bl (!decide (x = .non))) H1
theorem RelV.none_iff {x : V} {v : Value} (r : RelV x v) : (v == Zn) = decide (x = .non) := by
 cases x with
 | non => cases r; rfl
 | bl _ => cases r; rfl
 | int _ => obtain ⟨t, rfl⟩ := r; rfl
 | str _ => obtain ⟨t, rfl⟩ := r; rfl
 | byt _ => obtain ⟨t, rfl⟩ := r; rfl
 | flt _ => obtain ⟨t, rfl⟩ := r; rfl
 | ref _ => cases r; rfl
 | ty _ => cases r; rfl
theorem Dq {j pos'} (ha : PE X a ta) : PC X .IsNot a (.Constant .none j pos') (EM ta) := by
 intro pins s σ H Q I h
 refine thn (ha pins s σ H _ I h) fun v s1 ⟨x, H1, I1, r1, q1⟩ => ?_
 exact Constant_none (isnot_none_gen ⟨.bl _, H1, I1, by rw [r1.none_iff]; rfl, q1⟩)
variable {tA tB' : TT} {rest : List Expr}
def GD (t u : TT) : TT := fun σ H Q => t σ H fun c H1 => if c = true then u σ H1 Q else Q false H1
def tOr (t u : TT) : TT := fun σ H Q => t σ H fun c H1 => if c = true then Q true H1 else u σ H1 Q
def GP (t : TT) : TT := fun σ H Q => t σ H fun c H1 => Q (!c) H1
theorem o_ (ha : PT X a tA) : PW X (.BoolOp .And [a] pos) tA := by
 intro wh pins s σ H Q I h
 refine isTrue_and (thn (ha pins s σ H Q I h) fun c s1 e => ?_)
 cases c with
 | true => exact isTrue_and_nil e
 | false => exact e
theorem mX (ha : PT X a tA) : PW X (.BoolOp .Or [a] pos) tA := by
 intro wh pins s σ H Q I h
 refine isTrue_or (thn (ha pins s σ H Q I h) fun c s1 e => ?_)
 cases c with
 | false => exact isTrue_or_nil e
 | true => exact e
theorem sK (ha : PT X a tA) (hb : PW X (.BoolOp .And (b :: rest) pos) tB') : PW X (.BoolOp .And (a :: b :: rest) pos) (GD tA tB') := by
 intro wh pins s σ H Q I h
 refine isTrue_and (thn (ha pins s σ H _ I h) fun c s1 ⟨H1, I1, q1⟩ => ?_)
 cases c with
 | true => exact hb wh pins s1 σ H1 Q I1 q1
 | false => exact ⟨H1, I1, q1⟩
theorem qm (ha : PT X a tA) (hb : PW X (.BoolOp .Or (b :: rest) pos) tB') : PW X (.BoolOp .Or (a :: b :: rest) pos) (tOr tA tB') := by
 intro wh pins s σ H Q I h
 refine isTrue_or (thn (ha pins s σ H _ I h) fun c s1 ⟨H1, I1, q1⟩ => ?_)
 cases c with
 | true => exact ⟨H1, I1, q1⟩
 | false => exact hb wh pins s1 σ H1 Q I1 q1
theorem cw (ha : PT X a tA) : PT X (.UnaryOp .Not a pos) (GP tA) := by
 intro pins s σ H Q I h
 exact isTrue_not (ha pins s σ H (fun c H1 => Q (!c) H1) I h)
theorem eO {op} {t : TE} (h : PE X a t) : PE X (.BoolOp op [a] pos) t := fun pins s σ H Q I hw => BoolOp_one (h pins s σ H Q I hw)
end
end L2
namespace L2
open PySem PySem.Spec PyProof.Rows
def SqL (K : W.Frag) (H : Hp) (a : Addr) (xs : List V) : Prop :=
 Rd H a (.lst xs) \/
  ∃ (o : Obj) (its : Array Value) (n : Nat), K.lookup a = some o /\ o.cls = .type "list" /\ o.dict = none /\ o.data = .seq its n /\ its.size <= sizeLine /\ Vals xs its.toList
def SqT (K : W.Frag) (H : Hp) (a : Addr) (xs : List V) : Prop :=
 Rd H a (.tup xs) \/
  ∃ (o : Obj) (its : Array Value) (n : Nat), K.lookup a = some o /\ o.cls = .type "tuple" /\ o.data = .seq its n /\ its.size <= sizeLine /\ Vals xs its.toList
def Hh : Value -> Option V
 | .none => some .non
 | .bool b => some (.bl b)
 | .int i _ => some (.int i)
 | .str x _ => some (.str x)
 | .bytes b _ => some (.byt b)
 | .float b _ => some (.flt b)
 | .ref a => some (.ref a)
 | .type n => some (.ty n)
 | _ => none
theorem RelV.abs {x : V} {u : Value} (r : RelV x u) : Hh u = some x := by
 cases x with
 | non => cases r; rfl
 | bl _ => cases r; rfl
 | int _ => obtain ⟨t, rfl⟩ := r; rfl
 | str _ => obtain ⟨t, rfl⟩ := r; rfl
 | byt _ => obtain ⟨t, rfl⟩ := r; rfl
 | flt _ => obtain ⟨t, rfl⟩ := r; rfl
 | ref _ => cases r; rfl
 | ty _ => cases r; rfl
theorem RelV.inj {x y : V} {u : Value} (r : RelV x u) (q : RelV y u) : x = y := Zm (r.abs.symm.trans q.abs)
theorem Vals.inj : ∀ {xs ys : List V} {us : List Value}, Vals xs us -> Vals ys us -> xs = ys
 | _, _, _, .nil, .nil => rfl
 | _, _, _, .cons r t, .cons r' t' => by rw [r.inj r', Vals.inj t t']
section
variable {X : Cx} {pins : List (Addr × Obj)} {σ : St} {H : Hp} {s : Shared} {a : Addr} {xs ys : List V}
theorem SqL.of {K : W.Frag} (h : H a = some (.lst xs)) : SqL K H a xs := .inl (.inl h)
theorem SqT.of {K : W.Frag} (h : H a = some (.tup xs)) : SqT K H a xs := .inl (.inl h)
theorem Inv.list (I : Inv X pins σ H s) (h : SqL X.K H a xs) : ∃ its : List Value, Vals xs its /\ PlainL s.heap a its.toArray /\ xs.length <= sizeLine := by
 rcases h with h | ⟨o, its, n, hk, hc, hd, hs, hz, r⟩
 ·obtain ⟨z, its, n, r, e⟩ := h.ok I.hok
  exact ⟨its, r, ⟨_, n, e, rfl, rfl, rfl⟩, z⟩
 ·refine ⟨its.toList, r, ⟨o, n, I.kIn a o hk, hc, hd, by simpa using hs⟩, ?_⟩
  have e := r.length
  simp only [Z4] at e
  omega
theorem Inv.tuple (I : Inv X pins σ H s) (h : SqT X.K H a xs) : ∃ its : List Value, Vals xs its /\ IsTup s.heap a its.toArray /\ xs.length <= sizeLine := by
 rcases h with h | ⟨o, its, n, hk, hc, hs, hz, r⟩
 ·obtain ⟨z, its, r, p⟩ := h.ok I.hok
  exact ⟨its, r, p, z⟩
 ·refine ⟨its.toList, r, ⟨o, I.kIn a o hk, hc, n, by simpa using hs⟩, ?_⟩
  have e := r.length
  simp only [Z4] at e
  omega
theorem Inv.list_inj (I : Inv X pins σ H s) (h : SqL X.K H a xs) (h' : SqL X.K H a ys) : xs = ys := by
 obtain ⟨its, r, ⟨o, n, e, _, _, d⟩, _⟩ := I.list h
 obtain ⟨its', r', ⟨o', n', e', _, _, d'⟩, _⟩ := I.list h'
 rw [e] at e'; cases e'
 rw [d] at d'
 injection d' with d1 _
 have : its = its' := by simpa using congrArg Array.toList d1
 subst this
 exact r.inj r'
theorem Inv.tuple_inj (I : Inv X pins σ H s) (h : SqT X.K H a xs) (h' : SqT X.K H a ys) : xs = ys := by
 obtain ⟨its, r, ⟨o, e, _, n, d⟩, _⟩ := I.tuple h
 obtain ⟨its', r', ⟨o', e', _, n', d'⟩, _⟩ := I.tuple h'
 rw [e] at e'; cases e'
 rw [d] at d'
 injection d' with d1 _
 have : its = its' := by simpa using congrArg Array.toList d1
 subst this
 exact r.inj r'
end
abbrev Cx.wish (X : Cx) (E : Value -> Shared -> Prop) : Cx := { X with xe := E }
abbrev Cx.nox (X : Cx) : Cx := X.wish fun _ _ => False
section
variable {X : Cx} {pins : List (Addr × Obj)} {σ : St} {H : Hp} {s : Shared} {E : Value -> Shared -> Prop}
end
section
variable {X : Cx} {st : Stmt} {rest : List Stmt} {t u : TS} {e : Expr} {te : TE} {pos : Pos}
def Ey : TS := fun D σ H => D.nx σ H
def Gr (t u : TS) : TS := fun D σ H => t { D with nx := u D } σ H
theorem aL : PSs X [] Ey := fun _ _ σ H _ I h => wpAny_execs_nil ⟨σ, H, I, h⟩
theorem ae (h1 : PS X st t) (h2 : PSs X rest u) : PSs X (st :: rest) (Gr t u) := by
 intro pins s σ H D I h
 refine wpAny_execs_cons (thn (h1 pins s σ H { D with nx := u D } I h) fun f s1 q => ?_)
 cases f with
 | next =>
  obtain ⟨σ', H', I', q⟩ := q
  exact h2 pins s1 σ' H' D I' q
 | ret v => exact q
 | brk => exact q
 | cont => exact q
theorem aj (h1 : PS X st t) : PSs X [st] t := by
 intro pins s σ H D I h
 refine wpAny_execs_cons (thn (h1 pins s σ H D I h) fun f s1 q => ?_)
 cases f with
 | next => exact wpAny_execs_nil q
 | ret v => exact q
 | brk => exact q
 | cont => exact q
theorem Inv.quiet {pins : List (Addr × Obj)} {σ : St} {H : Hp} {s : Shared} (I : Inv X pins σ H s) : interactive X.env = false := by simp [interactive, I.ok.kind]
def Ez (te : TE) : TS := fun D σ H => te σ H fun _ H1 => D.nx σ H1
theorem bZ (he : PE X e te) (hs : swapsWith e none pos.line X.env = pure false := by rfl) : PS X (.Expr e pos) (Ez te) := by
 intro pins s σ H D I h
 exact wpAny_Expr_any (thn (he pins s σ H _ I h) fun v s1 ⟨x, H1, I1, r1, q1⟩ => ⟨σ, H1, I1, q1⟩) I.quiet hs
def G8 (te : TE) : TS := fun D σ H => te σ H D.rt
theorem aD (he : PE X e te) : PS X (.Return (some e) pos) (G8 te) := by
 intro pins s σ H D I h
 exact wpAny_Return_some (thn (he pins s σ H _ I h) fun v s1 ⟨x, H1, I1, r1, q1⟩ => ⟨x, σ, H1, I1, r1, q1⟩)
def G_ (c : TT) (t u : TS) : TS := fun D σ H => c σ H fun b H1 => if b = true then t D σ H1 else u D σ H1
theorem a9 {c : Expr} {a b : List Stmt} {tc : TT} (hc : PT X c tc) (ha : PSs X a t) (hb : PSs X b u) : PS X (.If c a b pos) (G_ tc t u) := by
 intro pins s σ H D I h
 refine wpAny_If (thn (hc pins s σ H _ I h) fun d s1 ⟨H1, I1, q1⟩ => ?_)
 cases d with
 | true => exact ha pins s1 σ H1 D I1 q1
 | false => exact hb pins s1 σ H1 D I1 q1
end
abbrev TG := V -> St -> Hp -> (St -> Hp -> Prop) -> Prop
abbrev TGs := List V -> St -> Hp -> (St -> Hp -> Prop) -> Prop
def PG (X : Cx) (target : Expr) (t : TG) : Prop :=
 ∀ (pins : List (Addr × Obj)) (s : Shared) (σ : St) (H : Hp) (v : V) (u : Value) (Q : St -> Hp -> Prop), Inv X pins σ H s -> RelV v u -> t v σ H Q ->
  wpAny (model X.prog X.w) X.A (assign target X.env u) (fun _ s' => ∃ σ' H', Inv X pins σ' H' s' /\ Q σ' H') X.xe s
def PGs (X : Cx) (ts : List Expr) (t : TGs) : Prop :=
 ∀ (pins : List (Addr × Obj)) (s : Shared) (σ : St) (H : Hp) (vs : List V) (us : List Value) (Q : St -> Hp -> Prop), Inv X pins σ H s -> Vals vs us -> t vs σ H Q ->
  wpAny (model X.prog X.w) X.A (assignInOrder ((Ym ts X.env).map (·.2)) us) (fun _ s' => ∃ σ' H', Inv X pins σ' H' s' /\ Q σ' H') X.xe s
abbrev Ge := V -> V -> V -> Hp -> (Hp -> Prop) -> Prop
def He (X : Cx) (t : Ge) : Prop :=
 ∀ (pins : List (Addr × Obj)) (s : Shared) (σ : St) (H : Hp) (o i v : V) (ov iv u : Value) (Q : Hp -> Prop), Inv X pins σ H s -> RelV o ov -> RelV i iv -> RelV v u -> t o i v H Q ->
  wpAny (model X.prog X.w) X.A (setItem ov iv u) (fun _ s' => ∃ H', Inv X pins σ H' s' /\ Q H') X.xe s
section
variable {X : Cx} {pos : Pos}
def j_ (i : Nat) : TG := fun v σ H Q => Q (σ.set i (some v)) H
theorem a_ {i : Nat} {x : Str} (hN : X.N.Nodup) (hi : X.N[i]? = some x) (hx : Loc X.env.scope x) (hf : X.fn x = true \/ X.env.scope.names.lookup x = some .local := by first | exact .inl rfl | exact .inr rfl | assumption) : PG X (.Name x pos) (j_ i) := by
 intro pins s σ H v u Q I r h
 exact wpAny_assign_Name (rG I hN hi hx r (fun s' I' => ⟨_, H, I', h⟩) hf)
def Fc : TGs := fun vs σ H Q => vs = [] /\ Q σ H
def zz (t : TG) (u : TGs) : TGs := fun vs σ H Q => ∃ v r, vs = v :: r /\ t v σ H fun σ' H' => u r σ' H' Q
theorem k_ : PGs X [] Fc := by
 intro pins s σ H vs us Q I r h
 obtain ⟨e, h⟩ := h
 subst e
 cases r
 exact assignInOrder_nil ⟨σ, H, I, h⟩
theorem cp {e : Expr} {es : List Expr} {t : TG} {u : TGs} (h1 : PG X e t) (h2 : PGs X es u)
 (hs : (Ym (e :: es) X.env).map (·.2) = assign e X.env :: (Ym es X.env).map (·.2) := by rfl) : PGs X (e :: es) (zz t u) := by
 intro pins s σ H vs us Q I r h
 obtain ⟨v, vr, e1, h⟩ := h
 subst e1
 cases r with
 | cons r rr =>
  rw [hs]
  refine assignInOrder_cons (thn (h1 pins s σ H _ _ _ I r h) fun _ s1 ⟨σ1, H1, I1, q1⟩ => ?_)
  exact h2 pins s1 σ1 H1 _ _ Q I1 rr q1
def D7 (K : W.Frag) (n : Nat) (t : TGs) : TG := fun v σ H Q => ∃ a xs, v = .ref a /\ SqT K H a xs /\ xs.length = n /\ t xs σ H Q
theorem F1 {es : List Expr} {k : Nat} {t : TGs} {n : Nat} (hc : X.calm = true) (h : PGs X es t)
 (hn : (Ym es X.env).length = n := by rfl) (hst : (Ym es X.env).findIdx? (·.1) = none := by rfl) : PG X (.Tuple es k pos) (D7 X.K n t) := by
 intro pins s σ H v u Q I r hw
 obtain ⟨a, xs, e1, hq, hl, hw⟩ := hw
 subst e1
 cases r
 obtain ⟨its, rv, ht, hz⟩ := I.tuple hq
 refine assign_Tuple_tuple (I.ok.hd hc) ht (by simp [hn, <- hl, rv.length]) hst fun h' hx => ?_
 have I1 : Inv X pins σ H { s with heap := h' } := I.kept (t' := s.toks) fun b o e => hx b o (uZ (xw e)) e
 exact h pins _ σ H xs _ Q I1 (by simpa using rv) hw
def Gq (to ti : TE) (t : Ge) : TG := fun v σ H Q => to σ H fun o H1 => ti σ H1 fun i H2 => t o i v H2 fun H3 => Q σ H3
theorem pF {o i : Expr} {to ti : TE} {t : Ge} (ho : PE X o to) (hi : PE X i ti) (hs : He X t)
 (ha : ∀ v, assign (.Subscript o i pos) X.env v = (do
  let ov <- holding [v] (eval o X.env)
  let iv <- holding [v, ov] (eval i X.env)
  standAt pos
  holding [v, ov, iv] (setItem ov iv v)
  release [v, ov, iv] []) := by intro _; rfl) : PG X (.Subscript o i pos) (Gq to ti t) := by
 intro pins s σ H v u Q I r h
 rw [ha]
 refine zu (Z5 (thn (ho pins s σ H _ I h) fun ov s1 ⟨x, H1, I1, r1, q1⟩ => ?_))
 refine zu (Z5 (thn (hi pins s1 σ H1 _ I1 q1) fun iv s2 ⟨y, H2, I2, r2, q2⟩ => ?_))
 refine zu (wpAny_standAt (zu (Z5 (thn (hs pins s2 σ H2 x y v ov iv u _ I2 r1 r2 r q2) fun _ s3 ⟨H3, I3, q3⟩ => ?_))))
 exact wpAny_release ⟨σ, H3, I3, q3⟩
def D9 (te : TE) (g : TG) : TS := fun D σ H => te σ H fun x H1 => g x σ H1 D.nx
theorem jZ {tg e : Expr} {te : TE} {g : TG} (he : PE X e te) (hg : PG X tg g) (hs : swapsWithSole [tg] e pos.line X.env = pure false := by rfl) (hw : swappedStores [tg] e X.env = pure none := by rfl)
 (h1 : (Ym [tg] X.env).map (·.2) = [assign tg X.env] := by rfl) : PS X (.Assign [tg] e pos) (D9 te g) := by
 intro pins s σ H D I h
 refine wpAny_Assign_stores (thn (he pins s σ H _ I h) fun v s1 ⟨x, H1, I1, r1, q1⟩ => ?_) hs hw
 rw [h1]
 exact thn (hg pins s1 σ H1 x v _ I1 r1 q1) fun _ s2 q => q
theorem aE {i : Nat} {x : Str} {e : Expr} {te : TE} {pos' : Pos} (hN : X.N.Nodup) (hi : X.N[i]? = some x) (hx : Loc X.env.scope x) (he : PE X e te) (hs : swapsWith e (some (.Name x pos')) pos.line X.env = pure false := by rfl) (hf : X.fn x = true \/ X.env.scope.names.lookup x = some .local := by first | exact .inl rfl | exact .inr rfl | assumption) :
 PS X (.Assign [.Name x pos'] e pos) (D9 te (j_ i)) := by
 intro pins s σ H D I h
 refine wpAny_Assign_Name (thn (he pins s σ H _ I h) fun v s1 ⟨y, H1, I1, r1, q1⟩ => ?_) hs
 exact rG I1 hN hi hx r1 (fun s2 I2 => ⟨_, H1, I2, q1⟩) hf
end
section
variable {X : Cx} {pos : Pos}
end
structure It where
 go : Nat -> Hp -> Prop
 yld : Nat -> Hp -> V -> Hp -> Prop
 stop : Nat -> Hp -> Prop
def oh (X : Cx) (pins : List (Addr × Obj)) (H : Hp) (b : Addr) : Prop :=
 H b = none /\ b ≠ X.env.locals /\ b ∉ X.fs /\ (b ∈ X.ex \/ X.s₀.heap.objs.size <= b) /\ (∀ x c, X.env.cells.lookup x = some c -> c ≠ b) /\ ∀ p ∈ X.pn ++ pins, p.1 ≠ b
theorem Inv.fpOk {X : Cx} {pins : List (Addr × Obj)} {σ : St} {H H' : Hp} {s : Shared} {b : Addr} (I : Inv X pins σ H s) (hb : s.heap.objs.size <= b) (hn : H' b = none) : oh X pins H' b := by
 refine ⟨hn, Nat.ne_of_gt (uW I.lt hb), I.nofs hb, .inr (sC I.sz hb), fun x c e z => ?_, fun p hp z => ?_⟩
 ·obtain ⟨v, q⟩ := I.cell x c e
  exact absurd (uW q.lt (by rw [z]; exact hb)) (ZR _)
 ·exact absurd (uW (xw (I.pin p hp).1) (by rw [z]; exact hb)) (ZR _)
structure zf (P : Program) (w : World) (K : W.Frag) (tg : Expr) (J : It) (fp : List Addr) (it : Addr) (tn : Nat -> Heap -> Prop) : Prop where
 mem : it ∈ fp
 obj : ∀ i h, tn i h -> ∀ b ∈ fp, ∃ o, h.get? b = some o /\ ∀ v, o.data ≠ .cell v
 keep : ∀ i h h', tn i h -> (∀ b ∈ fp, ∀ o, h.get? b = some o -> h'.get? b = some o) -> tn i h'
 item : ∀ (X : Cx), X.prog = P -> X.w = w -> X.K = K -> X.calm = true -> ∀ (i : Nat) (pins : List (Addr × Obj)) (s : Shared) (σ : St) (H : Hp) (E : Value -> Shared -> Prop), Inv X pins σ H s -> (∀ b ∈ fp, oh X pins H b) -> tn i s.heap -> J.go i H ->
  wpAny (model P w) X.A (pyNext (.ref it)) (fun r s1 => ∃ u, r = some u /\
   wpAny (model P w) X.A (Y1 tg (.ref it) u) (fun _ s2 => ∃ x H', Inv X pins σ H' s2 /\ RelV x u /\ J.yld i H x H' /\ tn (i + 1) s2.heap /\ ∀ b ∈ fp, H' b = none) E s1) E s
 done : ∀ (X : Cx), X.prog = P -> X.w = w -> X.K = K -> X.calm = true -> ∀ (i : Nat) (pins : List (Addr × Obj)) (s : Shared) (σ : St) (H : Hp) (E : Value -> Shared -> Prop), Inv X pins σ H s -> (∀ b ∈ fp, oh X pins H b) -> tn i s.heap -> J.stop i H ->
  wpAny (model P w) X.A (pyNext (.ref it)) (fun r s1 => r = none /\ Inv X pins σ H s1) E s
 self : ∀ (A : Around) (i : Nat) (s : Shared) (Q : Value -> Shared -> Prop) (E : Value -> Shared -> Prop), tn i s.heap -> Q (.ref it) s -> wpAny (model P w) A (pyIter (.ref it)) Q E s
abbrev TI := St -> Hp -> (It -> Hp -> Prop) -> Prop
def PIE (X : Cx) (pins : List (Addr × Obj)) (σ : St) (tg : Expr) (R : It -> Hp -> Prop) (itv : Value) (s2 : Shared) : Prop :=
 ∃ (it : Addr) (fp : List Addr) (tn : Nat -> Heap -> Prop) (J : It) (H' : Hp), itv = .ref it /\ Inv X pins σ H' s2 /\ zf X.prog X.w X.K tg J fp it tn /\ tn 0 s2.heap /\ (∀ b ∈ fp, oh X pins H' b) /\ R J H'
def PI (X : Cx) (tg iter : Expr) (wi : TI) : Prop :=
 ∀ (pins : List (Addr × Obj)) (s : Shared) (σ : St) (H : Hp) (R : It -> Hp -> Prop), Inv X pins σ H s -> wi σ H R ->
  wpAny (model X.prog X.w) X.A (eval iter X.env) (fun v s1 => wpAny (model X.prog X.w) X.A (pyIter v) (PIE X pins σ tg R) X.xe s1) X.xe s
theorem sW {M : Model} {A : Around} {E : Value -> Shared -> Prop} {s : Shared} {tg : Expr} {it : Addr} {u : Value} {o : Obj} {n : String} {vs : Array Value} {Q : Unit -> Shared -> Prop} (ho : s.heap.get? it = some o) (hc : o.cls = .type n) (hd : o.data = .fields vs)
 (hn : ["enumerate", "zip", "dict_itemiterator", "dict_reverseitemiterator", "odict_iterator", "itertools.zip_longest", "itertools.pairwise"].contains n = false) (hQ : Q () s) : wpAny M A (Y1 tg (.ref it) u) Q E s := by
 unfold Y1
 cases tg <;> first
  | exact wG hQ
  | (cases u <;> first
   | exact wG hQ
   | (refine zu (wpAny_load ho ?_)
      rw [hc, hd]
      show wpAny M A (if (["enumerate", "zip", "dict_itemiterator", "dict_reverseitemiterator", "odict_iterator", "itertools.zip_longest", "itertools.pairwise"].contains n && vs[0]? == some (rawInt _)) = true then _ else _) Q E s
      rw [if_neg (by intro h; rw [hn, Bool.false_and] at h; cases h)]
      exact wG hQ))
def Itl (K : W.Frag) (a : Addr) : It :=
 ⟨fun i H => ∃ xs x, SqL K H a xs /\ xs[i]? = some x, fun i H x H' => H' = H /\ ∀ xs, SqL K H a xs -> xs[i]? = some x, fun i H => ∃ xs, SqL K H a xs /\ xs.length <= i⟩
def Itt (K : W.Frag) (a : Addr) : It :=
 ⟨fun i H => ∃ xs x, SqT K H a xs /\ xs[i]? = some x, fun i H x H' => H' = H /\ ∀ xs, SqT K H a xs -> xs[i]? = some x, fun i H => ∃ xs, SqT K H a xs /\ xs.length <= i⟩
def Itr (lo : Int) (n : Nat) : It := ⟨fun i _ => i < n, fun i H x H' => H' = H /\ x = .int (lo + i), fun i _ => n <= i⟩
theorem p_ {P : Program} {w : World} {K : W.Frag} {tg : Expr} (a it : Addr) : zf P w K tg (Itl K a) [it] it (fun i h => h.IsListIter it a i) where
 mem := by simp
 obj := fun i h st b hb => by
  have e : b = it := by simpa using hb
  subst e
  obtain ⟨o, e, c, d⟩ := st
  exact ⟨o, e, fun v z => by rw [d] at z; cases z⟩
 keep := fun i h h' st k => st.at fun o e => k it (by simp) o e
 item := by
  intro X hP hw hK hc i pins s σ H E I hf st hg
  subst hP hw hK
  obtain ⟨xs, x, hq, hx⟩ := hg
  obtain ⟨its, rv, p, hz⟩ := I.list hq
  obtain ⟨u, hu, ru⟩ := rv.get hx
  obtain ⟨f0, f1, f2, f3, f4, f5⟩ := hf it (by simp)
  refine wpAny_pyNext_list_item st p.isList (x := u) (by simpa using hu) fun h' st' sb => ?_
  have I1 : Inv X pins σ H { s with heap := h' } := I.turned (t' := s.toks) (fun b o hb e => (sb.2 b hb).trans e) f0 f1 f3 f4 f5
  obtain ⟨o, e, c, d⟩ := id st'
  exact ⟨u, rfl, sW (s := { s with heap := h' }) e c d (by decide) ⟨x, H, I1, ru, ⟨rfl, fun ys hy => by rw [I.list_inj hy hq]; exact hx⟩, st', fun b hb => (hf b hb).1⟩⟩
 done := by
  intro X hP hw hK hc i pins s σ H E I hf st hg
  subst hP hw hK
  obtain ⟨xs, hq, hx⟩ := hg
  obtain ⟨its, rv, p, hz⟩ := I.list hq
  obtain ⟨f0, f1, f2, f3, f4, f5⟩ := hf it (by simp)
  have hl := rv.length
  exact wpAny_pyNext_list_end (I.ok.hd hc) st p.isList (by simp; omega) fun h' eb => ⟨rfl, I.turned (t' := s.toks) (fun b o hb e => eb b o hb e) f0 f1 f3 f4 f5⟩
 self := fun _ _ _ _ _ st h => wpAny_pyIter_listiter st h
theorem yL {P : Program} {w : World} {K : W.Frag} {tg : Expr} (a it : Addr) : zf P w K tg (Itt K a) [it] it (fun i h => h.IsTupleIter it a i) where
 mem := by simp
 obj := fun i h st b hb => by
  have e : b = it := by simpa using hb
  subst e
  obtain ⟨o, e, c, d⟩ := st
  exact ⟨o, e, fun v z => by rw [d] at z; cases z⟩
 keep := fun i h h' st k => st.at fun o e => k it (by simp) o e
 item := by
  intro X hP hw hK hc i pins s σ H E I hf st hg
  subst hP hw hK
  obtain ⟨xs, x, hq, hx⟩ := hg
  obtain ⟨its, rv, p, hz⟩ := I.tuple hq
  obtain ⟨u, hu, ru⟩ := rv.get hx
  obtain ⟨f0, f1, f2, f3, f4, f5⟩ := hf it (by simp)
  refine wpAny_pyNext_tuple_item st (show s.heap.IsTuple a its.toArray from p) (x := u) (by simpa using hu) fun h' st' sb => ?_
  have I1 : Inv X pins σ H { s with heap := h' } := I.turned (t' := s.toks) (fun b o hb e => (sb.2 b hb).trans e) f0 f1 f3 f4 f5
  obtain ⟨o, e, c, d⟩ := id st'
  exact ⟨u, rfl, sW (s := { s with heap := h' }) e c d (by decide) ⟨x, H, I1, ru, ⟨rfl, fun ys hy => by rw [I.tuple_inj hy hq]; exact hx⟩, st', fun b hb => (hf b hb).1⟩⟩
 done := by
  intro X hP hw hK hc i pins s σ H E I hf st hg
  subst hP hw hK
  obtain ⟨xs, hq, hx⟩ := hg
  obtain ⟨its, rv, p, hz⟩ := I.tuple hq
  obtain ⟨f0, f1, f2, f3, f4, f5⟩ := hf it (by simp)
  have hl := rv.length
  exact wpAny_pyNext_tuple_end (I.ok.hd hc) st (show s.heap.IsTuple a its.toArray from p) (by simp; omega) fun h' eb => ⟨rfl, I.turned (t' := s.toks) (fun b o hb e => eb b o hb e) f0 f1 f3 f4 f5⟩
 self := fun _ _ _ _ _ st h => wpAny_pyIter_tupleiter st h
theorem yH {P : Program} {w : World} {K : W.Frag} {tg : Expr} (it : Addr) (lo : Int) (n : Nat) : zf P w K tg (Itr lo n) [it] it (fun i h => IsRangeIter h it (lo + (i : Nat) * 1) ((n : Int) - (i : Nat)) 1) where
 mem := by simp
 obj := fun i h st b hb => by
  have e : b = it := by simpa using hb
  subst e
  exact ⟨_, st, fun v z => by
   have z' : Y9 _ = Data.cell v := z
   cases z'⟩
 keep := fun i h h' st k => k it (by simp) _ st
 item := by
  intro X hP hw hK hc i pins s σ H E I hf st hg
  subst hP hw hK
  obtain ⟨f0, f1, f2, f3, f4, f5⟩ := hf it (by simp)
  have W := Walks.range (prog := X.prog) (w := X.w) (I.ok.hd hc) it lo 1 n
  refine W.item i s _ _ hg st fun v h' tk hv st' kk => ?_
  obtain ⟨t, rfl⟩ := hv
  have I1 : Inv X pins σ H { s with heap := h', toks := tk } := I.turned (fun b o hb e => kk b o (by simpa using hb) e) f0 f1 f3 f4 f5
  refine ⟨_, rfl, sW (s := { s with heap := h', toks := tk }) (n := "range_iterator") st' rfl rfl (by decide) ⟨.int (lo + i), H, I1, ⟨t, ?_⟩, ⟨rfl, rfl⟩, st', fun b hb => (hf b hb).1⟩⟩
  rw [Int.mul_one]
 done := by
  intro X hP hw hK hc i pins s σ H E I hf st hg
  subst hP hw hK
  obtain ⟨f0, f1, f2, f3, f4, f5⟩ := hf it (by simp)
  exact wpAny_pyNext_range_end (I.ok.hd hc) st (by have : n <= i := hg; omega) fun h' eb => ⟨rfl, I.turned (t' := s.toks) (fun b o hb e => eb b o hb e) f0 f1 f3 f4 f5⟩
 self := fun _ _ _ _ _ st h => wpAny_pyIter_rangeiter st h
end L2
namespace L2
open PySem PySem.Spec PyProof.Rows
section
variable {X : Cx} {tg : Expr}
def uG (K : W.Frag) (tl : TE) : TI := fun σ H R => tl σ H fun x H1 => ∃ a, x = .ref a /\ (∃ xs, SqL K H1 a xs) /\ R (Itl K a) H1
def Cz (K : W.Frag) (tl : TE) : TI := fun σ H R => tl σ H fun x H1 => ∃ a, x = .ref a /\ (∃ xs, SqT K H1 a xs) /\ R (Itt K a) H1
theorem Dh {l : Expr} {tl : TE} (hl : PE X l tl) : PI X tg l (uG X.K tl) := by
 intro pins s σ H R I h
 refine thn (hl pins s σ H _ I h) fun v s1 ⟨x, H1, I1, r1, q1⟩ => ?_
 obtain ⟨a, e, ⟨xs, hq⟩, q⟩ := q1
 subst e
 cases r1
 obtain ⟨its, rv, p, hz⟩ := I1.list hq
 refine wpAny_pyIter_list p.isList ?_
 refine ⟨s1.heap.objs.size, [s1.heap.objs.size], _, _, H1, rfl, I1.kept (t' := s1.toks) fun b o e => Heap.get?_push_of_some _ e, p_ a _, ⟨_, Heap.get?_push_size _ rfl, rfl, rfl⟩, fun b hb => ?_, q⟩
 have e : b = s1.heap.objs.size := by simpa using hb
 subst e
 exact I1.fpOk (zR _) (I1.hok.fresh (zR _))
theorem FX {l : Expr} {tl : TE} (hl : PE X l tl) : PI X tg l (Cz X.K tl) := by
 intro pins s σ H R I h
 refine thn (hl pins s σ H _ I h) fun v s1 ⟨x, H1, I1, r1, q1⟩ => ?_
 obtain ⟨a, e, ⟨xs, hq⟩, q⟩ := q1
 subst e
 cases r1
 obtain ⟨its, rv, p, hz⟩ := I1.tuple hq
 refine wpAny_pyIter_tuple (show s1.heap.IsTuple a its.toArray from p) ?_
 refine ⟨s1.heap.objs.size, [s1.heap.objs.size], _, _, H1, rfl, I1.kept (t' := s1.toks) fun b o e => Heap.get?_push_of_some _ e, yL a _, ⟨_, Heap.get?_push_size _ rfl, rfl, rfl⟩, fun b hb => ?_, q⟩
 have e : b = s1.heap.objs.size := by simpa using hb
 subst e
 exact I1.fpOk (zR _) (I1.hok.fresh (zR _))
theorem xB {pins : List (Addr × Obj)} {σ : St} {H : Hp} {s : Shared} {R : It -> Hp -> Prop} {E : Value -> Shared -> Prop} {lo hi : Int} {t u v : Tok} {tk : Nat} (I : Inv X pins σ H s) (h1 : -(2 ^ 62) <= lo) (h2 : lo < 2 ^ 62) (h3 : -(2 ^ 62) <= hi) (h4 : hi < 2 ^ 62)
 (q : R (Itr lo (hi - lo).toNat) H) : wpAny (model X.prog X.w) X.A (pyIter (.ref s.heap.objs.size)) (PIE X pins σ tg R) E { s with heap := s.heap.push { cls := .type "range", data := .fields #[.int lo t, .int hi u, .int 1 v] }, toks := tk } := by
 refine wpAny_pyIter_range (IsRange.new ..) (small_one h1 h2 h3 h4) ?_
 have I1 : Inv X pins σ H { s with heap := s.heap.push { cls := .type "range", data := .fields #[.int lo t, .int hi u, .int 1 v] }, toks := tk } := I.kept fun b o e => Heap.get?_push_of_some _ e
 refine ⟨(s.heap.push { cls := .type "range", data := .fields #[.int lo t, .int hi u, .int 1 v] }).objs.size, [(s.heap.push { cls := .type "range", data := .fields #[.int lo t, .int hi u, .int 1 v] }).objs.size], _, _, H, rfl,
  I1.kept (t' := tk) fun b o e => Heap.get?_push_of_some _ e, yH _ lo (hi - lo).toNat, ?_, fun b hb => ?_, q⟩
 ·have e1 : lo + ((0 : Nat) : Int) * 1 = lo := by simp
  have e2 : (((hi - lo).toNat : Nat) : Int) - ((0 : Nat) : Int) = Builtin.Range.rangeSize lo hi 1 := by rw [rangeSize_one]; split <;> omega
  show IsRangeIter _ _ (lo + ((0 : Nat) : Int) * 1) ((((hi - lo).toNat : Nat) : Int) - ((0 : Nat) : Int)) 1
  rw [e1, e2]
  exact Heap.get?_push_size _ rfl
 ·have e : b = (s.heap.push { cls := .type "range", data := .fields #[.int lo t, .int hi u, .int 1 v] }).objs.size := by simpa using hb
  subst e
  exact I1.fpOk (zR _) (I1.hok.fresh (zR _))
def Ct (ta : TA) : TI := fun σ H R => ta σ H fun vs H1 => ∃ j : Int, vs = [.int j] /\ -(2 ^ 62) <= j /\ j < 2 ^ 62 /\ R (Itr 0 j.toNat) H1
def EE (ta : TA) : TI := fun σ H R => ta σ H fun vs H1 => ∃ i j : Int, vs = [.int i, .int j] /\ (-(2 ^ 62) <= i /\ i < 2 ^ 62 /\ -(2 ^ 62) <= j /\ j < 2 ^ 62) /\ R (Itr i (j - i).toNat) H1
theorem eW {a : Expr} {ta : TA} {p pos : Pos} (hg : Gl X "range") (hm : X.mg "range" = none) (ha : PA X [a] ta) (hs : starEach [a] X.env = [(false, eval a X.env)] := by rfl) : PI X tg (.Call (.Name "range" p) [a] [] pos) (Ct ta) := by
 intro pins s σ H R I h
 refine Call_ (jK I hg hm boot_range (ZN (thn (ha pos pins s σ H _ I h) fun us s1 ⟨vs, H1, I1, r1, q1⟩ => ?_) hs rfl))
 obtain ⟨j, e, q1, q2, q⟩ := q1
 subst e
 cases r1 with
 | cons r rr =>
  cases rr
  obtain ⟨t, rfl⟩ := r
  exact call_range_1 (xB I1 (by omega) (by omega) q1 q2 (by simpa using q))
theorem Ax {a b : Expr} {ta : TA} {p pos : Pos} (hg : Gl X "range") (hm : X.mg "range" = none) (ha : PA X [a, b] ta) (hs : starEach [a, b] X.env = [(false, eval a X.env), (false, eval b X.env)] := by rfl) (hs2 : starEach [b] X.env = [(false, eval b X.env)] := by rfl) :
 PI X tg (.Call (.Name "range" p) [a, b] [] pos) (EE ta) := by
 intro pins s σ H R I h
 refine Call_ (jK I hg hm boot_range (ZN (thn (ha pos pins s σ H _ I h) fun us s1 ⟨vs, H1, I1, r1, q1⟩ => ?_) (by rw [hs, hs2]) (by rw [hs2]; rfl)))
 obtain ⟨i, j, e, ⟨q1, q2, q3, q4⟩, q⟩ := q1
 subst e
 cases r1 with
 | cons r rr =>
  cases rr with
  | cons r' rr =>
   cases rr
   obtain ⟨t, rfl⟩ := r
   obtain ⟨t', rfl⟩ := r'
   exact call_range_2 (xB I1 q1 q2 q3 q4 q)
def rZ (wi : TI) (g : TG) (tb : TS) : TS := fun D σ H => wi σ H fun J H1 => ∃ W : Nat -> Nat -> St -> Hp -> Prop, (∃ m, W 0 m σ H1) /\ ∀ i m σ H, W i m σ H ->
 (J.stop i H /\ D.nx σ H) \/ (J.go i H /\ ∃ N : St -> Hp -> Prop, (∀ σ' H', N σ' H' -> ∃ m', m' < m /\ W (i + 1) m' σ' H') /\ ∀ x H', J.yld i H x H' -> g x σ H' fun σ2 H2 => tb { D with nx := N, ct := N, bk := D.nx } σ2 H2)
def se (fp : List Addr) (h : Heap) : List (Addr × Obj) := fp.filterMap fun b => (h.get? b).map fun o => (b, o)
theorem iJ {fp : List Addr} {h : Heap} {b : Addr} {o : Obj} (hb : b ∈ fp) (e : h.get? b = some o) : (b, o) ∈ se fp h := List.mem_filterMap.mpr ⟨b, hb, by rw [e]; rfl⟩
theorem AT {fp : List Addr} {h : Heap} {p : Addr × Obj} (hp : p ∈ se fp h) : p.1 ∈ fp /\ h.get? p.1 = some p.2 := by
 obtain ⟨b, hb, e⟩ := List.mem_filterMap.mp hp
 cases q : h.get? b with
 | none => rw [q] at e; cases e
 | some o =>
  rw [q] at e
  have e' : (b, o) = p := Zm e
  subst e'
  exact ⟨hb, q⟩
theorem Inv.pinned {pins : List (Addr × Obj)} {σ : St} {H : Hp} {s : Shared} {fp : List Addr} (I : Inv X pins σ H s) (hf : ∀ b ∈ fp, oh X pins H b) (ho : ∀ b ∈ fp, ∃ o, s.heap.get? b = some o /\ ∀ v, o.data ≠ .cell v) : Inv X (pins ++ se fp s.heap) σ H s :=
 I.pins_of fun p hp => (uO.mp hp).elim (fun z => I.pin p (Zu _ z)) fun z => by
  obtain ⟨hb, e⟩ := AT z
  obtain ⟨f0, f1, f2, _⟩ := hf p.1 hb
  obtain ⟨o, e', d⟩ := ho p.1 hb
  rw [e] at e'; cases e'
  exact ⟨e, f0, f1, f2, d⟩
theorem Inv.unpinned {pins pl : List (Addr × Obj)} {σ : St} {H : Hp} {s : Shared} (I : Inv X (pins ++ pl) σ H s) : Inv X pins σ H s := I.pins_of fun p hp => I.pin p (Zu _ (YG _ hp))
theorem eJ {iter : Expr} {body : List Stmt} {wi : TI} {g : TG} {tb : TS} {pos : Pos} (hp : PassesOwn (model X.prog X.w) X.A X.env X.xe) (hc : X.calm = true) (hi : PI X tg iter wi) (hg : PG X tg g) (hb : PSs X body tb)
 (hs : ∀ x, Yo iter X.env x = pure x := by intro _; rfl) : PS X (.For tg iter body [] pos) (rZ wi g tb) := by
 intro pins s σ H D I h
 refine wpAny_For (thn (hi pins s σ H _ I h) fun v s1 h1 => thn h1 fun itv s2 h2 => ?_) hs
 obtain ⟨it, fp, tn, J, H2, e, I2, T, st2, f2, W, ⟨m0, w0⟩, turn⟩ := h2
 subst e
 have stat : ∀ {H' : Hp}, (∀ b ∈ fp, H' b = none) -> ∀ b ∈ fp, oh X pins H' b := fun hn b hb => ⟨hn b hb, (f2 b hb).2⟩
 refine codeAny_forLoop_any (fun n s' => ∃ i σ' H', Inv X pins σ' H' s' /\ tn i s'.heap /\ (∀ b ∈ fp, H' b = none) /\ W i n σ' H') ?_ m0 ⟨0, σ, H2, I2, st2, fun b hb => (f2 b hb).1, w0⟩
 rintro n s3 ⟨i, σ3, H3, I3, st3, fr3, w3⟩
 rcases turn i n σ3 H3 w3 with ⟨stop, qn⟩ | ⟨go, N, hN, step⟩
 ·refine Y0 hp (thn (T.done X rfl rfl rfl hc i pins s3 σ3 H3 X.xe I3 (stat fr3) st3 stop) fun r s4 ⟨hr, I4⟩ => ?_)
  subst hr
  exact wpAny_execs_nil ⟨σ3, H3, I4, qn⟩
 ·refine Y0 hp (thn (T.item X rfl rfl rfl hc i pins s3 σ3 H3 X.xe I3 (stat fr3) st3 go) fun r s4 ⟨u, hr, h4⟩ => ?_)
  subst hr
  refine Y0 hp (thn h4 fun _ s5 ⟨x, H5, I5, r5, y5, st5, fr5⟩ => ?_)
  have I5' := I5.pinned (stat fr5) (T.obj _ _ st5)
  refine Y0 hp (thn (hg _ s5 σ3 H5 x u _ I5' r5 (step x H5 y5)) fun _ s6 ⟨σ6, H6, I6, q6⟩ => ?_)
  refine Y0 hp (thn (hb _ s6 σ6 H6 _ I6 q6) fun f s7 q7 => ?_)
  have again : ∀ {σ7 : St} {H7 : Hp}, Inv X (pins ++ se fp s5.heap) σ7 H7 s7 -> N σ7 H7 -> ∃ m, m < n /\ ∃ i σ' H', Inv X pins σ' H' s7 /\ tn i s7.heap /\ (∀ b ∈ fp, H' b = none) /\ W i m σ' H' := fun {σ7 H7} I7 n7 => by
   obtain ⟨m', hm, w7⟩ := hN σ7 H7 n7
   refine ⟨m', hm, i + 1, σ7, H7, I7.unpinned, T.keep _ _ _ st5 fun b hb o e => (I7.pin (b, o) (Zu _ (Zu _ (iJ hb e)))).1, fun b hb => ?_, w7⟩
   obtain ⟨o, e, d⟩ := T.obj _ _ st5 b hb
   exact (I7.pin (b, o) (Zu _ (Zu _ (iJ hb e)))).2.1
  cases f with
  | next => obtain ⟨σ7, H7, I7, n7⟩ := q7; exact again I7 n7
  | cont => obtain ⟨σ7, H7, I7, n7⟩ := q7; exact again I7 n7
  | brk => obtain ⟨σ7, H7, I7, q7⟩ := q7; exact ⟨σ7, H7, I7.unpinned, q7⟩
  | ret v => obtain ⟨x7, σ7, H7, I7, r7, q7⟩ := q7; exact ⟨x7, σ7, H7, I7.unpinned, r7, q7⟩
end
theorem rJ {K : W.Frag} {a : Addr} {xs : List V} {g : TG} {tb : TS} {D : fA} {σ : St} {H : Hp} (Pv : Nat -> St -> Hp -> Prop) (h0 : Pv 0 σ H) (hl : ∀ i σ H, i <= xs.length -> Pv i σ H -> SqL K H a xs)
 (hs : ∀ i x σ H, xs[i]? = some x -> Pv i σ H -> g x σ H fun σ2 H2 => tb { D with nx := Pv (i + 1), ct := Pv (i + 1), bk := D.nx } σ2 H2) (hd : ∀ σ H, Pv xs.length σ H -> D.nx σ H) :
 ∃ W : Nat -> Nat -> St -> Hp -> Prop, (∃ m, W 0 m σ H) /\ ∀ i m σ H, W i m σ H ->
  ((Itl K a).stop i H /\ D.nx σ H) \/ ((Itl K a).go i H /\ ∃ N : St -> Hp -> Prop, (∀ σ' H', N σ' H' -> ∃ m', m' < m /\ W (i + 1) m' σ' H') /\ ∀ x H', (Itl K a).yld i H x H' -> g x σ H' fun σ2 H2 => tb { D with nx := N, ct := N, bk := D.nx } σ2 H2) := by
 refine ⟨fun i m σ H => m = xs.length - i /\ i <= xs.length /\ Pv i σ H, ⟨xs.length, by simp, Zb _, h0⟩, ?_⟩
 rintro i m σ H ⟨rfl, hi, p⟩
 have q := hl i σ H hi p
 by_cases hlt : i < xs.length
 ·refine .inr ⟨⟨xs, xs[i], q, by simp [hlt]⟩, Pv (i + 1), fun σ' H' p' => ⟨xs.length - (i + 1), by omega, rfl, hlt, p'⟩, fun x H' y => ?_⟩
  obtain ⟨e, y⟩ := y
  subst e
  exact hs i x σ _ (y xs q) p
 ·have e : i = xs.length := by omega
  subst e
  exact .inl ⟨⟨xs, q, zR _⟩, hd σ H p⟩
theorem CT {K : W.Frag} {a : Addr} {xs : List V} {g : TG} {tb : TS} {D : fA} {σ : St} {H : Hp} (Pv : Nat -> St -> Hp -> Prop) (h0 : Pv 0 σ H) (hl : ∀ i σ H, i <= xs.length -> Pv i σ H -> SqT K H a xs)
 (hs : ∀ i x σ H, xs[i]? = some x -> Pv i σ H -> g x σ H fun σ2 H2 => tb { D with nx := Pv (i + 1), ct := Pv (i + 1), bk := D.nx } σ2 H2) (hd : ∀ σ H, Pv xs.length σ H -> D.nx σ H) :
 ∃ W : Nat -> Nat -> St -> Hp -> Prop, (∃ m, W 0 m σ H) /\ ∀ i m σ H, W i m σ H ->
  ((Itt K a).stop i H /\ D.nx σ H) \/ ((Itt K a).go i H /\ ∃ N : St -> Hp -> Prop, (∀ σ' H', N σ' H' -> ∃ m', m' < m /\ W (i + 1) m' σ' H') /\ ∀ x H', (Itt K a).yld i H x H' -> g x σ H' fun σ2 H2 => tb { D with nx := N, ct := N, bk := D.nx } σ2 H2) := by
 refine ⟨fun i m σ H => m = xs.length - i /\ i <= xs.length /\ Pv i σ H, ⟨xs.length, by simp, Zb _, h0⟩, ?_⟩
 rintro i m σ H ⟨rfl, hi, p⟩
 have q := hl i σ H hi p
 by_cases hlt : i < xs.length
 ·refine .inr ⟨⟨xs, xs[i], q, by simp [hlt]⟩, Pv (i + 1), fun σ' H' p' => ⟨xs.length - (i + 1), by omega, rfl, hlt, p'⟩, fun x H' y => ?_⟩
  obtain ⟨e, y⟩ := y
  subst e
  exact hs i x σ _ (y xs q) p
 ·have e : i = xs.length := by omega
  subst e
  exact .inl ⟨⟨xs, q, zR _⟩, hd σ H p⟩
theorem hR {lo : Int} {n : Nat} {g : TG} {tb : TS} {D : fA} {σ : St} {H : Hp} (Pv : Nat -> St -> Hp -> Prop) (h0 : Pv 0 σ H)
 (hs : ∀ i σ H, i < n -> Pv i σ H -> g (.int (lo + i)) σ H fun σ2 H2 => tb { D with nx := Pv (i + 1), ct := Pv (i + 1), bk := D.nx } σ2 H2) (hd : ∀ σ H, Pv n σ H -> D.nx σ H) :
 ∃ W : Nat -> Nat -> St -> Hp -> Prop, (∃ m, W 0 m σ H) /\ ∀ i m σ H, W i m σ H ->
  ((Itr lo n).stop i H /\ D.nx σ H) \/ ((Itr lo n).go i H /\ ∃ N : St -> Hp -> Prop, (∀ σ' H', N σ' H' -> ∃ m', m' < m /\ W (i + 1) m' σ' H') /\ ∀ x H', (Itr lo n).yld i H x H' -> g x σ H' fun σ2 H2 => tb { D with nx := N, ct := N, bk := D.nx } σ2 H2) := by
 refine ⟨fun i m σ H => m = n - i /\ i <= n /\ Pv i σ H, ⟨n, by simp, Zb _, h0⟩, ?_⟩
 rintro i m σ H ⟨rfl, hi, p⟩
 by_cases hlt : i < n
 ·refine .inr ⟨hlt, Pv (i + 1), fun σ' H' p' => ⟨n - (i + 1), by omega, rfl, hlt, p'⟩, fun x H' y => ?_⟩
  obtain ⟨e, y⟩ := y
  subst e y
  exact hs i σ _ hlt p
 ·have e : i = n := by omega
  subst e
  exact .inl ⟨zR _, hd σ H p⟩
end L2
namespace L2
open PySem PySem.Spec PyProof.Rows
abbrev R2 := V -> V -> Hp -> VK -> Prop
def OpR (X : Cx) (f : Value -> Value -> Sem Value) (r : R2) : Prop :=
 ∀ (pins : List (Addr × Obj)) (s : Shared) (σ : St) (H : Hp) (x y : V) (v u : Value) (Q : VK), Inv X pins σ H s -> RelV x v -> RelV y u -> r x y H Q ->
  wpAny (model X.prog X.w) X.A (f v u) (EP X pins σ Q) X.xe s
def UnR (X : Cx) (f : Value -> Sem Value) (r : V -> Hp -> VK -> Prop) : Prop :=
 ∀ (pins : List (Addr × Obj)) (s : Shared) (σ : St) (H : Hp) (x : V) (v : Value) (Q : VK), Inv X pins σ H s -> RelV x v -> r x H Q ->
  wpAny (model X.prog X.w) X.A (f v) (EP X pins σ Q) X.xe s
def CallR (X : Cx) (f : Value) (r : List V -> Hp -> VK -> Prop) : Prop :=
 ∀ (pins : List (Addr × Obj)) (s : Shared) (σ : St) (H : Hp) (xs : List V) (us : List Value) (Q : VK), Inv X pins σ H s -> Vals xs us -> r xs H Q ->
  wpAny (model X.prog X.w) X.A (call f us) (EP X pins σ Q) X.xe s
def Ho (X : Cx) (r : V -> Hp -> (Bool -> Hp -> Prop) -> Prop) : Prop :=
 ∀ (pins : List (Addr × Obj)) (s : Shared) (σ : St) (H : Hp) (x : V) (v : Value) (Q : Bool -> Hp -> Prop), Inv X pins σ H s -> RelV x v -> r x H Q ->
  wpAny (model X.prog X.w) X.A (truthy v) (TP X pins σ Q) X.xe s
def tOp (r : R2) (ta tb : TE) : TE := fun σ H Q => ta σ H fun x H1 => tb σ H1 fun y H2 => r x y H2 Q
def tUn (r : V -> Hp -> VK -> Prop) (ta : TE) : TE := fun σ H Q => ta σ H fun x H1 => r x H1 Q
def rI (C : Int -> Int -> Prop) (g : Int -> Int -> V) : R2 := fun x y H Q => ∃ i j, x = .int i /\ y = .int j /\ C i j /\ Q (g i j) H
def rI0 (g : Int -> Int -> V) : R2 := fun x y H Q => ∃ i j, x = .int i /\ y = .int j /\ Q (g i j) H
def rU (g : Int -> V) : V -> Hp -> VK -> Prop := fun x H Q => ∃ i, x = .int i /\ Q (g i) H
section
variable {X : Cx} {a b c : Expr} {ta tb tc : TE} {pos : Pos}
theorem FJ (ha : PE X a ta) (hb : PE X b tb) {pins : List (Addr × Obj)} {s : Shared} {σ : St} {H : Hp} {R : V -> V -> Hp -> Prop} (I : Inv X pins σ H s)
 (h : ta σ H fun x H1 => tb σ H1 fun y H2 => R x y H2) {Q : Value -> Shared -> Prop} {f : Value -> Value -> Sem Value}
 (hf : ∀ v u s2 x y H2, Inv X pins σ H2 s2 -> RelV x v -> RelV y u -> R x y H2 -> wpAny (model X.prog X.w) X.A (f v u) Q X.xe s2) :
 wpAny (model X.prog X.w) X.A (eval a X.env) (fun v s₁ => wpAny (model X.prog X.w) X.A (eval b X.env) (fun u s₂ => wpAny (model X.prog X.w) X.A (f v u) Q X.xe s₂) X.xe s₁) X.xe s := by
 refine thn (ha pins s σ H _ I h) fun v s1 ⟨x, H1, I1, r1, q1⟩ => ?_
 refine thn (hb pins s1 σ H1 _ I1 q1) fun u s2 ⟨y, H2, I2, r2, q2⟩ => ?_
 exact hf v u s2 x y H2 I2 r1 r2 q2
theorem ak {op : Operator} {r : R2} (ho : OpR X (binaryOp op) r) (ha : PE X a ta) (hb : PE X b tb) : PE X (.BinOp a op b pos) (tOp r ta tb) := by
 intro pins s σ H Q I h
 exact wpAny_BinOp (FJ ha hb I h fun v u s2 x y H2 I2 rx ry q => ho pins s2 σ H2 x y v u Q I2 rx ry q)
theorem sy {op : UnaryOp} {r : V -> Hp -> VK -> Prop} (ho : UnR X (unaryOp op) r) (ha : PE X a ta) : PE X (.UnaryOp op a pos) (tUn r ta) := by
 intro pins s σ H Q I h
 exact UnaryOp_ (thn (ha pins s σ H _ I h) fun v s1 ⟨x, H1, I1, r1, q1⟩ => ho pins s1 σ H1 x v Q I1 r1 q1)
theorem opI {f : Value -> Value -> Sem Value} {C : Int -> Int -> Prop} {g : Int -> Int -> Int}
 (rule : ∀ (i j : Int) (t u : Tok) (s : Shared) (Q : Value -> Shared -> Prop) (E : Value -> Shared -> Prop), C i j -> Q (.int (g i j) s.toks) { s with toks := s.toks + 1 } -> wpAny (model X.prog X.w) X.A (f (.int i t) (.int j u)) Q E s) :
 OpR X f (rI C fun i j => .int (g i j)) := by
 intro pins s σ H x y v u Q I rx ry h
 obtain ⟨i, j, rfl, rfl, hc, q⟩ := h
 obtain ⟨t, rfl⟩ := rx
 obtain ⟨t', rfl⟩ := ry
 exact rule i j t t' s _ _ hc ⟨.int (g i j), H, I.tok _, ⟨_, rfl⟩, q⟩
theorem GE {f : Value -> Value -> Sem Value} {g : Int -> Int -> Int}
 (rule : ∀ (i j : Int) (t u : Tok) (s : Shared) (Q : Value -> Shared -> Prop) (E : Value -> Shared -> Prop), Q (.int (g i j) s.toks) { s with toks := s.toks + 1 } -> wpAny (model X.prog X.w) X.A (f (.int i t) (.int j u)) Q E s) :
 OpR X f (rI0 fun i j => .int (g i j)) := by
 intro pins s σ H x y v u Q I rx ry h
 obtain ⟨i, j, rfl, rfl, q⟩ := h
 obtain ⟨t, rfl⟩ := rx
 obtain ⟨t', rfl⟩ := ry
 exact rule i j t t' s _ _ ⟨.int (g i j), H, I.tok _, ⟨_, rfl⟩, q⟩
theorem Fn {f : Value -> Value -> Sem Value} {g : Int -> Int -> Bool}
 (rule : ∀ (i j : Int) (t u : Tok) (s : Shared) (Q : Value -> Shared -> Prop) (E : Value -> Shared -> Prop), Q (.bool (g i j)) s -> wpAny (model X.prog X.w) X.A (f (.int i t) (.int j u)) Q E s) :
 OpR X f (rI0 fun i j => .bl (g i j)) := by
 intro pins s σ H x y v u Q I rx ry h
 obtain ⟨i, j, rfl, rfl, q⟩ := h
 obtain ⟨t, rfl⟩ := rx
 obtain ⟨t', rfl⟩ := ry
 exact rule i j t t' s _ _ ⟨.bl (g i j), H, I, rfl, q⟩
def EQ (i j : Int) : Prop := 0 < j /\ j < 1073741824
def E7 (i j : Int) : Prop := 0 <= j /\ j <= 1000000 /\ i.natAbs < 2 ^ 64
def CMul (i j : Int) : Prop := (-(2 ^ 64) < i /\ i < 2 ^ 64) \/ (-(2 ^ 64) < j /\ j < 2 ^ 64)
theorem CMul.ok {i j : Int} (h : CMul i j) : IntMulOk i j := by
 rcases h with ⟨h1, h2⟩ | ⟨h1, h2⟩
 ·exact .of_left (intBits_le_64 h1 h2)
 ·exact .of_right (intBits_le_64 h1 h2)
theorem Gd : OpR X (binaryOp .Add) (rI0 fun i j => .int (i + j)) := GE fun _ _ _ _ _ _ _ q => add_int q
theorem Ft : OpR X (binaryOp .Sub) (rI0 fun i j => .int (i - j)) := GE fun _ _ _ _ _ _ _ q => sub_int q
theorem Fh : OpR X (binaryOp .Mult) (rI CMul fun i j => .int (i * j)) := opI fun _ _ _ _ _ _ _ hc q => mul_int q hc.ok
theorem DH : OpR X (binaryOp .FloorDiv) (rI EQ fun i j => .int (i / j)) := opI fun i j _ _ _ _ _ hc q => by
 have h1 : (0 : Int) < j := hc.1
 have h2 : j < 1073741824 := hc.2
 exact floordiv_int (by omega) (by rw [Int.fdiv_eq_ediv_of_nonneg i (by omega)]; exact q) (.inl (PyProof.noPylong_small (by omega)))
theorem F3 : OpR X (binaryOp .Mod) (rI (fun _ j => 0 < j) fun i j => .int (i % j)) := opI fun i j _ _ _ _ _ hc q => by
 have h1 : (0 : Int) < j := hc
 exact mod_int' (by omega) (by rw [Int.fmod_eq_emod_of_nonneg i (by omega)]; exact q)
theorem Fd : OpR X (binaryOp .Pow) (rI E7 fun i j => .int (i ^ j.toNat)) := opI fun _ _ _ _ _ _ _ hc q => pow_int_small hc.1 hc.2.1 hc.2.2 q
theorem unI {f : Value -> Sem Value} {g : Int -> Int}
 (rule : ∀ (i : Int) (t : Tok) (s : Shared) (Q : Value -> Shared -> Prop) (E : Value -> Shared -> Prop), Q (.int (g i) s.toks) { s with toks := s.toks + 1 } -> wpAny (model X.prog X.w) X.A (f (.int i t)) Q E s) :
 UnR X f (rU fun i => .int (g i)) := by
 intro pins s σ H x v Q I rx h
 obtain ⟨i, rfl, q⟩ := h
 obtain ⟨t, rfl⟩ := rx
 exact rule i t s _ _ ⟨.int (g i), H, I.tok _, ⟨_, rfl⟩, q⟩
theorem E3 : UnR X (unaryOp .USub) (rU fun i => .int (-i)) := unI fun _ _ _ _ _ q => neg_int q
end
def Fo : V -> V -> Bool
 | .non, .non => true | .non, .int _ => true | .int _, .non => true | .non, .bl _ => true | .bl _, .non => true | .non, .str _ => true | .str _, .non => true
 | .int _, .int _ => true | .bl _, .bl _ => true | .str _, .str _ => true | .byt _, .byt _ => true
 | .int _, .str _ => true | .str _, .int _ => true | .bl _, .str _ => true | .str _, .bl _ => true
 | _, _ => false
def rEq : R2 := fun x y H Q => Fo x y = true /\ Q (.bl (decide (x = y))) H
def rNe : R2 := fun x y H Q => Fo x y = true /\ Q (.bl (!decide (x = y))) H
theorem zT {i j : Int} : decide (V.int i = V.int j) = (i == j) := by
 rw [Bool.eq_iff_iff]
 simp
theorem Cd {i j : Bool} : decide (V.bl i = V.bl j) = (i == j) := by
 rw [Bool.eq_iff_iff]
 simp
theorem zy {i j : Str} : decide (V.str i = V.str j) = (i == j) := by
 rw [Bool.eq_iff_iff]
 simp
theorem zN {i j : Array UInt8} : decide (V.byt i = V.byt j) = (i.toList == j.toList) := by
 rw [Bool.eq_iff_iff]
 cases i
 cases j
 simp
section
variable {X : Cx} {a b c : Expr} {ta tb tc : TE} {pos : Pos}
theorem bn {pins : List (Addr × Obj)} {σ : St} {H : Hp} {s : Shared} {Q : VK} {k k' : Bool} (I : Inv X pins σ H s) (q : Q (.bl k) H) (e : k = k') : EP X pins σ Q (.bool k') s := by
 subst e
 exact ⟨.bl k, H, I, rfl, q⟩
theorem Gv : OpR X (Zo .Eq) rEq := by
 intro pins s σ H x y v u Q I rx ry h
 obtain ⟨hs, q⟩ := h
 cases x with
 | non =>
  cases rx
  cases y with
  | non => cases ry; exact PySem.EqNone.eq_none_none (bn I q (by simp))
  | bl j => cases ry; exact PySem.EqNone.eq_none_bool (bn I q (by simp))
  | int j => obtain ⟨t', rfl⟩ := ry; exact PySem.EqNone.eq_none_int (bn I q (by simp))
  | str j => obtain ⟨t', rfl⟩ := ry; exact PySem.EqNone.eq_none_str (bn I q (by simp))
  | _ => exact absurd (show false = true from hs) xC
 | bl i =>
  cases rx
  cases y with
  | non => cases ry; exact PySem.EqNone.eq_bool_none (bn I q (by simp))
  | bl j => cases ry; exact eq_bool (bn I q Cd)
  | str j => obtain ⟨t', rfl⟩ := ry; exact PySem.EqMixed.eq_bool_str (bn I q (by simp))
  | _ => exact absurd (show false = true from hs) xC
 | int i =>
  obtain ⟨t, rfl⟩ := rx
  cases y with
  | non => cases ry; exact PySem.EqNone.eq_int_none (bn I q (by simp))
  | int j => obtain ⟨t', rfl⟩ := ry; exact eq_int (bn I q zT)
  | str j => obtain ⟨t', rfl⟩ := ry; exact PySem.EqMixed.eq_int_str (bn I q (by simp))
  | _ => exact absurd (show false = true from hs) xC
 | str i =>
  obtain ⟨t, rfl⟩ := rx
  cases y with
  | non => cases ry; exact PySem.EqNone.eq_str_none (bn I q (by simp))
  | bl j => cases ry; exact PySem.EqMixed.eq_str_bool (bn I q (by simp))
  | int j => obtain ⟨t', rfl⟩ := ry; exact PySem.EqMixed.eq_str_int (bn I q (by simp))
  | str j => obtain ⟨t', rfl⟩ := ry; exact eq_str (bn I q zy)
  | _ => exact absurd (show false = true from hs) xC
 | byt i =>
  obtain ⟨t, rfl⟩ := rx
  cases y with
  | byt j => obtain ⟨t', rfl⟩ := ry; exact PySem.W.eq_bytes (bn I q zN)
  | _ => exact absurd (show false = true from hs) xC
 | _ => cases y <;> exact absurd (show false = true from hs) xC
theorem GS : OpR X (Zo .NotEq) rNe := by
 intro pins s σ H x y v u Q I rx ry h
 obtain ⟨hs, q⟩ := h
 cases x with
 | non =>
  cases rx
  cases y with
  | non => cases ry; exact PySem.EqNone.ne_none_none (bn I q (by simp))
  | bl j => cases ry; exact PySem.EqNone.ne_none_bool (bn I q (by simp))
  | int j => obtain ⟨t', rfl⟩ := ry; exact PySem.EqNone.ne_none_int (bn I q (by simp))
  | str j => obtain ⟨t', rfl⟩ := ry; exact PySem.EqNone.ne_none_str (bn I q (by simp))
  | _ => exact absurd (show false = true from hs) xC
 | bl i =>
  cases rx
  cases y with
  | non => cases ry; exact PySem.EqNone.ne_bool_none (bn I q (by simp))
  | bl j => cases ry; exact ne_bool (bn I q (congrArg not Cd))
  | str j => obtain ⟨t', rfl⟩ := ry; exact PySem.EqMixed.ne_bool_str (bn I q (by simp))
  | _ => exact absurd (show false = true from hs) xC
 | int i =>
  obtain ⟨t, rfl⟩ := rx
  cases y with
  | non => cases ry; exact PySem.EqNone.ne_int_none (bn I q (by simp))
  | int j => obtain ⟨t', rfl⟩ := ry; exact ne_int (bn I q (congrArg not zT))
  | str j => obtain ⟨t', rfl⟩ := ry; exact PySem.EqMixed.ne_int_str (bn I q (by simp))
  | _ => exact absurd (show false = true from hs) xC
 | str i =>
  obtain ⟨t, rfl⟩ := rx
  cases y with
  | non => cases ry; exact PySem.EqNone.ne_str_none (bn I q (by simp))
  | bl j => cases ry; exact PySem.EqMixed.ne_str_bool (bn I q (by simp))
  | int j => obtain ⟨t', rfl⟩ := ry; exact PySem.EqMixed.ne_str_int (bn I q (by simp))
  | str j => obtain ⟨t', rfl⟩ := ry; exact ne_str (bn I q (congrArg not zy))
  | _ => exact absurd (show false = true from hs) xC
 | byt i =>
  obtain ⟨t, rfl⟩ := rx
  cases y with
  | byt j => obtain ⟨t', rfl⟩ := ry; exact PySem.W.ne_bytes (bn I q (congrArg not zN))
  | _ => exact absurd (show false = true from hs) xC
 | _ => cases y <;> exact absurd (show false = true from hs) xC
theorem Gj : OpR X (Zo .Lt) (rI0 fun i j => .bl (decide (i < j))) := Fn fun _ _ _ _ _ _ _ q => lt_int q
theorem G7 : OpR X (Zo .LtE) (rI0 fun i j => .bl (decide (i <= j))) := Fn fun _ _ _ _ _ _ _ q => le_int q
theorem GM : OpR X (Zo .Gt) (rI0 fun i j => .bl (decide (j < i))) := Fn fun _ _ _ _ _ _ _ q => gt_int q
theorem AW : OpR X (Zo .Lt) (fun x y H Q => ∃ i j, x = .str i /\ y = .str j /\ Q (.bl (decide (i.cps.toList < j.cps.toList))) H) := by
 intro pins s σ H x y v u Q I rx ry h
 obtain ⟨i, j, rfl, rfl, q⟩ := h
 obtain ⟨t, rfl⟩ := rx
 obtain ⟨t', rfl⟩ := ry
 exact lt_str (bn I q rfl)
theorem OpR.or {f : Value -> Value -> Sem Value} {r r' : R2} (h : OpR X f r) (h' : OpR X f r') : OpR X f (fun x y H Q => r x y H Q \/ r' x y H Q) := by
 intro pins s σ H x y v u Q I rx ry q
 rcases q with q | q
 ·exact h pins s σ H x y v u Q I rx ry q
 ·exact h' pins s σ H x y v u Q I rx ry q
theorem aW (b : Expr) {op : CmpOp} (h : op ≠ .In := by decide) (h2 : op ≠ .NotIn := by decide) : YS op b = false := by
 have e1 : (op == CmpOp.In) = false := by cases op <;> first | rfl | exact absurd rfl h
 have e2 : (op == CmpOp.NotIn) = false := by cases op <;> first | rfl | exact absurd rfl h2
 cases b <;> simp [YS, e1, e2]
theorem eg {op : CmpOp} {r : R2} (ho : OpR X (Zo op) r) (ha : PE X a ta) (hb : PE X b tb) (hm : YS op b = false) : PE X (.Compare a [op] [b] pos) (tOp r ta tb) := by
 intro pins s σ H Q I h
 exact wpAny_Compare1 (FJ ha hb I h fun v u s2 x y H2 I2 rx ry q => ho pins s2 σ H2 x y v u Q I2 rx ry q) hm
def Hy (K : W.Frag) (x : V) (H : Hp) (k : Bool) : Prop :=
 match x with
 | .non => k = false
 | .bl b => k = b
 | .int i => k = (i != 0)
 | .str y => y.length <= sizeLine /\ k = ((y.length : Int) != 0)
 | .byt y => y.size <= sizeLine /\ k = ((y.size : Int) != 0)
 | .ref p => (∃ xs, SqL K H p xs /\ k = !xs.isEmpty) \/ (∃ xs, SqT K H p xs /\ k = !xs.isEmpty) \/ ∃ kvs, H p = some (.dK kvs) /\ k = !kvs.isEmpty
 | _ => False
theorem yC {κ : Type} {kvs : List (κ × V)} {vs : List (κ × Value)} (r : KV kvs vs) : (!vs.isEmpty) = !kvs.isEmpty := by
 cases r <;> rfl
theorem r_ {xs : List V} {its : List Value} (r : Vals xs its) : (!its.toArray.isEmpty) = !xs.isEmpty := by
 cases r <;> simp
theorem pT : (sizeLine : Nat) < 2 ^ 63 := by rw [uT]; decide
theorem HB : Ho X (fun x H Q => ∃ k, Hy X.K x H k /\ Q k H) := by
 intro pins s σ H x v Q I rx h
 obtain ⟨k, e, q⟩ := h
 have hl := pT
 have hs : sizeLine = 16777216 := uT
 cases x with
 | non =>
  cases rx
  have e' : k = false := e
  subst e'
  exact truthy_none ⟨H, I, q⟩
 | bl b =>
  cases rx
  have e' : k = b := e
  subst e'
  exact Zl ⟨H, I, q⟩
 | int i =>
  obtain ⟨t, rfl⟩ := rx
  have e' : k = (i != 0) := e
  subst e'
  exact PySem.P.truthy_int ⟨H, I, q⟩
 | str y =>
  obtain ⟨t, rfl⟩ := rx
  obtain ⟨hy, e'⟩ : y.length <= sizeLine /\ k = ((y.length : Int) != 0) := e
  subst e'
  exact PySem.P.truthy_str (by omega) ⟨H, I.tok _, q⟩
 | byt y =>
  obtain ⟨t, rfl⟩ := rx
  obtain ⟨hy, e'⟩ : y.size <= sizeLine /\ k = ((y.size : Int) != 0) := e
  subst e'
  exact PySem.W.truthy_bytes (by omega) ⟨H, I.tok _, q⟩
 | ref p =>
  cases rx
  have e' : (∃ xs, SqL X.K H p xs /\ k = !xs.isEmpty) \/ (∃ xs, SqT X.K H p xs /\ k = !xs.isEmpty) \/ ∃ kvs, H p = some (.dK kvs) /\ k = !kvs.isEmpty := e
  rcases e' with ⟨xs, hx, e'⟩ | ⟨xs, hx, e'⟩ | ⟨kvs, hx, e'⟩
  ·subst e'
   obtain ⟨its, r, pl, hz⟩ := I.list hx
   have hlen := r.length
   exact wpAny_truthy_list pl.isList (by simp only [zj]; omega) ⟨H, I.tok _, by rw [r_ r]; exact q⟩
  ·subst e'
   obtain ⟨its, r, pl, hz⟩ := I.tuple hx
   have hlen := r.length
   exact truthy_tuple pl (by simp only [zj]; omega) ⟨H, I.tok _, by rw [r_ r]; exact q⟩
  ·subst e'
   obtain ⟨hz, hS, vs, r, m⟩ : kvs.length <= sizeLine /\ (p == Yn) = false /\ ∃ vs, KV kvs vs /\ s.heap.DictOf (bN X.prog X.w) p vs := I.hok p _ hx
   have hlen : kvs.length = vs.length := Paired.length r
   exact wpAny_truthy_dict hS m (by omega) ⟨H, I.tok _, by rw [yC r]; exact q⟩
 | _ => exact (show False from e).elim
theorem yn : OpR X (binaryOp .Add) (fun x y H Q => ∃ i j, x = .str i /\ y = .str j /\ i.length + j.length <= sizeLine /\ Q (.str (i ++ j)) H) := by
 intro pins s σ H x y v u Q I rx ry h
 obtain ⟨i, j, rfl, rfl, hz, q⟩ := h
 obtain ⟨t, rfl⟩ := rx
 obtain ⟨t', rfl⟩ := ry
 exact add_str (fun t' tk => ⟨.str (i ++ j), H, I.tok _, ⟨_, rfl⟩, q⟩) hz
theorem iQ {x : V} {us : List Value} (r : Vals [x] us) : ∃ u, us = [u] /\ RelV x u := by
 cases r with
 | cons r1 r2 => cases r2; exact ⟨_, rfl, r1⟩
theorem zv {x y : V} {us : List Value} (r : Vals [x, y] us) : ∃ u w', us = [u, w'] /\ RelV x u /\ RelV y w' := by
 cases r with
 | cons r1 r2 =>
  cases r2 with
  | cons r3 r4 => cases r4; exact ⟨_, _, rfl, r1, r3⟩
theorem AI (hc : X.calm = true) : CallR X (.builtin "max") (fun xs H Q => ∃ i j, xs = [.int i, .int j] /\ Q (.int (if j > i then j else i)) H) := by
 intro pins s σ H xs us Q I r h
 obtain ⟨i, j, rfl, q⟩ := h
 obtain ⟨u, w', rfl, ⟨t, rfl⟩, ⟨t', rfl⟩⟩ := zv r
 refine max_two_ints (I.ok.hd hc) fun h' tk k => ⟨_, H, I.kept k, ?_, q⟩
 by_cases hj : j > i
 ·rw [if_pos hj, if_pos hj]; exact ⟨_, rfl⟩
 ·rw [if_neg hj, if_neg hj]; exact ⟨_, rfl⟩
theorem AO (hc : X.calm = true) : CallR X (.builtin "min") (fun xs H Q => ∃ i j, xs = [.int i, .int j] /\ Q (.int (if j < i then j else i)) H) := by
 intro pins s σ H xs us Q I r h
 obtain ⟨i, j, rfl, q⟩ := h
 obtain ⟨u, w', rfl, ⟨t, rfl⟩, ⟨t', rfl⟩⟩ := zv r
 refine min_two_ints (I.ok.hd hc) fun h' tk k => ⟨_, H, I.kept k, ?_, q⟩
 by_cases hj : j < i
 ·rw [if_pos hj, if_pos hj]; exact ⟨_, rfl⟩
 ·rw [if_neg hj, if_neg hj]; exact ⟨_, rfl⟩
def Hu (K : W.Frag) (x : V) (H : Hp) (n : Nat) : Prop :=
 match x with
 | .str y => y.length <= sizeLine /\ n = y.length
 | .byt y => y.size <= sizeLine /\ n = y.size
 | .ref p => (∃ xs, SqL K H p xs /\ n = xs.length) \/ ∃ xs, SqT K H p xs /\ n = xs.length
 | _ => False
theorem Cf : CallR X (.builtin "len") (fun xs H Q => ∃ x n, xs = [x] /\ Hu X.K x H n /\ Q (.int n) H) := by
 intro pins s σ H xs us Q I r h
 obtain ⟨x, n, rfl, e, q⟩ := h
 obtain ⟨u, rfl, rx⟩ := iQ r
 have hl := pT
 have hs : sizeLine = 16777216 := uT
 cases x with
 | str y =>
  obtain ⟨t, rfl⟩ := rx
  obtain ⟨hy, e'⟩ : y.length <= sizeLine /\ n = y.length := e
  subst e'
  exact len_str (by omega) ⟨.int _, H, I.tok _, ⟨_, rfl⟩, q⟩
 | byt y =>
  obtain ⟨t, rfl⟩ := rx
  obtain ⟨hy, e'⟩ : y.size <= sizeLine /\ n = y.size := e
  subst e'
  exact PySem.W.len_bytes (by omega) ⟨.int _, H, I.tok _, ⟨_, rfl⟩, q⟩
 | ref p =>
  cases rx
  have e' : (∃ xs, SqL X.K H p xs /\ n = xs.length) \/ ∃ xs, SqT X.K H p xs /\ n = xs.length := e
  rcases e' with ⟨xs, hx, e'⟩ | ⟨xs, hx, e'⟩
  ·subst e'
   obtain ⟨its, r', pl, hz⟩ := I.list hx
   have hlen := r'.length
   exact Calls.call_len_list pl.isList (by simp only [zj]; omega) ⟨.int xs.length, H, I.tok _, ⟨_, by simp only [zj]; rw [hlen]⟩, q⟩
  ·subst e'
   obtain ⟨its, r', pl, hz⟩ := I.tuple hx
   have hlen := r'.length
   exact len_tuple pl (by simp only [zj]; omega) ⟨.int xs.length, H, I.tok _, ⟨_, by simp only [zj]; rw [hlen]⟩, q⟩
 | _ => exact (show False from e).elim
end
end L2
namespace L2
open PySem PySem.Spec PyProof.Rows
structure ObjM (h : Heap) (x dx C : Addr) (mA : Str -> Option Value) : Prop where
 obj : h.get? x = some (Z2 C dx)
 ns : h.Ns1 dx mA
 ne : dx ≠ x
theorem At {h : Heap} {dx : Addr} {mA : Str -> Option Value} (n : h.Ns1 dx mA) : ∃ od, h.get? dx = some od /\ ∀ name, PySem.W.lookIn name od = some (mA name) := by
 obtain ⟨o, es, ep, ho, hd, hk, _, hm⟩ := n
 refine ⟨o, ho, fun name => ?_⟩
 have e := hm name
 unfold nsFind findBy at e
 rw [<- Array.find?_toList] at e
 unfold PySem.W.lookIn
 rw [hd]
 dsimp only
 split
 ·rename_i y q
  rw [q] at e
  exact congrArg some e
 ·rename_i q
  rw [q] at e
  have a : es.toList.any (·.refKey) = false := by
   rw [List.any_eq_false]
   intro y hy
   obtain ⟨z, t, hkey⟩ := hk y (Array.mem_toList_iff.mp hy)
   simp [DictEntry.refKey, hkey]
  have a' : ¬ es.toList.any (·.refKey) = true := by rw [a]; exact xC
  rw [if_neg a']
  exact congrArg some e
theorem ObjM.look {h : Heap} {x dx C : Addr} {mA : Str -> Option Value} (I : ObjM h x dx C mA) : ∃ od, PySem.W.InstAt h x (Z2 C dx) C (some od) /\ ∀ name, PySem.W.lookIn name od = some (mA name) :=
 let ⟨od, ho, hl⟩ := At I.ns
 ⟨od, ⟨I.obj, rfl, rfl, ho⟩, hl⟩
section
variable {prog : Program} {w : World} {A : Around} {E : Value -> Shared -> Prop} {s : Shared} {K : W.Frag} {x dx C f : Addr} {mA : Str -> Option Value} {name : Str} {v : Value}
theorem CV {expr : Bool} {Q : Value -> Shared -> Prop} (X : K.In s.heap) (I : ObjM s.heap x dx C mA) (hg : PySem.W.plainGet K C name = true) (hh : PySem.W.hasDictIn K C = true)
 (ha : Za K (.ref C) name = some none) (hv : mA name = some v) (hv' : PySem.W.handedIn v = true) (h : Q v { s with toks := s.toks + 1 }) :
 wpAny (model prog w) A (getAttr (.ref x) name expr) Q E s := by
 obtain ⟨od, J, hl⟩ := I.look
 exact PySem.W.get_value X J (PySem.W.plainGet_of hg).1 (PySem.W.findObj_own hh ha rfl (by rw [hl, hv])) hv' h
theorem Bj {pl : Sem Bool} {Q : Value × List Value -> Shared -> Prop} (X : K.In s.heap) (I : ObjM s.heap x dx C mA) (hg : PySem.W.plainGet K C name = true)
 (hf : Za K (.ref C) name = some (some (.ref f))) (ht : PySem.W.isFn K (.ref f) = true) (hv : mA name = none) (h : Q (.ref f, [.ref x]) s) :
 wpAny (model prog w) A (getMethod (.ref x) name pl) Q E s := by
 obtain ⟨od, J, hl⟩ := I.look
 exact PySem.W.method_fn X J (PySem.W.plainGet_of hg).1 (PySem.W.plainGet_of hg).2 hf (beq_iff_eq.mp ht) (by show (PySem.W.lookIn name od).map (·.isSome) = some false; rw [hl, hv]; rfl) h
theorem Ef {ns : List Str} {Q : Unit -> Shared -> Prop} (X : K.In s.heap) (I : ObjM s.heap x dx C mA)
 (hs : Za K (.ref C) "__setattr__" = some (some (.builtin "object.__setattr__"))) (hp : PySem.W.plainOver K C = true) (ht : PySem.W.takerIn K C name = some none) (hh : PySem.W.hasDictIn K C = true)
 (hw : PySem.Within mA ns) (hsz : ns.length <= sizeLine)
 (h : ∀ h', ObjM h' x dx C (fun y => if y = name then some v else mA y) -> ZQ dx s.heap h' -> Q () { s with heap := h', toks := s.toks + 2 }) :
 wpAny (model prog w) A (setAttr (.ref x) name v) Q E s := by
 obtain ⟨od, J, hl⟩ := I.look
 refine PySem.W.set_plain X J hs (PySem.W.osa_open (s := { s with toks := s.toks + 1 }) (r := none) X J hp ht fun b => ?_)
 obtain ⟨cd, hc, hd'⟩ := PySem.W.any_some hh
 have hx : s.heap.get? x = some ⟨.ref C, some dx, .plain, #[]⟩ := I.obj
 refine zu (wG (zu (zu (wpAny_loadPart hx (zu (PySem.W.Looks.here (s := { s with toks := s.toks + 1 }) (PySem.W.looks_clsIn X hc) ?_))))))
 rw [hd']
 refine wG (a := some dx) (zu (wG (zu ?_)))
 refine wpAny_nsSet1 (s := { s with toks := s.toks + 1 }) I.ns fun h' hn2 hs2 => ?_
 obtain ⟨oD, esD, epD, hoD, hdD, hcD⟩ := hn2.count (PySem.Within.cons name v hw)
 refine zu (wpAny_lookBehind hoD (by rw [hdD]; exact pastItsLine_dict (sC hcD (by rw [ql]; omega))) ?_)
 exact wG (h _ ⟨(hs2.2 _ (Ne.symm I.ne)).trans I.obj, hn2, I.ne⟩ hs2)
theorem Bh {R : Result -> Shared -> Prop} {vs : List Value} {kw : List (Str × Value)} (X : K.In s.heap) (hm : PySem.W.makesIn K C = true)
 (hi : Za K (.ref C) "__init__" = some (some (.ref f))) (hf : PySem.W.typeIn K (.ref f) = some (.type "function"))
 (h : codeAny (model prog w) (A.under (.builtin "type.__call__" ⟨.ref C :: vs, kw⟩)) (.call (.ref f) ⟨.ref (s.heap.objs.size + 1) :: vs, kw⟩) (PySem.W.InitBack (s.heap.objs.size + 1) R)
  { s with heap := (s.heap.push ZT).push (Z2 C s.heap.objs.size) }) :
 codeAny (model prog w) A (.call (.ref C) ⟨vs, kw⟩) R s := by
 obtain ⟨hh, g, d, t, os⟩ := s
 exact PySem.W.make_core (PySem.W.makes_of X hm) (PySem.W.looks_findIn X hi) (fun self => PySem.W.bind_fn X self hf) (.inl rfl) h
end
def gM (f : Str) (v : V) : List (Str × V) -> List (Str × V)
 | [] => [(f, v)]
 | (g, x) :: r => if g = f then (g, v) :: r else (g, x) :: gM f v r
theorem qq (f g : Str) (v : V) : ∀ fs : List (Str × V), (gM f v fs).lookup g = if g = f then some v else fs.lookup g
 | [] => by
  show Zk g [(f, v)] = _
  by_cases h : g = f
  ·have hb : (g == f) = true := beq_iff_eq.mpr h
   simp only [Zk, hb, if_pos h]
  ·have hb : (g == f) = false := beq_eq_false_iff_ne.mpr h
   simp only [Zk, hb, if_neg h]
 | (k, x) :: r => by
  have ih := qq f g v r
  rw [show gM f v ((k, x) :: r) = (if k = f then (k, v) :: r else (k, x) :: gM f v r) from rfl]
  by_cases hk : k = f
  ·rw [if_pos hk]
   by_cases h : g = k
   ·have hb : (g == k) = true := beq_iff_eq.mpr h
    simp only [Zk, hb, if_pos (h.trans hk)]
   ·have hb : (g == k) = false := beq_eq_false_iff_ne.mpr h
    simp only [Zk, hb, if_neg (fun e : g = f => h (e.trans hk.symm))]
  ·rw [if_neg hk]
   by_cases h : g = k
   ·have hb : (g == k) = true := beq_iff_eq.mpr h
    simp only [Zk, hb, if_neg (fun e : g = f => hk (h.symm.trans e))]
   ·have hb : (g == k) = false := beq_eq_false_iff_ne.mpr h
    simp only [Zk, hb]
    exact ih
theorem pC (f : Str) (v : V) : ∀ fs : List (Str × V), f ∈ (gM f v fs).map (·.1) /\ ∀ g, g ∈ fs.map (·.1) -> g ∈ (gM f v fs).map (·.1)
 | [] => ⟨by simp [gM], fun g h => by simp at h⟩
 | (k, x) :: r => by
  obtain ⟨i1, i2⟩ := pC f v r
  rw [show gM f v ((k, x) :: r) = (if k = f then (k, v) :: r else (k, x) :: gM f v r) from rfl]
  by_cases hk : k = f
  ·rw [if_pos hk]
   subst hk
   exact ⟨by simp, fun g h => by simpa using h⟩
  ·rw [if_neg hk]
   refine ⟨?_, fun g h => ?_⟩
   ·rw [ud]
    exact ue _ i1
   ·rw [ud] at h |-
    rcases ve.mp h with e | e
    ·exact ve.mpr (.inl e)
    ·exact ue _ (i2 g e)
theorem qj (f : Str) (v : V) : ∀ fs : List (Str × V), (gM f v fs).length <= fs.length + 1
 | [] => by simp [gM]
 | (k, x) :: r => by
  have ih := qj f v r
  rw [show gM f v ((k, x) :: r) = (if k = f then (k, v) :: r else (k, x) :: gM f v r) from rfl]
  by_cases hk : k = f
  ·rw [if_pos hk, ql, ql]; omega
  ·rw [if_neg hk, ql, ql]; omega
theorem RelO.some_of {v : V} {o : Option Value} (r : RelO (some v) o) : ∃ u, o = some u /\ RelV v u := by
 cases o with
 | none => exact (show False from r).elim
 | some u => exact ⟨u, rfl, r⟩
theorem RelO.none_of {o : Option Value} (r : RelO none o) : o = none := by
 cases o with
 | none => rfl
 | some u => exact (show False from r).elim
theorem AG {v : V} {u : Value} (r : RelV v u) : PySem.W.handedIn u = true := by
 cases v with
 | non => cases (show u = Zn from r); rfl
 | bl b => cases (show u = Value.bool b from r); rfl
 | int i => obtain ⟨t, e⟩ := (show ∃ t, u = YU i t from r); cases e; rfl
 | str x => obtain ⟨t, e⟩ := (show ∃ t, u = Value.str x t from r); cases e; rfl
 | byt b => obtain ⟨t, e⟩ := (show ∃ t, u = Value.bytes b t from r); cases e; rfl
 | flt b => obtain ⟨t, e⟩ := (show ∃ t, u = Value.float b t from r); cases e; rfl
 | ref a => cases (show u = xL a from r); rfl
 | ty n => cases (show u = Ye n from r); rfl
section
variable {P : Program} {w : World} {H H' : Hp} {h h' : Heap} {a C dx : Addr} {fs fs' : List (Str × V)}
theorem qZ (hok : HOk P w H h) (e : H a = some (.ins C dx fs)) : ∃ mA, ObjM h a dx C mA /\ (∀ f, RelO (fs.lookup f) (mA f)) /\ PySem.Within mA (fs.map (·.1)) /\ fs.length <= 1000 /\ H dx = some (.own a) := by
 obtain ⟨d, z, ne, ob, mA, n, r, q⟩ := (show ObjOk P w H h a (.ins C dx fs) from hok a _ e)
 exact ⟨mA, ⟨ob, n, ne⟩, r, q, z, d⟩
end
structure Cls (K : W.Frag) (C : Addr) : Prop where
 pg : PySem.W.plainGet K C Str.empty = true
 hd : PySem.W.hasDictIn K C = true
 po : PySem.W.plainOver K C = true
 sa : Za K (.ref C) "__setattr__" = some (some (.builtin "object.__setattr__"))
theorem Cls.get {K : W.Frag} {C : Addr} (c : Cls K C) (f : Str) : PySem.W.plainGet K C f = true := c.pg
def NoAttr (K : W.Frag) (C : Addr) (f : Str) : Prop := Za K (.ref C) f = some none
theorem NoAttr.taker {K : W.Frag} {C : Addr} {f : Str} (n : NoAttr K C f) : PySem.W.takerIn K C f = some none := by
 unfold PySem.W.takerIn
 rw [show Za K (.ref C) f = some none from n]
 rfl
structure qx (K : W.Frag) (C : Addr) (m : Str) (f : Addr) : Prop where
 at_ : Za K (.ref C) m = some (some (.ref f))
 fn : PySem.W.isFn K (.ref f) = true
 kp : Yz K (.ref f) = true
section
variable {X : Cx} {pins : List (Addr × Obj)} {σ : St} {H : Hp} {s : Shared} {a C dx : Addr} {fs : List (Str × V)} {f : Str} {v : V} {A : Around} {E : Value -> Shared -> Prop}
theorem yD {b : Bool} {Q : Value -> Shared -> Prop} (I : Inv X pins σ H s) (e : H a = some (.ins C dx fs)) (c : Cls X.K C) (n : NoAttr X.K C f) (l : fs.lookup f = some v)
 (h : ∀ u s', Inv X pins σ H s' -> RelV v u -> Q u s') : wpAny (model X.prog X.w) A (getAttr (.ref a) f b) Q E s := by
 obtain ⟨mA, O, r, _, _, _⟩ := qZ I.hok e
 obtain ⟨u, hu, ru⟩ := RelO.some_of (v := v) (o := mA f) (by rw [<- l]; exact r f)
 exact CV I.kIn O (c.get f) c.hd n hu (AG ru) (h u _ (I.tok _) ru)
theorem rX {m : Str} {g : Addr} {pl : Sem Bool} {Q : Value × List Value -> Shared -> Prop} (I : Inv X pins σ H s) (e : H a = some (.ins C dx fs)) (c : Cls X.K C) (k : qx X.K C m g) (l : fs.lookup m = none)
 (h : Q (.ref g, [.ref a]) s) : wpAny (model X.prog X.w) A (getMethod (.ref a) m pl) Q E s := by
 obtain ⟨mA, O, r, _, _, _⟩ := qZ I.hok e
 have hn : mA m = none := RelO.none_of (by rw [<- l]; exact r m)
 exact Bj I.kIn O (c.get m) k.at_ k.fn hn h
theorem yM {y : V} {u : Value} {Q : Unit -> Shared -> Prop} (I : Inv X pins σ H s) (e : H a = some (.ins C dx fs)) (c : Cls X.K C) (n : NoAttr X.K C f) (hl : fs.length < 1000) (ry : RelV y u)
 (h : ∀ s', Inv X pins σ (upd H a (.ins C dx (gM f y fs))) s' -> Q () s') : wpAny (model X.prog X.w) A (setAttr (.ref a) f u) Q E s := by
 obtain ⟨mA, O, r, wi, _, ho⟩ := qZ I.hok e
 have hz : (fs.map (·.1)).length <= sizeLine := by rw [zl, uT]; omega
 refine Ef I.kIn O c.sa c.po n.taker c.hd wi hz fun h' O' sb => h _ ?_
 have hd : ∃ o, h'.get? dx = some o := let ⟨o, _, _, e', _⟩ := O'.ns; ⟨o, e'⟩
 refine I.write (x := a) (e := dx) (by rw [e]; exact Z1) (.inr ho) (fun b q hb z => (sb.2 b hb).trans z) hd ?_
 refine ⟨by rw [ay O.ne]; exact ho, ?_, O.ne, O'.obj, _, O'.ns, fun g => ?_, fun g hg => ?_⟩
 ·have := qj f y fs; omega
 ·show RelO ((gM f y fs).lookup g) (if g = f then some u else mA g)
  rw [qq]
  by_cases q : g = f
  ·rw [if_pos q, if_pos q]; exact ry
  ·rw [if_neg q, if_neg q]; exact r g
 ·by_cases q : g = f
  ·rw [q]; exact (pC f y fs).1
  ·refine (pC f y fs).2 g (wi g fun z => hg ?_)
   show (if g = f then some u else mA g) = none
   rw [if_neg q]; exact z
theorem Inv.made (I : Inv X pins σ H s) : Inv X pins σ (upd (upd H s.heap.objs.size (.own (s.heap.objs.size + 1))) (s.heap.objs.size + 1) (.ins C s.heap.objs.size []))
 { s with heap := (s.heap.push ZT).push (Z2 C s.heap.objs.size) } := by
 have e1 : (s.heap.push ZT).get? s.heap.objs.size = some ZT := Heap.get?_push_size s.heap rfl
 have e2 : ((s.heap.push ZT).push (Z2 C s.heap.objs.size)).get? (s.heap.objs.size + 1) = some (Z2 C s.heap.objs.size) := by
  have := Heap.get?_push_size (s.heap.push ZT) (o := Z2 C s.heap.objs.size) rfl
  rwa [Heap.size_push] at this
 have e3 : (s.heap.push ZT).Ns s.heap.objs.size (fun _ => none) := ⟨ZT, #[], _, e1, rfl, (fun e he => absurd he (by simp)), fun _ => rfl⟩
 have I1 := I.laid (a := s.heap.objs.size) (o := .own (s.heap.objs.size + 1)) (h' := s.heap.push ZT) (t' := s.toks) (fun b u q => Heap.get?_push_of_some _ q) (zR _) ⟨_, e1⟩
 refine I1.laid (a := s.heap.objs.size + 1) (o := .ins C s.heap.objs.size []) (t' := s.toks) (fun b u q => Heap.get?_push_of_some _ q) (Nat.le_of_eq (Heap.size_push _ _)) ?_
 have ne : s.heap.objs.size ≠ s.heap.objs.size + 1 := uZ (Nat.lt_succ_self _)
 refine ⟨by rw [ay ne, al], Zb _, ne, e2, fun _ => none, (Heap.Ns1.of_empty e3).at fun o q => Heap.get?_push_of_some _ q, fun _ => Z1, fun y hy => absurd rfl hy⟩
theorem Ea {prog : Program} {w : World} {env : Env} {e : Expr} {f : Str} {pos : Pos} {s : Shared} {Q : Value -> Shared -> Prop} (hb : Z6 e f env (eval e env) = eval e env)
 (h : wpAny (model prog w) A (eval e env) (fun o s₁ => wpAny (model prog w) A (getAttr o f true) Q E s₁) E s) : wpAny (model prog w) A (eval (.Attribute e f pos) env) Q E s :=
 Attribute_any_ h (by rw [arm_eval_Attribute, hb])
end
section
variable {X : Cx} {o e value : Expr} {f : Str} {pos pos' tpos : Pos} {ta tv : TE}
end
section
variable {X : Cx} {pins : List (Addr × Obj)} {σ : St} {H : Hp} {s : Shared} {A : Around} {E : Value -> Shared -> Prop} {Q : Value -> Shared -> Prop} {c : Value} {b : Bool}
inductive nk (K : W.Frag) (H : Hp) : V -> Value -> Prop where
 | non : nk K H .non (.type "NoneType")
 | bl (x : Bool) : nk K H (.bl x) (.type "bool")
 | int (i : Int) : nk K H (.int i) (.type "int")
 | str (x : Str) : nk K H (.str x) (.type "str")
 | flt (x : UInt64) : nk K H (.flt x) (.type "float")
 | lst {a : Addr} {xs : List V} (e : H a = some (.lst xs)) : nk K H (.ref a) (.type "list")
 | frz {a : Addr} {o : Obj} {xs : List V} (e : H a = some (.frz o (.lst xs))) : nk K H (.ref a) (.type "list")
 | tup {a : Addr} {xs : List V} (e : H a = some (.tup xs)) : nk K H (.ref a) (.type "tuple")
 | dK {a : Addr} {kvs : List (Key × V)} (e : H a = some (.dK kvs)) : nk K H (.ref a) (.type "dict")
 | dT {a : Addr} {kvs : List (List Key × V)} (e : H a = some (.dT kvs)) : nk K H (.ref a) (.type "dict")
 | ins {a C dx : Addr} {fs : List (Str × V)} (e : H a = some (.ins C dx fs)) (cl : Cls K C) (ha : Za K (.ref C) "__class__" = some (some (.builtin "object.__class__")))
  (hn : PySem.W.specialIn K (.builtin "object.__class__") "__get__" = some (some (.builtin "getset_descriptor.__get__"))) (htk : PySem.W.takesIn K (.builtin "object.__class__") = some true)
  (hm : YR K C (.type "object") = some true) : nk K H (.ref a) (.ref C)
theorem Aw {x : V} {u t : Value} (I : Inv X pins σ H s) (rx : RelV x u) (ty : nk X.K H x t) (e : rT X.K t c = some b) (h : ∀ tk, Q (.bool b) { s with toks := tk }) :
 wpAny (model X.prog X.w) A (call (.builtin "isinstance") [u, c]) Q E s := by
 cases ty with
 | non => cases (show u = Zn from rx); exact ZY PySem.W.kitx_none I.kIn Z1 e (fun z => nomatch z) h
 | bl y => cases (show u = Value.bool y from rx); exact ZY PySem.W.kitx_bool I.kIn Z1 e (fun z => nomatch z) h
 | int i => obtain ⟨t, q⟩ := (show ∃ t, u = YU i t from rx); cases q; exact ZY PySem.W.kitx_int I.kIn Z1 e (fun z => nomatch z) h
 | str y => obtain ⟨t, q⟩ := (show ∃ t, u = Value.str y t from rx); cases q; exact ZY PySem.W.kitx_str I.kIn Z1 e (fun z => nomatch z) h
 | flt y => obtain ⟨t, q⟩ := (show ∃ t, u = Value.float y t from rx); cases q; exact ZY PySem.W.kitx_float I.kIn Z1 e (fun z => nomatch z) h
 | @lst a xs ea =>
  cases (show u = xL a from rx)
  obtain ⟨_, _, n, _, h1⟩ := (show ObjOk X.prog X.w H s.heap a (.lst xs) from I.hok a _ ea)
  exact ZY PySem.W.kitx_list I.kIn ⟨_, h1, rfl⟩ e (fun z => nomatch z) h
 | @frz a ob xs ea =>
  cases (show u = xL a from rx)
  obtain ⟨_, _, _, n, _, h1⟩ := (show ObjOk X.prog X.w H s.heap a (.frz ob (.lst xs)) from I.hok a _ ea)
  exact ZY PySem.W.kitx_list I.kIn ⟨_, h1, rfl⟩ e (fun z => nomatch z) h
 | @tup a xs ea =>
  cases (show u = xL a from rx)
  obtain ⟨_, _, _, p⟩ := (show ObjOk X.prog X.w H s.heap a (.tup xs) from I.hok a _ ea)
  obtain ⟨o, h1, h2, _⟩ := p
  exact ZY PySem.W.kitx_tuple I.kIn ⟨o, h1, h2⟩ e (fun z => nomatch z) h
 | @dK a kvs ea =>
  cases (show u = xL a from rx)
  obtain ⟨_, _, vs, _, p⟩ := (show ObjOk X.prog X.w H s.heap a (.dK kvs) from I.hok a _ ea)
  obtain ⟨o, es, ep, h1, h2, _⟩ := p
  exact ZY PySem.W.kitx_dict I.kIn ⟨o, h1, h2.1⟩ e (fun z => nomatch z) h
 | @dT a kvs ea =>
  cases (show u = xL a from rx)
  obtain ⟨_, _, xs, _, o, es, ep, h1, h2, _⟩ := (show ObjOk X.prog X.w H s.heap a (.dT kvs) from I.hok a _ ea)
  exact ZY PySem.W.kitx_dict I.kIn ⟨o, h1, h2.1⟩ e (fun z => nomatch z) h
 | @ins a C dx fs ea cl ha hn htk hm =>
  cases (show u = xL a from rx)
  obtain ⟨mA, O, _⟩ := qZ I.hok ea
  obtain ⟨od, J, _⟩ := O.look
  exact ZY (PySem.W.kitx_own (cl.get _) cl.hd ha hn htk hm) I.kIn J e (fun z => nomatch z) h
end
end L2
namespace L2
open PySem PySem.Spec PyProof.Rows
structure Room (k : Nat) (A : Around) : Prop where
 hd : A.handled = none
 dp : A.depth + 3 * k + 5 < recursionLimit
 un : A.units + 16 * k + 200 < cLine
theorem Room.mono {j k : Nat} {A : Around} (r : Room k A) (h : j <= k) : Room j A := ⟨r.hd, by have := r.dp; omega, by have := r.un; omega⟩
theorem Room.deeper {k : Nat} {A : Around} (r : Room (k + 1) A) (env : Env) : Room k (A.deeper env) :=
 ⟨r.hd, by have := r.dp; show A.depth + 1 + 3 * k + 5 < _; omega, by have := r.un; show A.units + 3 + 16 * k + 200 < _; omega⟩
theorem zh {A : Around} {C : Addr} {us : List Value} {kw : List (Str × Value)} : (A.under (.builtin "type.__call__" ⟨.ref C :: us, kw⟩)).depth = A.depth + 1 := by
 first | rfl | simp [Around.under, Code.weight, Code.isCreation, Code.isGuard, Code.isCaller, Code.frames, Code.isFrame, guardIds]
theorem yX {A : Around} {C : Addr} {us : List Value} {kw : List (Str × Value)} : (A.under (.builtin "type.__call__" ⟨.ref C :: us, kw⟩)).units = A.units + 1 := by
 first | rfl | simp [Around.under, Code.cUnits, Code.frames, Code.isFrame]
theorem Room.make {k : Nat} {A : Around} (r : Room (k + 1) A) (C : Addr) (us : List Value) (kw : List (Str × Value)) : Room k (A.under (.builtin "type.__call__" ⟨.ref C :: us, kw⟩)) :=
 ⟨r.hd, by have := r.dp; rw [zh]; omega, by have := r.un; rw [yX]; omega⟩
theorem Room.depth {k : Nat} {A : Around} (r : Room k A) : A.depth < recursionLimit := by have := r.dp; omega
def AJ : TA := fun _ H Q => Q [] H
def wX (ta : TE) (tr : TA) : TA := fun σ H Q => ta σ H fun x H1 => tr σ H1 fun xs H2 => Q (x :: xs) H2
section
variable {X : Cx} {e : Expr} {es : List Expr} {te : TE} {t : TA} {pos : Pos}
theorem FQ : PA X [] AJ := fun _ _ _ _ H Q I h => Calls.spliced_nil ⟨[], H, I, .nil, h⟩
theorem Ec (ha : PE X e te) (hr : PA X es t) (hs : starEach (e :: es) X.env = (false, eval e X.env) :: starEach es X.env := by rfl) : PA X (e :: es) (wX te t) := by
 intro pos pins s σ H Q I h
 rw [hs]
 show wpAny _ _ (spliced ((false, eval e X.env) :: backTo pos (starEach es X.env))) _ _ s
 refine Y7 (thn (ha pins s σ H _ I h) fun u s1 ⟨x, H1, I1, r1, q1⟩ => ?_)
 exact thn (hr pos pins s1 σ H1 _ I1 q1) fun us s2 ⟨xs, H2, I2, r2, q2⟩ => ⟨x :: xs, H2, I2, .cons r1 r2, q2⟩
def E5 (t : TA) : TE := fun σ H Q => t σ H fun xs H1 => xs.length <= sizeLine /\ ∀ p, H1 p = none -> Q (.ref p) (upd H1 p (.tup xs))
def GV (t : TA) : TE := fun σ H Q => t σ H fun xs H1 => xs.length <= sizeLine /\ ∀ p, H1 p = none -> Q (.ref p) (upd H1 p (.lst xs))
theorem dW {x1} (h : PA X es t) : PE X (.Tuple es x1 pos) (E5 t) := by
 intro pins s σ H Q I hq
 refine wpAny_Tuple_spliced (thn (h pos pins s σ H _ I hq) fun us s1 ⟨xs, H1, I1, r, z, q⟩ => ⟨by rw [<- r.length]; exact z, ?_⟩)
 have hf : H1 s1.heap.objs.size = none := I1.hok.fresh (zR _)
 refine ⟨.ref s1.heap.objs.size, upd H1 s1.heap.objs.size (.tup xs), I1.laid (t' := s1.toks) (fun b u e => Heap.get?_push_of_some _ e) (zR _) ?_, rfl, q _ hf⟩
 exact ⟨z, us, r, ⟨_, Heap.get?_push_size _ rfl, rfl, _, rfl⟩⟩
theorem bh (h : PA X es t) : PE X (.List es pos) (GV t) := by
 intro pins s σ H Q I hq
 refine wpAny_List_spliced (thn (h pos pins s σ H _ I hq) fun us s1 ⟨xs, H1, I1, r, z, q⟩ => ⟨by rw [<- r.length]; exact z, ?_⟩)
 have hf : H1 s1.heap.objs.size = none := I1.hok.fresh (zR _)
 refine ⟨.ref s1.heap.objs.size, upd H1 s1.heap.objs.size (.lst xs), I1.laid (t' := s1.toks) (fun b u e => Heap.get?_push_of_some _ e) (zR _) ?_, rfl, q _ hf⟩
 exact ⟨z, us, 0, r, Heap.get?_push_size _ rfl⟩
end
abbrev Sp := List V -> Hp -> VK -> XK -> Prop
abbrev CXT := List Env -> Hp -> Shared -> XK -> Value -> Shared -> Prop
structure Env0 (P : Program) (w : World) (K : W.Frag) (mg : Str -> Option Value) (base : Heap) (A : Around) (outer : List Env) (s : Shared) (H : Hp) : Prop where
 frames : A.frames = some outer
 mod : Mod K mg base
 bs : ∀ b o, base.get? b = some o -> s.heap.get? b = some o /\ H b = none
 bsz : base.objs.size <= s.heap.objs.size
 funs : s.heap.FunFrames base outer
 frf : ∀ b ∈ frs outer, H b = none
 hok : HOk P w H s.heap
 bare : AllBare s.gens
def CE (outer : List Env) (P : Program) (w : World) (H : Hp) (s : Shared) (Q : VK) (u : Value) (s' : Shared) : Prop :=
 ∃ v H', s'.os = s.os /\ AllBare s'.gens /\ Un (frs outer) [] H H' s.heap s'.heap /\ HOk P w H' s'.heap /\ RelV v u /\ Q v H'
def CR (CX : CXT) (outer : List Env) (P : Program) (w : World) (H : Hp) (s : Shared) (Q : VK) (E : XK) (r : Result) (s' : Shared) : Prop :=
 match r with
 | .ok (.ret u) => CE outer P w H s Q u s'
 | .ok _ => False
 | .error e => CX outer H s E e s'
structure bz (P : Program) (w : World) (K : W.Frag) (mg : Str -> Option Value) (base : Heap) (CX : CXT) (k : Nat) (f : Addr) (fd : FuncData) (ps : List Str) (sp : Sp) : Prop where
 len : ∀ vs H Q E, sp vs H Q E -> vs.length = ps.length
 run : ∀ (A : Around) (outer : List Env) (s : Shared) (H : Hp) (args : Args) (us : List Value) (vs : List V) (Q : VK) (E : XK), Room k A -> Env0 P w K mg base A outer s H -> BindsTo s fd args (ps.zip us) -> Vals vs us -> sp vs H Q E ->
  codeAny (model P w) A (.call (.ref f) args) (CR CX outer P w H s Q E) s
theorem Env0.make {P : Program} {w : World} {K : W.Frag} {mg : Str -> Option Value} {base : Heap} {A : Around} {outer : List Env} {s : Shared} {H : Hp} (e : Env0 P w K mg base A outer s H) (C : Addr) (us : List Value) (kw : List (Str × Value)) :
 Env0 P w K mg base (A.under (.builtin "type.__call__" ⟨.ref C :: us, kw⟩)) outer s H := ⟨by first | exact e.frames | (simpa [Around.under, Code.envs, Code.isFrame, pushEnvs] using e.frames), e.mod, e.bs, e.bsz, e.funs, e.frf, e.hok, e.bare⟩
section
variable {X : Cx} {pins : List (Addr × Obj)} {σ : St} {H : Hp} {s s' : Shared}
theorem Inv.env0 (I : Inv X pins σ H s) : Env0 X.prog X.w X.K X.mg X.base X.A X.stack s H :=
 ⟨I.ok.frames, I.ok.mod, I.bs, sC I.ok.bsz I.sz, I.stack, I.stkFree, I.hok, I.bare⟩
theorem Inv.after {Q : VK} {u : Value} (I : Inv X pins σ H s) (h : CE X.stack X.prog X.w H s Q u s') : EP X pins σ Q u s' := by
 obtain ⟨v, H', os, bare, un, hok, r, q⟩ := h
 obtain ⟨hh, g, d, t, os'⟩ := s'
 obtain rfl : os' = s.os := os
 exact ⟨v, H', I.call (h' := hh) (g' := g) (d' := d) (t' := t) (ch := []) un hok bare (fun b z => absurd z (by simp)), r, q⟩
end
def Binds (K : W.Frag) (fd : FuncData) (ps : List Str) (ds : List Value) : Prop :=
 ∀ (s : Shared) (us : List Value), K.In s.heap -> (us ++ ds).length = ps.length -> BindsTo s fd ⟨us, []⟩ (ps.zip (us ++ ds))
theorem Binds.all {K : W.Frag} {fd : FuncData} {ps : List Str} (h : ∀ us : List Value, us.length = ps.length -> bindArgs fd ⟨us, []⟩ = pure (ps.zip us)) : Binds K fd ps [] := fun s us _ hl => by
 rw [YV] at hl |-
 exact .of_eq (h us hl)
section
variable {X : Cx} {CX : CXT} {k : Nat} {f C : Addr} {fd : FuncData} {ps : List Str} {sp : Sp} {dvs : List V} {ds : List Value} {E : XK} {x m : Str} {p pos apos : Pos} {e o : Expr} {es : List Expr} {ta : TE} {t : TA}
structure Mk (K : W.Frag) (C f : Addr) : Prop where
 makes : PySem.W.makesIn K C = true
 init : Za K (.ref C) "__init__" = some (some (.ref f))
 fn : PySem.W.isFn K (.ref f) = true
 kp : Yz K (.ref C) = true
end
section
variable {X : Cx} {CX : CXT} {k : Nat} {f C : Addr} {fd : FuncData} {ps ks : List Str} {sp : Sp} {E : XK} {x m : Str} {p pos apos kpos : Pos} {e o : Expr} {es : List Expr} {kws : List Keyword} {te ta : TE} {t tk : TA} {nm : Option Str}
variable {g : List Value -> List Value -> List Value} {gV : List V -> List V -> List V}
end
structure aK (N P : List Str) (sc : Scope) : Prop where
 kind : sc.kind = .function
 co : sc.isCoroutine = false
 gen : sc.isGenerator = false
 nd : N.Nodup
 pre : N.take P.length = P
 par : ∀ x ∈ P, sc.names.lookup x = some .local \/ sc.names.lookup x = some .cell
 nofree : ∀ y ∈ sc.names, y.2 ≠ .free
theorem ui {kindOf : Str -> Option NameKind} {x : Str} : ∀ {binds : List (Str × Value)} {m : Str -> Option Value}, (∀ v, (x, v) ∉ binds) -> bindL kindOf binds m x = m x
 | [], _, _ => rfl
 | (n, v) :: r, m, h => by
  unfold bindL
  rw [ui fun w hw => h w (ue _ hw)]
  split
  ·have : x ≠ n := by rintro rfl; exact h v Zt
   simp [this]
  ·rfl
theorem vg {kindOf : Str -> Option NameKind} {x : Str} : ∀ {binds : List (Str × Value)} {m : Str -> Option Value}, (∀ v, (x, v) ∉ binds) -> bindC kindOf binds m x = m x
 | [], _, _ => rfl
 | (n, v) :: r, m, h => by
  unfold bindC
  rw [vg fun w hw => h w (ue _ hw)]
  split
  ·rfl
  ·have : x ≠ n := by rintro rfl; exact h v Zt
   simp [this]
theorem uX {kindOf : Str -> Option NameKind} {x : Str} {v : Value} : ∀ {P : List Str} {vs : List Value} {i : Nat} {m : Str -> Option Value}, P.Nodup -> P[i]? = some x -> vs[i]? = some v -> kindOf x = some .local ->
 bindL kindOf (P.zip vs) m x = some v
 | [], _, _, _, _, h, _, _ => by simp at h
 | _ :: _, [], _, _, _, _, h, _ => by simp at h
 | p :: P, w :: vs, 0, m, nd, h1, h2, hk => by
  simp at h1 h2; subst h1; subst h2
  show bindL kindOf ((p, w) :: P.zip vs) m p = _
  unfold bindL
  rw [ui fun v hv => (Yt.mp nd).1 (List.of_mem_zip hv).1, if_pos hk]
  simp
 | p :: P, w :: vs, i + 1, m, nd, h1, h2, hk => by
  show bindL kindOf ((p, w) :: P.zip vs) m x = _
  unfold bindL
  exact uX (i := i) (Yt.mp nd).2 (by simpa using h1) (by simpa using h2) hk
theorem uV {kindOf : Str -> Option NameKind} {x : Str} {v : Value} : ∀ {P : List Str} {vs : List Value} {i : Nat} {m : Str -> Option Value}, P.Nodup -> P[i]? = some x -> vs[i]? = some v -> kindOf x ≠ some .local ->
 bindC kindOf (P.zip vs) m x = some v
 | [], _, _, _, _, h, _, _ => by simp at h
 | _ :: _, [], _, _, _, _, h, _ => by simp at h
 | p :: P, w :: vs, 0, m, nd, h1, h2, hk => by
  simp at h1 h2; subst h1; subst h2
  show bindC kindOf ((p, w) :: P.zip vs) m p = _
  unfold bindC
  rw [vg fun v hv => (Yt.mp nd).1 (List.of_mem_zip hv).1, if_neg hk]
  simp
 | p :: P, w :: vs, i + 1, m, nd, h1, h2, hk => by
  show bindC kindOf ((p, w) :: P.zip vs) m x = _
  unfold bindC
  exact uV (i := i) (Yt.mp nd).2 (by simpa using h1) (by simpa using h2) hk
def eF (N : List Str) (vs : List V) : St := vs.map some ++ vd (N.length - vs.length) none
def cO (CX : CXT) (P : Program) (w : World) (K : W.Frag) (mg : Str -> Option Value) (base : Heap) (N : List Str) (qual : Str) (scope : Scope) (f : Addr) (cd : Value) (A : Around) (outer : List Env) (s : Shared) (H : Hp) (E : XK) : Cx where
 prog := P
 w := w
 K := K
 mg := mg
 base := base
 A := A.deeper (envOfC qual scope s.heap.objs.size f cd)
 N := N
 s₀ := s
 H₀ := H
 env := envOfC qual scope s.heap.objs.size f cd
 outer := outer
 stack := envOfC qual scope s.heap.objs.size f cd :: outer
 ex := []
 calm := true
 fn := fun _ => true
 pn := []
 xe := fun e s' => wpAny (model P w) (A.deeper (envOfC qual scope s.heap.objs.size f cd)) (leaving (envOfC qual scope s.heap.objs.size f cd) e) (fun _ s'' => CX outer H s E e s'') (fun e' s'' => CX outer H s E e' s'') s'
theorem xW {sc : Scope} {n : Nat} {x : Str} (h : sc.names.lookup x = some .cell) : ∃ c, (cellsFrom n sc.names []).lookup x = some c := by
 have q := PySem.W.cellsFrom_some sc.names n [] (.inl h)
 exact Option.isSome_iff_exists.mp q
theorem vb {CX : CXT} {P : Program} {w : World} {K : W.Frag} {mg : Str -> Option Value} {base : Heap} {N ps : List Str} {qual : Str} {scope : Scope} {f : Addr} {cd : Value} {A : Around} {outer : List Env} {s s1 : Shared} {H : Hp} {E : XK} {us : List Value} {vs : List V}
 (S : aK N ps scope) (hd : A.handled = none) (e0 : Env0 P w K mg base A outer s H) (hl : vs.length = ps.length) (r : Vals vs us)
 (x : InCallC s s.heap.objs.size (bindL (envOfC qual scope s.heap.objs.size f cd).kindOf (ps.zip us) fun _ => none) (cellsFrom (s.heap.objs.size + 1) scope.names []) (bindC (envOfC qual scope s.heap.objs.size f cd).kindOf (ps.zip us) fun _ => none) s1) :
 Inv (cO CX P w K mg base N qual scope f cd A outer s H E) [] (eF N vs) H s1 := by
 have hpl : ps.length <= N.length := by have := congrArg Yh S.pre; rw [Zf] at this; omega
 obtain ⟨h1, tk, rfl, hk⟩ := x.done
 have noA : ∀ b : Addr, b ∉ (cO CX P w K mg base N qual scope f cd A outer s H E).ex := fun b z => absurd (show b ∈ ([] : List Addr) from z) (by simp)
 refine ⟨⟨e0.mod, S.kind, rfl, rfl, zR _, fun y z c h1 h2 => ?_, fun y hy => ?_, fun y c _ h => ?_, fun _ => hd, Around.frames_deeper e0.frames, .inr ⟨rfl, rfl⟩, fun b z => absurd z (noA b), e0.bs, e0.bsz, fun b _ _ => noA b, fun b z => absurd z (noA b), e0.funs, e0.frf⟩,
  rfl, e0.bare, Un.kept hk, ⟨_, x.toInCall.ns, fun i y v h1 h2 h3 => ?_⟩, fun y c h => ⟨_, x.cell y c h⟩, e0.hok.fresh (zR _), fun y c h => ?_, fun p hp => absurd (show p ∈ ([] : List (Addr × Obj)) from hp) (by simp), e0.hok.kept hk, ?_⟩
 ·exact name_of_addr x.apart (ZM h1) (ZM h2)
 ·have hy : scope.names.lookup y = some .cell \/ scope.names.lookup y = some .free := hy
  rcases hy with hy | hy
  ·exact xW hy
  ·exact absurd rfl (S.nofree _ (ZM hy))
 ·exact Nat.le_of_lt (x.above y c (ZM h))
 ·have hi : i < vs.length := by
   unfold eF at h2
   by_cases hi : i < vs.length
   ·exact hi
   ·rw [List.getElem?_append_right (by simpa using hi)] at h2
    rw [List.getElem?_replicate] at h2
    split at h2 <;> cases h2
  have ha : vs[i]? = some v := by
   unfold eF at h2
   rw [List.getElem?_append_left (by simpa using hi), List.getElem?_map] at h2
   cases e : vs[i]? with
   | none => rw [e] at h2; cases h2
   | some a => rw [e] at h2; cases h2; rfl
  obtain ⟨u, hu, rv⟩ := r.get ha
  have hp : ps[i]? = some y := by
   rw [<- S.pre, List.getElem?_take_of_lt (by omega)]; exact h1
  have ndP : ps.Nodup := by rw [<- S.pre]; exact S.nd.sublist (List.take_sublist _ _)
  refine ⟨u, rv, ?_⟩
  rcases S.par y (qh hp) with k | k
  ·exact .inl ⟨k, uX ndP hp hu k⟩
  ·obtain ⟨c, e⟩ := xW (n := s.heap.objs.size + 1) k
   refine .inr ⟨.inl k, c, e, ?_⟩
   have q := x.cell y c e
   rw [uV ndP hp hu (by show scope.names.lookup y ≠ _; rw [k]; decide)] at q
   exact q
 ·exact e0.hok.fresh (Nat.le_of_lt (x.above y c (ZM h)))
 ·unfold eF
  show _ = N.length
  rw [uf, zl, ZG]
  omega
theorem GB {CX : CXT} {P : Program} {w : World} {K : W.Frag} {mg : Str -> Option Value} {base : Heap} {k : Nat} {f : Addr} {name qual : Str} {params : Arguments} {body : List Stmt} {scope : Scope} {dV kV doc pm cdv ct oc : Value} {an od : Option Addr}
 {osl : Array (Option Value)} {N ps : List Str} {sp : Sp} (lk : K.lookup f = some ⟨oc, od, .func (ZE name qual params body scope dV kV doc pm an cdv ct), osl⟩) (hcd : YJ K cdv qual = true) (S : aK N ps scope)
 (len : ∀ vs H Q E, sp vs H Q E -> vs.length = ps.length)
 (hbody : ∀ (A : Around) (outer : List Env) (s : Shared) (H : Hp) (vs : List V) (Q : VK) (E : XK), Room k (A.deeper (envOfC qual scope s.heap.objs.size f cdv)) -> sp vs H Q E ->
  ∃ t, PSs (cO CX P w K mg base N qual scope f cdv A outer s H E) body t /\ t { nx := fun _ H' => Q .non H', rt := Q } (eF N vs) H) :
 bz P w K mg base CX (k + 1) f (ZE name qual params body scope dV kV doc pm an cdv ct) ps sp := by
 refine ⟨len, fun A outer s H args us vs Q E hr e0 hb r hsp => ?_⟩
 have hl := len _ _ _ _ hsp
 have KX : K.In s.heap := e0.mod.kin.keeps fun b o e => (e0.bs b o e).1
 have lim : s.heap.NoLimit := e0.mod.nolimit.keeps fun b o e => (e0.bs b o e).1
 have hkind : ∀ y ∈ ps.zip us, scope.names.lookup y.1 = some .local \/ (scope.names.lookup y.1 = some .cell /\ ((cellsFrom (s.heap.objs.size + 1) scope.names []).lookup y.1).isSome = true) := fun ⟨n, v⟩ hy => by
  rcases S.par n (List.of_mem_zip hy).1 with q | q
  ·exact .inl q
  ·exact .inr ⟨q, PySem.W.cellsFrom_some _ _ _ (.inl q)⟩
 refine codeAny_call_function hr.depth (KX _ _ lk) rfl S.co S.gen rfl (PySem.W.codeRec_of KX hcd) (hb _ _ _ _ ?_)
 refine wpAny_newFunctionEnv_cells S.kind hkind fun env he s1 x => ?_
 subst he
 refine ⟨lim.keeps x.toInCall.keep, codeAny_func ?_⟩
 obtain ⟨t, ht, hq⟩ := hbody A outer s H vs Q E (hr.deeper _) hsp
 have I : Inv (cO CX P w K mg base N qual scope f cdv A outer s H E) [] (eF N vs) H s1 := vb S hr.hd e0 hl r x
 refine Zr (ht [] s1 (eF N vs) H _ I hq) (fun fl s' hs => ?_) fun e s' hs => hs
 have fin : ∀ {σ' : St} {H' : Hp} {v : V} {u : Value}, Inv (cO CX P w K mg base N qual scope f cdv A outer s H E) [] σ' H' s' -> RelV v u -> Q v H' -> CE outer P w H s Q u s' :=
  fun {σ' H' v u} J rv q => ⟨v, H', J.os, J.bare, J.base, J.hok, rv, q⟩
 cases fl with
 | ret u =>
  obtain ⟨v, σ', H', J, rv, q⟩ := hs
  exact fin J rv q
 | next =>
  obtain ⟨σ', H', J, q⟩ := hs
  exact fin (v := V.non) (u := Zn) J rfl q
 | brk =>
  obtain ⟨_, _, _, q⟩ := hs
  exact ZV q
 | cont =>
  obtain ⟨_, _, _, q⟩ := hs
  exact ZV q
end L2
namespace L2
open PySem PySem.Spec PyProof.Rows
section
variable {X : Cx} {x : Str} {p pos : Pos} {e : Expr} {es : List Expr} {t : TA} {id T : String} {r : List V -> Hp -> VK -> Prop}
def tCB (r : List V -> Hp -> VK -> Prop) (t : TA) : TE := fun σ H Q => t σ H fun vs H1 => r vs H1 Q
theorem aB (hc : CallR X (.builtin id) r) (hg : Gl X x) (hm : X.mg x = none) (hv : Zq x = some (.builtin id)) (ha : PA X (e :: es) t) (hn : x ≠ "__name__" := by decide) (hdb : (x == ("__debug__" : Str)) = false := by decide)
 (he : starEach (e :: es) X.env = (false, eval e X.env) :: starEach es X.env := by rfl) (hpl : (backTo pos (starEach es X.env)).any (·.1) = false := by rfl) : PE X (.Call (.Name x p) (e :: es) [] pos) (tCB r t) := by
 intro pins s σ H Q I h
 refine ZF (jK I hg hm hv ?_ hn hdb)
 exact PyProof.Rows.callWith_builtin1 (thn (ha pos pins s σ H _ I h) fun us s1 ⟨vs, H1, I1, r1, q1⟩ => hc pins s1 σ H1 vs us Q I1 r1 q1) he hpl
theorem dB (hc : CallR X (.type T) r) (hg : Gl X x) (hm : X.mg x = none) (hv : Zq x = some (.type T)) (ha : PA X (e :: es) t) (hn : x ≠ "__name__" := by decide) (hdb : (x == ("__debug__" : Str)) = false := by decide)
 (he : starEach (e :: es) X.env = (false, eval e X.env) :: starEach es X.env := by rfl) (hpl : (backTo pos (starEach es X.env)).any (·.1) = false := by rfl) : PE X (.Call (.Name x p) (e :: es) [] pos) (tCB r t) := by
 intro pins s σ H Q I h
 refine ZF (jK I hg hm hv ?_ hn hdb)
 exact ZN (thn (ha pos pins s σ H _ I h) fun us s1 ⟨vs, H1, I1, r1, q1⟩ => hc pins s1 σ H1 vs us Q I1 r1 q1) he hpl
end
end L2
namespace HT
open PySem PyProof.Rows
section
open PySem.SeqAt
open PySem.AutoSeq1 (wpAny_loadPart')
open PySem.MeetsSeq PySem.MeetsSeq2 PySem.MeetsSeq3
end
section
variable {prog : Program} {w : World} {A : Around} {E : Value -> Shared -> Prop} {s : Shared}
theorem cat_tup {t b : Addr} {vs ws : List Value} {Q : Value -> Shared -> Prop} (ht : IsTup s.heap t vs.toArray) (hb : IsTup s.heap b ws.toArray) (hv : vs ≠ [])
 (h1 : ws = [] -> Q (.ref t) s) (h2 : ws ≠ [] -> Q (.ref s.heap.objs.size) { s with heap := s.heap.push { cls := .type "tuple", data := .seq (vs ++ ws).toArray } })
 (hsz : vs.length + ws.length <= sizeLine) : wpAny (model prog w) A (binaryOp .Add (.ref t) (.ref b)) Q E s := by
 obtain ⟨⟨cls, dd, data, sl⟩, ho, hc, n, hd⟩ := id ht
 obtain ⟨⟨cls2, dd2, data2, sl2⟩, ho2, hc2, n2, hd2⟩ := id hb
 simp only at hc hd hc2 hd2
 subst hc hd hc2 hd2
 have e : vs.toArray ++ ws.toArray = (vs ++ ws).toArray := by simp
 by_cases hw : ws = []
 ·exact concat_meets ⟨_, ho, rfl⟩ ⟨_, ho2, rfl⟩ noFill_tuple_add seq_tuple_add PySem.F.slot_tuple_add Xz (YB _ _)
   (tuple_addW1 t b vs.toArray ws.toArray n n2 dd dd2 sl sl2 (by simpa using hv) (by simp [hw])) ⟨ho, ho2, h1 hw⟩
 ·refine concat_meets ⟨_, ho, rfl⟩ ⟨_, ho2, rfl⟩ noFill_tuple_add seq_tuple_add PySem.F.slot_tuple_add Xz (YB _ _)
   (tuple_addW2 t b vs.toArray ws.toArray n n2 dd dd2 sl sl2 (by simpa using hv) (by simpa using hw) (by rw [zj, zj]; exact hsz)) ⟨ho, ho2, ?_⟩
  rw [e]
  exact h2 hw
def sIx (n d : Nat) : Option Int -> Nat
 | none => d
 | some v => if v < 0 then (v + (n : Int)).toNat else min v.toNat n
theorem sIx_none (n d : Nat) : sIx n d none = d := rfl
theorem sIx_nat (n d k : Nat) : sIx n d (some (k : Int)) = min k n := by
 show (if (k : Int) < 0 then ((k : Int) + (n : Int)).toNat else min (k : Int).toNat n) = min k n
 rw [if_neg (by omega), Zi]
theorem sIx_le (n d : Nat) (hd : d <= n) (o : Option Int) : sIx n d o <= n := by
 cases o with
 | none => exact hd
 | some v =>
  show (if v < 0 then (v + (n : Int)).toNat else min v.toNat n) <= n
  by_cases hv : v < 0
  ·rw [if_pos hv]; omega
  ·rw [if_neg hv]; exact Nat.min_le_right _ _
end
end HT
namespace L2
open PySem PySem.Spec PyProof.Rows
abbrev TO := St -> Hp -> (Option Int -> Hp -> Prop) -> Prop
def PO (X : Cx) (e : Option Expr) (t : TO) : Prop :=
 ∀ (pins : List (Addr × Obj)) (s : Shared) (σ : St) (H : Hp) (Q : Option Int -> Hp -> Prop), Inv X pins σ H s -> t σ H Q ->
  wpAny (model X.prog X.w) X.A (evalPart e X.env) (fun u s' => ∃ o H', Inv X pins σ H' s' /\ IsPart u o /\ Q o H') X.xe s
def zr : TO := fun _ H Q => Q none H
def Es (t : TE) : TO := fun σ H Q => t σ H fun x H1 => ∃ i, x = .int i /\ Q (some i) H1
theorem mT {ns : List Int} : ∀ {us : List Value}, Vals (ns.map V.int) us -> IntsAre us ns := by
 induction ns with
 | nil => intro us r; rw [List.map_nil] at r; cases r; exact .nil
 | cons n ns ih =>
  intro us r
  rw [ud] at r
  cases r with
  | cons r1 r2 =>
   obtain ⟨t, e⟩ := r1
   subst e
   exact .cons n t (ih r2)
section
variable {X : Cx} {e : Expr} {te : TE} {lo hi : Option Expr} {tl th : TO} {pos p2 : Pos}
theorem dN : PO X none zr := by
 intro pins s σ H Q I h
 rw [evalPart_none]
 exact wG ⟨none, H, I, .none, h⟩
theorem dP (h : PE X e te) : PO X (some e) (Es te) := by
 intro pins s σ H Q I hw
 rw [evalPart_some]
 refine thn (h pins s σ H _ I hw) fun u s1 ⟨x, H1, I1, r1, q1⟩ => ?_
 obtain ⟨i, rfl, q⟩ := q1
 obtain ⟨t, rfl⟩ := r1
 exact ⟨some i, H1, I1, .int i t, q⟩
def SlR (X : Cx) (r : V -> Option Int -> Option Int -> Hp -> VK -> Prop) : Prop :=
 ∀ (pins : List (Addr × Obj)) (s : Shared) (σ : St) (H : Hp) (x : V) (v vl vu : Value) (lo hi : Option Int) (sl : Addr) (Q : VK), Inv X pins σ H s -> RelV x v -> s.heap.IsSliceOf sl vl vu .none -> IsPart vl lo -> IsPart vu hi -> r x lo hi H Q ->
  ∃ T id, typeLookup (.type T) "__getitem__" = pure (some (.builtin id)) /\ s.TypeIs v T /\ wpAny (model X.prog X.w) X.A (getItem v (.ref sl)) (EP X pins σ Q) X.xe s
def tSl (r : V -> Option Int -> Option Int -> Hp -> VK -> Prop) (te : TE) (tl th : TO) : TE := fun σ H Q => te σ H fun x H1 => tl σ H1 fun l H2 => th σ H2 fun u H3 => r x l u H3 Q
theorem cY {r : V -> Option Int -> Option Int -> Hp -> VK -> Prop} (hr : SlR X r) (he : PE X e te) (hl : PO X lo tl) (hu : PO X hi th) : PE X (.Subscript e (.Slice lo hi none p2) pos) (tSl r te tl th) := by
 intro pins s σ H Q I h
 refine Subscript_ (thn (he pins s σ H _ I h) fun v s1 ⟨x, H1, I1, r1, q1⟩ => ?_)
 refine wpAny_Slice (thn (hl pins s1 σ H1 _ I1 q1) fun vl s2 ⟨l, H2, I2, pl, q2⟩ => thn (hu pins s2 σ H2 _ I2 q2) fun vu s3 ⟨u, H3, I3, pu, q3⟩ => ?_)
 rw [evalPart_none]
 refine wG ?_
 have I4 : Inv X pins σ H3 { s3 with heap := s3.heap.push { cls := .type "slice", data := .fields #[vl, vu, .none] } } := I3.kept (t' := s3.toks) fun b ob q => Heap.get?_push_of_some _ q
 obtain ⟨T, id, hT, ht, hg⟩ := hr pins { s3 with heap := s3.heap.push { cls := .type "slice", data := .fields #[vl, vu, .none] } } σ H3 x v vl vu l u s3.heap.objs.size Q I4 r1 (Heap.IsSliceOf.new ..) pl pu q3
 show wpAny (model X.prog X.w) X.A (subscriptTail e (.Slice lo hi none p2) v (.ref s3.heap.objs.size)) (EP X pins σ Q) X.xe { s3 with heap := s3.heap.push { cls := .type "slice", data := .fields #[vl, vu, .none] } }
 exact tail_any (ops := [.ref s3.heap.objs.size, v]) ht hT hg (by with_unfolding_all rfl)
def xY (xs : List V) (lo hi : Option Int) : List V := (xs.drop (HT.sIx xs.length 0 lo)).take (HT.sIx xs.length xs.length hi - HT.sIx xs.length 0 lo)
theorem wR (xs : List V) (lo hi : Option Int) : (xY xs lo hi).length <= xs.length := by
 unfold xY
 rw [Zf, YE]
 omega
def G0 (K : W.Frag) : R2 := fun x y H Q => ∃ a b xs ys, x = .ref a /\ y = .ref b /\ SqT K H a xs /\ SqT K H b ys /\ xs ≠ [] /\ xs.length + ys.length <= sizeLine /\
 (ys = [] -> Q (.ref a) H) /\ (ys ≠ [] -> ∀ p, H p = none -> Q (.ref p) (upd H p (.tup (xs ++ ys))))
theorem Vals.nil_iff {xs : List V} {us : List Value} (r : Vals xs us) : us = [] ↔ xs = [] := by
 cases r with
 | nil => simp
 | cons _ _ => simp
theorem DY : OpR X (binaryOp .Add) (G0 X.K) := by
 intro pins s σ H x y v u Q I rx ry h
 obtain ⟨a, b, xs, ys, rfl, rfl, ha, hb, hx, hz, q1, q2⟩ := h
 cases rx
 cases ry
 obtain ⟨its, r1, p1, _⟩ := I.tuple ha
 obtain ⟨its2, r2, p2, _⟩ := I.tuple hb
 refine HT.cat_tup p1 p2 (fun z => hx (r1.nil_iff.mp z)) (fun z => ⟨.ref a, H, I, rfl, q1 (r2.nil_iff.mp z)⟩) (fun z => ?_) (by rw [<- r1.length, <- r2.length]; exact hz)
 refine ⟨.ref s.heap.objs.size, _, I.laid (t' := s.toks) (o := .tup (xs ++ ys)) (fun b ob q => Heap.get?_push_of_some _ q) (zR _) ?_, rfl, q2 (fun w => z (r2.nil_iff.mpr w)) _ (I.hok.fresh (zR _))⟩
 exact ⟨by rw [uf]; exact hz, _, r1.append r2, IsTup.new _ _⟩
end
end L2
namespace L2
open PySem PySem.Spec PyProof.Rows
def ixN (n : Nat) (i : Int) : Option Nat := if 0 <= i then (if i < n then some i.toNat else none) else if -(n : Int) <= i then some (i + n).toNat else none
def atI {α : Type} (xs : List α) (i : Int) : Option α := (ixN xs.length i).bind fun j => xs[j]?
theorem zw {n : Nat} {i : Int} {j : Nat} (h : ixN n i = some j) : seqIndex? i n = some j /\ j < n /\ -(n : Int) <= i /\ i < n := by
 unfold ixN at h
 by_cases h0 : 0 <= i
 ·rw [if_pos h0] at h
  by_cases h1 : i < n
  ·rw [if_pos h1] at h
   have e : i.toNat = j := Zm h
   exact ⟨by rw [seqIndex_of h0 h1, e], by omega, by omega, h1⟩
  ·rw [if_neg h1] at h; cases h
 ·rw [if_neg h0] at h
  by_cases h1 : -(n : Int) <= i
  ·rw [if_pos h1] at h
   have e : (i + n).toNat = j := Zm h
   exact ⟨by rw [seqIndex_neg (by omega) h1, e], by omega, h1, by omega⟩
  ·rw [if_neg h1] at h; cases h
theorem vG {α : Type} {xs : List α} {i : Int} {v : α} (h : atI xs i = some v) : ∃ j, seqIndex? i xs.length = some j /\ xs[j]? = some v /\ j < xs.length /\ -(xs.length : Int) <= i /\ i < xs.length := by
 unfold atI at h
 cases e : ixN xs.length i with
 | none => rw [e] at h; cases h
 | some j =>
  rw [e] at h
  obtain ⟨h1, h2, h3, h4⟩ := zw e
  exact ⟨j, h1, h, h2, h3, h4⟩
theorem cJ {α : Type} {xs : List α} {j : Nat} {v : α} (h : xs[j]? = some v) : atI xs (j : Int) = some v := by
 have hj : j < xs.length := (List.getElem?_eq_some_iff.mp h).1
 have e : ixN xs.length (j : Int) = some j := by
  unfold ixN
  rw [if_pos (by omega), if_pos (by omega)]; simp
 unfold atI; rw [e]; exact h
def zP (b : Expr) : Prop := ∀ o i, subscripted b false o i = operate [o, i] (getItem o i)
def IxR (X : Cx) (r : R2) : Prop :=
 ∀ (value slice : Expr) (pins : List (Addr × Obj)) (s : Shared) (σ : St) (H : Hp) (x y : V) (v u : Value) (Q : VK), Inv X pins σ H s -> RelV x v -> RelV y u -> r x y H Q ->
  subscripted slice false v u = operate [v, u] (getItem v u) -> wpAny (model X.prog X.w) X.A (subscriptTail value slice v u) (EP X pins σ Q) X.xe s
def MtR (X : Cx) (id : String) (r : V -> List V -> Hp -> VK -> Prop) : Prop :=
 ∀ (pins : List (Addr × Obj)) (s : Shared) (σ : St) (H : Hp) (x : V) (xs : List V) (v : Value) (us : List Value) (Q : VK), Inv X pins σ H s -> RelV x v -> Vals xs us -> r x xs H Q ->
  wpAny (model X.prog X.w) X.A (call (.builtin id) (v :: us)) (EP X pins σ Q) X.xe s
section
variable {X : Cx} {a b : Expr} {ta tb : TE} {pos : Pos}
theorem IxR.or {r r' : R2} (h : IxR X r) (h' : IxR X r') : IxR X (fun x y H Q => r x y H Q \/ r' x y H Q) := by
 intro value slice pins s σ H x y v u Q I rx ry q hs
 rcases q with q | q
 ·exact h value slice pins s σ H x y v u Q I rx ry q hs
 ·exact h' value slice pins s σ H x y v u Q I rx ry q hs
theorem aH {r : R2} (hr : IxR X r) (ha : PE X a ta) (hb : PE X b tb) (hs : zP b) : PE X (.Subscript a b pos) (tOp r ta tb) := by
 intro pins s σ H Q I h
 exact Subscript_ (FJ ha hb I h fun v u s2 x y H2 I2 rx ry q => hr a b pins s2 σ H2 x y v u Q I2 rx ry q (hs _ _))
def GK (K : W.Frag) : R2 := fun x y H Q => ∃ p xs i v, x = .ref p /\ y = .int i /\ SqL K H p xs /\ atI xs i = some v /\ Q v H
def GO (K : W.Frag) : R2 := fun x y H Q => ∃ p xs i v, x = .ref p /\ y = .int i /\ SqT K H p xs /\ atI xs i = some v /\ Q v H
def Gu : R2 := fun x y H Q => ∃ z i c, x = .str z /\ y = .int i /\ z.length <= sizeLine /\ atI z.cps.toList i = some c /\ Q (.str ⟨#[c]⟩) H
theorem z_ : IxR X (GK X.K) := by
 intro value slice pins s σ H x y v u Q I rx ry h hs
 obtain ⟨p, xs, i, z, rfl, rfl, hq, he, q⟩ := h
 cases rx
 obtain ⟨t, rfl⟩ := ry
 obtain ⟨its, r, pl, hz⟩ := I.list hq
 obtain ⟨j, h1, h2, h3, h4, h5⟩ := vG he
 obtain ⟨w, ew, rw'⟩ := r.get h2
 have hl := r.length
 have hn := pT
 have fin : EP X pins σ Q w s := ⟨z, H, I, rw', q⟩
 by_cases h0 : 0 <= i
 ·have hj : i.toNat = j := by
   rw [seqIndex_of h0 h5] at h1
   exact Zm h1
  exact item_listR pl.isList h0 (by omega) (by rw [hj]; simpa using ew) fin hs
 ·have hj : (i + (its.toArray.size : Int)).toNat = j := by
   rw [seqIndex_neg (by omega) h4] at h1
   rw [zj, <- hl]
   exact Zm h1
  exact subscriptTail_builtinR (x := w) pl.isList.typeIs slot_list_getitem.lookup
   (wpAny_getItem_list_neg (Q := fun r s' => r = w /\ EP X pins σ Q r s') pl.isList (by omega) (by rw [zj] <;> omega) (by omega) (by rw [hj]; simpa using ew) ⟨rfl, fin⟩) hs
theorem EX : IxR X (GO X.K) := by
 intro value slice pins s σ H x y v u Q I rx ry h hs
 obtain ⟨p, xs, i, z, rfl, rfl, hq, he, q⟩ := h
 cases rx
 obtain ⟨t, rfl⟩ := ry
 obtain ⟨its, r, pl, hz⟩ := I.tuple hq
 obtain ⟨j, h1, h2, h3, h4, h5⟩ := vG he
 obtain ⟨w, ew, rw'⟩ := r.get h2
 have hl := r.length
 have hn := pT
 have fin : EP X pins σ Q w s := ⟨z, H, I, rw', q⟩
 exact subscriptTail_builtinR (x := w) pl.typeIs slot_tuple_getitem.lookup
  (getItem_tuple (j := j) (Q := fun r s' => r = w /\ EP X pins σ Q r s') pl (by omega) (by omega) (by rw [zj, <- hl]; exact h1) (by simpa using ew) ⟨rfl, fin⟩) hs
theorem F4 : IxR X Gu := by
 intro value slice pins s σ H x y v u Q I rx ry h hs
 obtain ⟨z, i, c, rfl, rfl, hz, he, q⟩ := h
 obtain ⟨t, rfl⟩ := rx
 obtain ⟨t', rfl⟩ := ry
 obtain ⟨j, h1, h2, h3, h4, h5⟩ := vG he
 have hl : z.cps.toList.length = z.length := by simp [YK]
 rw [hl] at h1 h4 h5
 have hn := pT
 exact tail_any (typeIs_str s z t) slot_str_getitem.lookup (getItem_str (c := c) (by
  have e1 : decide (i < -(2 ^ 63 : Int)) = false := decide_eq_false (by omega)
  have e2 : decide (i ≥ 2 ^ 63) = false := decide_eq_false (by omega)
  rw [e1, e2, Bool.or_false]) (by rw [h1]; simpa using h2) ⟨.str ⟨#[c]⟩, H, I.tok _, ⟨_, rfl⟩, q⟩) hs
def rIx (K : W.Frag) : R2 := fun x y H Q => GK K x y H Q \/ GO K x y H Q \/ Gu x y H Q
theorem Fl : IxR X (rIx X.K) := z_.or (EX.or F4)
theorem yu (its : List Value) (n j : Nat) (u : Value) : Zc (·.setIfInBounds j u) { cls := .type "list", data := .seq its.toArray n } = { cls := .type "list", data := .seq (its.set j u).toArray n } := by
 simp [Zc]
theorem Inv.lst {pins : List (Addr × Obj)} {σ : St} {H : Hp} {s : Shared} {p : Addr} {xs : List V} (I : Inv X pins σ H s) (h : H p = some (.lst xs)) :
 ∃ (its : List Value) (n : Nat), Vals xs its /\ s.heap.get? p = some { cls := .type "list", data := .seq its.toArray n } /\ xs.length <= sizeLine := by
 obtain ⟨z, its, n, r, e⟩ := I.hok p _ h
 exact ⟨its, n, r, e, z⟩
theorem Inv.lstUpd {pins : List (Addr × Obj)} {σ : St} {H : Hp} {s : Shared} {p : Addr} {xs ys : List V} {its its' : List Value} {n n' : Nat} {f : Obj -> Obj} (I : Inv X pins σ H s) (h : H p = some (.lst xs))
 (ho : s.heap.get? p = some { cls := .type "list", data := .seq its.toArray n }) (hf : f { cls := .type "list", data := .seq its.toArray n } = { cls := .type "list", data := .seq its'.toArray n' }) (r : Vals ys its') (hz : ys.length <= sizeLine) (t : Nat) :
 Inv X pins σ (upd H p (.lst ys)) { s with heap := s.heap.update p f, toks := t } := by
 have e : (s.heap.update p f).get? p = some { cls := .type "list", data := .seq its'.toArray n' } := by
  rw [Heap.get?_update_self f ho (by rw [hf] <;> rfl), hf]
 refine I.write (x := p) (e := p) (by rw [h]; trivial) (.inl rfl) (fun b u hb q => (Heap.get?_update_other _ _ (Ne.symm hb)).trans q) ⟨_, e⟩ ?_
 exact ⟨hz, its', n', r, e⟩
def EK : V -> V -> V -> Hp -> (Hp -> Prop) -> Prop := fun o i v H Q => ∃ p xs k j, o = .ref p /\ i = .int k /\ H p = some (.lst xs) /\ ixN xs.length k = some j /\ Q (upd H p (.lst (xs.set j v)))
theorem ic : He X EK := by
 intro pins s σ H o i v ov iv u Q I ro ri rv h
 obtain ⟨p, xs, k, j, rfl, rfl, hp, hj, q⟩ := h
 cases ro
 obtain ⟨t, rfl⟩ := ri
 obtain ⟨its, n, r, ho, hz⟩ := I.lst hp
 obtain ⟨h1, h2, h3, h4⟩ := zw hj
 have hl := r.length
 have hn := pT
 have I' : Inv X pins σ (upd H p (.lst (xs.set j v))) { s with heap := s.heap.update p (Zc (·.setIfInBounds j u)) } :=
  I.lstUpd hp ho (yu its n j u) (r.set rv j) (by rw [List.length_set]; exact hz) s.toks
 by_cases h0 : 0 <= k
 ·have hk : k.toNat = j := by
   rw [seqIndex_of h0 h4] at h1
   exact Zm h1
  exact PySem.W.ki_setAt ho h0 (by omega) (by rw [zj, <- hl]; exact h4) (by rw [hk]; exact ⟨_, I', q⟩)
 ·have hk : (k + (its.toArray.size : Int)).toNat = j := by
   rw [seqIndex_neg (by omega) h3] at h1
   rw [zj, <- hl]
   exact Zm h1
  exact PySem.W.ki_setBack ho (by omega) (by rw [zj, <- hl]; exact h3) (by omega) (by rw [hk]; exact ⟨_, I', q⟩)
theorem oS (lo hi : Option Int) (n : Nat) : (Yr lo hi none n).1 = ((HT.sIx n 0 lo : Nat) : Int) /\ (Yr lo hi none n).2.1 = ((HT.sIx n n hi : Nat) : Int) /\ (Yr lo hi none n).2.2 = 1 := by
 refine ⟨?_, ?_, rfl⟩
 ·cases lo with
  | none => simp [Yr, HT.sIx]
  | some i =>
   simp only [Yr, HT.sIx, Option.getD_none, show (1 : Int) > 0 by decide, if_true]
   by_cases h : i < 0
   ·simp only [h, if_true] <;> omega
   ·simp only [h, if_false] <;> omega
 ·cases hi with
  | none => simp [Yr, HT.sIx]
  | some i =>
   simp only [Yr, HT.sIx, Option.getD_none, show (1 : Int) > 0 by decide, if_true]
   by_cases h : i < 0
   ·simp only [h, if_true] <;> omega
   ·simp only [h, if_false] <;> omega
theorem tH (its : List Value) (lo hi : Option Int) : slicePick its.toArray lo hi none = ((its.drop (HT.sIx its.length 0 lo)).take (HT.sIx its.length its.length hi - HT.sIx its.length 0 lo)).toArray := by
 obtain ⟨h1, h2, h3⟩ := oS lo hi its.toArray.size
 unfold slicePick
 rw [h1, h2, h3]
 simp only [sliceRange_one, pick_run, zj] <;> rfl
def G6 (K : W.Frag) : V -> Option Int -> Option Int -> Hp -> VK -> Prop := fun x lo hi H Q => ∃ a xs, x = .ref a /\ SqL K H a xs /\ ∀ p, H p = none -> Q (.ref p) (upd H p (.lst (xY xs lo hi)))
theorem Dv : SlR X (G6 X.K) := by
 intro pins s σ H x v vl vu lo hi sl Q I rx hs pl pu h
 obtain ⟨a, xs, rfl, hx, q⟩ := h
 cases rx
 obtain ⟨its, r, ht, hz⟩ := I.list hx
 have hlen := r.length
 refine ⟨"list", _, slot_list_getitem.lookup, ht.isList.typeIs, ?_⟩
 refine wpAny_getItem_list_slice ht.isList hs pl pu .none (by simp) ?_ (by rw [zj] <;> omega)
 rw [tH, <- hlen]
 refine ⟨.ref s.heap.objs.size, _, I.laid (t' := s.toks) (o := .lst (xY xs lo hi)) (fun b ob q => Heap.get?_push_of_some _ q) (zR _) ?_, rfl, q _ (I.hok.fresh (zR _))⟩
 exact ⟨sC (wR xs lo hi) hz, _, 0, (r.drop (HT.sIx xs.length 0 lo)).take (HT.sIx xs.length xs.length hi - HT.sIx xs.length 0 lo), Heap.get?_push_size _ rfl⟩
def cj : V -> Bool
 | .non => true
 | .bl _ => true
 | .int _ => true
 | .str _ => true
 | _ => false
def eqV : V -> V -> Bool
 | .non, .non => true
 | .bl a, .bl b => a == b
 | .bl a, .int b => (if a then 1 else 0) == b
 | .int a, .bl b => a == (if b then 1 else 0)
 | .int a, .int b => a == b
 | .str a, .str b => a == b
 | _, _ => false
theorem Bz {A : Around} {s : Shared} {y x : V} {u v : Value} (ry : RelV y u) (rx : RelV x v) (fy : cj y = true) (fx : cj x = true) : SeqAt.EqAt A s u v (eqV y x) := by
 cases y with
 | non =>
  cases ry
  cases x with
  | non => cases rx; exact SeqAt.EqAt.same _
  | bl b => cases rx; exact SeqAt.EqAt.none_bool b
  | int b => obtain ⟨t, rfl⟩ := rx; exact SeqAt.EqAt.none_int b t
  | str b => obtain ⟨t, rfl⟩ := rx; exact SeqAt.EqAt.none_str b t
  | _ => exact absurd (show false = true from fx) xC
 | bl a =>
  cases ry
  cases x with
  | non => cases rx; exact SeqAt.EqAt.bool_none a
  | bl b => cases rx; exact SeqAt.EqAt.bool_bool a b
  | int b => obtain ⟨t, rfl⟩ := rx; exact SeqAt.EqAt.bool_int a b t
  | str b => obtain ⟨t, rfl⟩ := rx; exact SeqAt.EqAt.bool_str a b t
  | _ => exact absurd (show false = true from fx) xC
 | int a =>
  obtain ⟨t', rfl⟩ := ry
  cases x with
  | non => cases rx; exact SeqAt.EqAt.int_none a t'
  | bl b => cases rx; exact SeqAt.EqAt.int_bool a t' b
  | int b => obtain ⟨t, rfl⟩ := rx; exact SeqAt.EqAt.int_int a t' b t
  | str b => obtain ⟨t, rfl⟩ := rx; exact SeqAt.EqAt.int_str a t' b t
  | _ => exact absurd (show false = true from fx) xC
 | str a =>
  obtain ⟨t', rfl⟩ := ry
  cases x with
  | non => cases rx; exact SeqAt.EqAt.str_none a t'
  | bl b => cases rx; exact SeqAt.EqAt.str_bool a t' b
  | int b => obtain ⟨t, rfl⟩ := rx; exact SeqAt.EqAt.str_int a t' b t
  | str b => obtain ⟨t, rfl⟩ := rx; exact SeqAt.EqAt.str_str a t' b t
  | _ => exact absurd (show false = true from fx) xC
 | _ => exact absurd (show false = true from fy) xC
theorem CallR.or {f : Value} {r r' : List V -> Hp -> VK -> Prop} (h : CallR X f r) (h' : CallR X f r') : CallR X f (fun xs H Q => r xs H Q \/ r' xs H Q) := by
 intro pins s σ H xs us Q I rs q
 rcases q with q | q
 ·exact h pins s σ H xs us Q I rs q
 ·exact h' pins s σ H xs us Q I rs q
theorem wC : CallR X (.type "list") (fun xs H Q => ∃ p ys, xs = [.ref p] /\ (SqL X.K H p ys \/ SqT X.K H p ys) /\ ∀ l, H l = none -> Q (.ref l) (upd H l (.lst ys))) := by
 intro pins s σ H xs us Q I r h
 obtain ⟨p, ys, rfl, hq, q⟩ := h
 obtain ⟨u, rfl, rx⟩ := iQ r
 cases rx
 have fin : ∀ (its : List Value), Vals ys its -> ys.length <= sizeLine -> ∀ (h' : Heap) (c' : Nat), (∀ b o', s.heap.get? b = some o' -> h'.get? b = some o') ->
  h'.get? s.heap.objs.size = some { cls := .type "list", dict := none, data := .seq its.toArray c', slots := #[] } -> EP X pins σ Q (.ref s.heap.objs.size) { s with heap := h' } := fun its r' hz h' c' kp e =>
  ⟨.ref s.heap.objs.size, _, I.laid (t' := s.toks) kp (zR _) (show ObjOk X.prog X.w _ h' _ (.lst ys) from ⟨hz, its, c', r', e⟩), rfl, q _ (I.hok.fresh (zR _))⟩
 rcases hq with hq | hq
 ·obtain ⟨its, r', pl, hz⟩ := I.list hq
  have hlen := r'.length
  obtain ⟨o, ho, hc, n, hd⟩ := pl.isList
  exact call_list_seq p (.inl rfl) ho hc hd (fun h' c' kp e => fin its r' hz h' c' kp e) (by simp only [zj] <;> omega)
 ·obtain ⟨its, r', pl, hz⟩ := I.tuple hq
  have hlen := r'.length
  obtain ⟨o, ho, hc, n, hd⟩ := pl
  exact call_list_seq p (.inr rfl) ho hc hd (fun h' c' kp e => fin its r' hz h' c' kp e) (by simp only [zj] <;> omega)
theorem tM : CallR X (.type "tuple") (fun xs H Q => ∃ p ys, xs = [.ref p] /\ ((SqL X.K H p ys /\ ∀ l, H l = none -> Q (.ref l) (upd H l (.tup ys))) \/ (SqT X.K H p ys /\ Q (.ref p) H))) := by
 intro pins s σ H xs us Q I r h
 obtain ⟨p, ys, rfl, h⟩ := h
 obtain ⟨u, rfl, rx⟩ := iQ r
 cases rx
 rcases h with ⟨hq, q⟩ | ⟨hq, q⟩
 ·obtain ⟨its, r', pl, hz⟩ := I.list hq
  have hlen := r'.length
  refine call_tuple_list pl.isList (fun h' kp => ?_) (by simp only [zj] <;> omega)
  have I1 : Inv X pins σ H { s with heap := h' } := I.kept (t' := s.toks) kp
  have I2 : Inv X pins σ (upd H h'.objs.size (.tup ys)) { s with heap := h'.push { cls := .type "tuple", data := .seq its.toArray } } :=
   I1.laid (t' := s.toks) (fun b o e => Heap.get?_push_of_some _ e) (zR _) (show ObjOk X.prog X.w _ _ _ (.tup ys) from ⟨hz, its, r', IsTup.new _ _⟩)
  exact ⟨.ref h'.objs.size, _, I2, rfl, q _ (I1.hok.fresh (zR _))⟩
 ·obtain ⟨its, r', pl, hz⟩ := I.tuple hq
  exact call_tuple_same pl ⟨.ref p, H, I, rfl, q⟩
def tyV (K : W.Frag) (T : String) (x : V) (H : Hp) : Prop := match x with
 | .str _ => T = "str"
 | .int _ => T = "int"
 | .ref p => (T = "list" /\ ∃ xs, SqL K H p xs) \/ (T = "tuple" /\ ∃ o, K.lookup p = some o /\ o.cls = .type "tuple" /\ o.dict = none) \/
  (T = "dict" /\ ((∃ kvs, H p = some (.dK kvs)) \/ ∃ kvs, H p = some (.dT kvs))) \/ (T = "set" /\ ∃ S n, H p = some (.set S n))
 | _ => False
theorem Bm {pins : List (Addr × Obj)} {σ : St} {H : Hp} {s : Shared} {T : String} {x : V} {v : Value} (I : Inv X pins σ H s) (r : RelV x v) (ty : tyV X.K T x H) :
 s.TypeIs v T /\ ∀ a, v = .ref a -> ∃ ob, s.heap.get? a = some ob /\ ob.dict = none := by
 cases x with
 | str z =>
  obtain ⟨t, rfl⟩ := r
  cases (show T = "str" from ty)
  exact ⟨typeIs_str s z t, fun _ e => nomatch e⟩
 | int i =>
  obtain ⟨t, rfl⟩ := r
  cases (show T = "int" from ty)
  exact ⟨typeIs_int s i t, fun _ e => nomatch e⟩
 | ref p =>
  cases r
  rcases ty with ⟨rfl, xs, hq⟩ | ⟨rfl, o, hk, hc, hd⟩ | ⟨rfl, hk⟩ | ⟨rfl, S, n, hk⟩
  ·obtain ⟨its, _, pl, _⟩ := I.list hq
   refine ⟨pl.isList.typeIs, fun a e => ?_⟩
   cases e
   obtain ⟨o, n, e, c, hd, _⟩ := pl
   exact ⟨o, e, hd⟩
  ·refine ⟨⟨o, I.kIn p o hk, hc⟩, fun a e => ?_⟩
   cases e
   exact ⟨o, I.kIn _ o hk, hd⟩
  ·have z : ∃ o, s.heap.get? p = some o /\ o.ExactDict := by
    rcases hk with ⟨kvs, hk⟩ | ⟨kvs, hk⟩
    ·obtain ⟨_, _, _, _, o, _, _, e, ex, _⟩ := I.hok p _ hk
     exact ⟨o, e, ex⟩
    ·obtain ⟨_, _, _, _, o, _, _, e, ex, _⟩ := I.hok p _ hk
     exact ⟨o, e, ex⟩
   obtain ⟨o, e, ex⟩ := z
   refine ⟨⟨o, e, ex.1⟩, fun a e2 => ?_⟩
   cases e2
   exact ⟨o, e, ex.2.1⟩
  ·obtain ⟨o, _, _, _, e, ex, _⟩ := I.hok p _ hk
   refine ⟨⟨o, e, ex.1⟩, fun a e2 => ?_⟩
   cases e2
   exact ⟨o, e, ex.2.1⟩
 | _ => exact ZV ty
def FY (K : W.Frag) (T : String) (r : V -> List V -> Hp -> VK -> Prop) (to : TE) : TE := fun σ H Q => to σ H fun x H1 => tyV K T x H1 /\ r x [] H1 Q
def tBM (K : W.Frag) (T : String) (r : V -> List V -> Hp -> VK -> Prop) (to : TE) (t : TA) : TE := fun σ H Q => to σ H fun x H1 => tyV K T x H1 /\ t σ H1 fun xs H2 => r x xs H2 Q
variable {o e : Expr} {es : List Expr} {to : TE} {t : TA} {name : Str} {apos cpos : Pos} {T id : String} {r : V -> List V -> Hp -> VK -> Prop}
theorem EZ (pa : PlainAttrs T) (slot : Slot T name id) (hty : typeOf (.builtin id) = pure (.type "method_descriptor")) (hm : MtR X id r) (ho : PE X o to)
 (hbase : Z6 o name X.env (eval o X.env) = eval o X.env := by rfl) (hline : (apos.endLine == cpos.line) = true := by rfl) : PE X (.Call (.Attribute o name apos) [] [] cpos) (FY X.K T r to) := by
 intro pins s σ H Q I h
 refine wpAny_Call_method0_late hbase hline (thn (ho pins s σ H _ I h) fun v s1 ⟨x, H1, I1, r1, ty, q1⟩ => ?_)
 obtain ⟨h1, h2⟩ := Bm I1 r1 ty
 exact ⟨T, id, pa, slot, hty, h1, h2, YX rfl (PySem.evalArgs_none (hm pins s1 σ H1 x [] v [] Q I1 r1 .nil q1))⟩
theorem Gk (pa : PlainAttrs T) (slot : Slot T name id) (hty : typeOf (.builtin id) = pure (.type "method_descriptor")) (hm : MtR X id r) (ho : PE X o to) (ha : PA X (e :: es) t)
 (hbase : Z6 o name X.env (eval o X.env) = eval o X.env := by rfl)
 (hfew : ((backTo cpos (starEach (e :: es) X.env)).all (fun x => !x.1) && (backToKw cpos (keywordEach [] X.env)).all (fun x => x.1.isSome)
  && decide ((e :: es).length + ([] : List Keyword).length + (if ([] : List Keyword).isEmpty then 0 else 1) < 30)) = true := by rfl)
 (hline : (apos.endLine == cpos.line) = true := by rfl) (hs : starEach (e :: es) X.env = (false, eval e X.env) :: starEach es X.env := by rfl) (hplain : (backTo cpos (starEach es X.env)).any (·.1) = false := by rfl) :
 PE X (.Call (.Attribute o name apos) (e :: es) [] cpos) (tBM X.K T r to t) := by
 intro pins s σ H Q I h
 refine wpAny_Call_method_late hbase hfew hline rfl (thn (ho pins s σ H _ I h) fun v s1 ⟨x, H1, I1, r1, ty, q1⟩ => ?_)
 obtain ⟨h1, h2⟩ := Bm I1 r1 ty
 refine ⟨T, id, pa, slot, hty, h1, h2, ?_⟩
 have hA := ha cpos pins s1 σ H1 _ I1 q1
 rw [hs] at hA |-
 refine YX (by show (false || (backTo cpos (starEach es X.env)).any (·.1)) = false; rw [hplain] <;> rfl) (YF ?_)
 exact thn hA fun us s2 ⟨vs, H2, I2, r2, q2⟩ => hm pins s2 σ H2 x vs v us Q I2 r1 r2 q2
end
end L2
namespace L2
open PySem PySem.Spec PyProof.Rows
def MtM (X : Cx) (id : String) (r : V -> List V -> Hp -> VK -> Prop) : Prop :=
 ∀ (pins : List (Addr × Obj)) (s : Shared) (σ : St) (H : Hp) (x : V) (xs : List V) (v : Value) (us : List Value) (Q : VK), Inv X pins σ H s -> RelV x v -> Vals xs us -> r x xs H Q ->
  wpAny (model X.prog X.w) X.A (call (.builtin id) (v :: us)) (EP X pins σ Q) X.xe s
theorem Vals.one : ∀ {x : V} {us : List Value}, Vals [x] us -> ∃ u, us = [u] /\ RelV x u
 | _, _, .cons r .nil => ⟨_, rfl, r⟩
theorem Vals.zero : ∀ {us : List Value}, Vals [] us -> us = []
 | _, .nil => rfl
theorem Vals.dropLast {xs : List V} {us : List Value} (h : Vals xs us) : Vals xs.dropLast us.dropLast := by
 induction h with
 | nil => exact .nil
 | cons r t ih =>
  cases t with
  | nil => exact .nil
  | cons q t' => exact .cons r ih
theorem Vals.rep {xs : List V} {us : List Value} (h : Vals xs us) : ∀ k : Nat, Vals (vd k xs).flatten (vd k us).flatten
 | 0 => .nil
 | k + 1 => by
  rw [Zj, Zj, Z0, Z0]
  exact Vals.append h (Vals.rep h k)
theorem yF {α : Type} (l : List α) : l.eraseIdx (l.length - 1) = l.dropLast := by
 induction l with
 | nil => rfl
 | cons a r ih =>
  cases r with
  | nil => rfl
  | cons b r =>
   have e : (a :: b :: r).length - 1 = ((b :: r).length - 1) + 1 := by
    have h1 : (a :: b :: r).length = r.length + 2 := rfl
    have h2 : (b :: r).length = r.length + 1 := rfl
    omega
   rw [e, List.eraseIdx_cons_succ, ih]
   all_goals rfl
theorem uv (its : List Value) : ∀ (k : Nat) (acc : List Value),
 List.foldl (fun x1 x2 => x1 ++ x2) acc.toArray (vd k its.toArray) = (acc ++ (vd k its).flatten).toArray
 | 0, acc => by simp
 | k + 1, acc => by
  have e : acc.toArray ++ its.toArray = (acc ++ its).toArray := by simp
  have e2 : (acc ++ its) ++ (vd k its).flatten = acc ++ (vd (k + 1) its).flatten := by
   rw [Zj, Z0, List.append_assoc]
  rw [<- e2, <- uv its k (acc ++ its), <- e, Zj, List.foldl_cons]
section
variable {X : Cx} {pins : List (Addr × Obj)} {σ : St} {H : Hp} {s : Shared} {l b : Addr} {xs ys zs : List V}
theorem Inv.lset {its its' : List Value} {n : Nat} {f : Array Value -> Array Value} {t' : Nat} (I : Inv X pins σ H s) (hH : H l = some (.lst xs))
 (e : s.heap.get? l = some { cls := .type "list", data := .seq its.toArray n }) (hf : f its.toArray = its'.toArray) (hv : Vals ys its') (hz : ys.length <= sizeLine) :
 Inv X pins σ (upd H l (.lst ys)) { s with heap := s.heap.update l (Zc f), toks := t' } := by
 have q := PySem.IsL.update e f
 rw [hf] at q
 refine I.write (x := l) (e := l) (by rw [hH]; exact trivial) (.inl rfl) (fun b' u hb hu => (Heap.get?_update_other s.heap (Zc f) (Ne.symm hb)).trans hu) ⟨_, q⟩ ?_
 exact ⟨hz, its', _, hv, q⟩
theorem Inv.lnew {its : List Value} {t' : Nat} (I : Inv X pins σ H s) (hv : Vals ys its) (hz : ys.length <= sizeLine) :
 Inv X pins σ (upd H s.heap.objs.size (.lst ys)) { s with heap := s.heap.push { cls := .type "list", data := .seq its.toArray }, toks := t' } :=
 I.laid (fun _ _ q => Heap.get?_push_of_some _ q) (zR _) ⟨hz, its, 0, hv, Heap.get?_push_size _ rfl⟩
theorem Inv.fresh (I : Inv X pins σ H s) : H s.heap.objs.size = none := I.hok.fresh (zR _)
theorem Inv.lstM (I : Inv X pins σ H s) (hH : H l = some (.lst xs)) : xs.length <= sizeLine /\ ∃ (its : List Value) (n : Nat), Vals xs its /\ xs.length = its.length /\ s.heap.get? l = some { cls := .type "list", data := .seq its.toArray n } := by
 obtain ⟨z, its, n, r, e⟩ := I.hok l _ hH
 exact ⟨z, its, n, r, r.length, e⟩
theorem rN {n : Nat} (h : n <= sizeLine) : Yl n = false := by
 unfold Yl
 exact decide_eq_false (by omega)
end
section
variable {X : Cx}
def zC : V -> List V -> Hp -> VK -> Prop := fun x vs H Q => ∃ l xs y, x = .ref l /\ vs = [y] /\ H l = some (.lst xs) /\ xs.length < sizeLine /\ Q .non (upd H l (.lst (xs ++ [y])))
theorem dy : MtM X "list.append" zC := by
 intro pins s σ H x vs v us Q I rx rv h
 obtain ⟨l, xs, y, rfl, rfl, hH, hz, q⟩ := h
 cases rx
 obtain ⟨u, rfl, ru⟩ := rv.one
 obtain ⟨z, its, n, r, hl, e⟩ := I.lstM hH
 refine Yg F.slot_list_append ⟨_, e, rfl⟩ F.entry_list_append (F.args_list_append_2 _ _) (PySem.list_append l its.toArray n u (by rw [zj]; omega)) ⟨e, ?_⟩
 refine ⟨.non, _, I.lset (its' := its ++ [u]) hH e (by simp) (r.append (.cons ru .nil)) ?_, rfl, q⟩
 rw [uf, ZH]
 omega
def CW : V -> List V -> Hp -> VK -> Prop := fun x vs H Q => ∃ l b xs zs, x = .ref l /\ vs = [.ref b] /\ H l = some (.lst xs) /\ H b = some (.lst zs) /\ xs.length + zs.length <= sizeLine /\ Q .non (upd H l (.lst (xs ++ zs)))
theorem Gh : MtM X "list.extend" CW := by
 intro pins s σ H x vs v us Q I rx rv h
 obtain ⟨l, b, xs, zs, rfl, rfl, hH, hB, hz, q⟩ := h
 cases rx
 obtain ⟨u, rfl, ru⟩ := rv.one
 cases ru
 obtain ⟨z, its, n, r, hl, e⟩ := I.lstM hH
 obtain ⟨z2, its2, n2, r2, hl2, e2⟩ := I.lstM hB
 have hsz : its.toArray.size + its2.toArray.size <= sizeLine := by rw [zj, zj]; omega
 have hlong : ¬ (!its.toArray.isEmpty && Yl (its.toArray.size + its2.toArray.size)) = true := by
  rw [rN hsz, YH]
  exact xC
 refine Yg F.slot_list_extend ⟨_, e, rfl⟩ F.entry_list_extend (F.args_list_extend_2 _ _)
  (AutoSeq1.list_extend_list_list_0 l its.toArray n b its2.toArray n2 hlong (by rw [zj]; omega) (by omega)) ⟨e, e2, ?_⟩
 refine ⟨.non, _, I.lset (its' := its ++ its2) hH e (by simp) (r.append r2) ?_, rfl, q⟩
 rw [uf]
 omega
def Hq : V -> List V -> Hp -> VK -> Prop := fun x vs H Q => ∃ l xs y, x = .ref l /\ vs = [] /\ H l = some (.lst xs) /\ xs[xs.length - 1]? = some y /\ Q y (upd H l (.lst xs.dropLast))
theorem Hi : MtM X "list.pop" Hq := by
 intro pins s σ H x vs v us Q I rx rv h
 obtain ⟨l, xs, y, rfl, rfl, hH, hy, q⟩ := h
 cases rx
 have hus := rv.zero
 subst hus
 obtain ⟨z, its, n, r, hl, e⟩ := I.lstM hH
 obtain ⟨u, hu, ru⟩ := r.get hy
 have hy' : its.toArray[its.toArray.size - 1]? = some u := by
  show its.toArray[its.length - 1]? = some u
  rw [<- Array.getElem?_toList, <- hl]
  exact hu
 refine Yg F.slot_list_pop ⟨_, e, rfl⟩ F.entry_list_pop (F.args_list_pop_1 _) (MeetsSeq.list_pop_last l its.toArray n u hy' (by rw [zj]; omega)) ⟨e, ?_⟩
 refine ⟨y, _, I.lset (its' := its.dropLast) hH e ?_ r.dropLast ?_, ru, q⟩
 ·show its.toArray.eraseIdxIfInBounds (its.toArray.size - 1) = its.dropLast.toArray
  rw [zj, List.eraseIdxIfInBounds_toArray, yF]
 ·rw [List.length_dropLast]
  omega
def BV : V -> List V -> Hp -> VK -> Prop := fun x vs H Q => ∃ l xs, x = .ref l /\ vs = [] /\ H l = some (.lst xs) /\ Q .non (upd H l (.lst []))
theorem B8 : MtM X "list.clear" BV := by
 intro pins s σ H x vs v us Q I rx rv h
 obtain ⟨l, xs, rfl, rfl, hH, q⟩ := h
 cases rx
 have hus := rv.zero
 subst hus
 obtain ⟨z, its, n, r, hl, e⟩ := I.lstM hH
 refine Yg F.slot_list_clear ⟨_, e, rfl⟩ F.entry_list_clear (F.args_list_clear_1 _) (AutoSeq1.list_clear_list_0 l its.toArray n (by rw [zj]; omega)) ⟨e, ?_⟩
 exact ⟨.non, _, I.lset (its' := []) (ys := []) hH e rfl .nil (Zb _), rfl, q⟩
def Hs : R2 := fun x y H Q => ∃ l b xs zs, x = .ref l /\ y = .ref b /\ H l = some (.lst xs) /\ H b = some (.lst zs) /\ xs.length + zs.length <= sizeLine /\ ∀ p, H p = none -> Q (.ref p) (upd H p (.lst (xs ++ zs)))
theorem EW : OpR X (binaryOp .Add) Hs := by
 intro pins s σ H x y v u Q I rx ry h
 obtain ⟨l, b, xs, zs, rfl, rfl, hH, hB, hz, q⟩ := h
 cases rx
 cases ry
 obtain ⟨z, its, n, r, hl, e⟩ := I.lstM hH
 obtain ⟨z2, its2, n2, r2, hl2, e2⟩ := I.lstM hB
 refine PySem.P.add_list e e2 ?_ (by rw [zj, zj]; omega)
 have ea : its.toArray ++ its2.toArray = (its ++ its2).toArray := by simp
 rw [ea]
 exact ⟨.ref _, _, I.lnew (t' := s.toks) (r.append r2) (by rw [uf]; omega), rfl, q _ I.fresh⟩
def Hw : R2 := fun x y H Q => ∃ l k xs, x = .ref l /\ y = .int k /\ H l = some (.lst xs) /\ -(2 ^ 63) <= k /\ k < 2 ^ 63 /\ xs.length * k.toNat <= sizeLine /\
 ∀ p, H p = none -> Q (.ref p) (upd H p (.lst (vd k.toNat xs).flatten))
theorem Dl {α : Type} (xs : List α) (k : Nat) : (vd k xs).flatten.length = k * xs.length := by
 induction k with
 | zero => simp
 | succ k ih => rw [Zj, Z0, uf, ih, Nat.succ_mul, Nat.add_comm]
theorem Gb : OpR X (binaryOp .Mult) Hw := by
 intro pins s σ H x y v u Q I rx ry h
 obtain ⟨l, k, xs, rfl, rfl, hH, h1, h2, hz, q⟩ := h
 cases rx
 obtain ⟨t, rfl⟩ := ry
 obtain ⟨z, its, n, r, hl, e⟩ := I.lstM hH
 have hlen : its.toArray.size * k.toNat <= sizeLine := by rw [zj, <- hl]; exact hz
 have hcap : ¬ its.toArray.size * k.toNat > (2 ^ 63 - 1) / 8 := by
  have : (sizeLine : Nat) <= (2 ^ 63 - 1) / 8 := by decide
  omega
 have hfit : ¬ (!Builtin.List.listFitsIndex k) = true := by
  rw [fitsIndex_both h1 h2]
  exact xC
 have hlong : ¬ Yl (its.toArray.size * k.toNat) = true := by
  rw [rN hlen]
  exact xC
 have hnew : List.foldl (fun x1 x2 => x1 ++ x2) #[] (vd (if its.toArray.isEmpty = true then 0 else k.toNat) its.toArray) = (vd k.toNat its).flatten.toArray := by
  have f0 : ∀ m : Nat, List.foldl (fun x1 x2 => x1 ++ x2) #[] (vd m its.toArray) = (vd m its).flatten.toArray := fun m => by
   have := uv its m []
   rw [List.nil_append] at this
   exact this
  rw [f0]
  cases its with
  | nil => simp
  | cons a r' => rw [if_neg (by simp)]
 refine wpAny_binaryOp_repeat_ref (T := "list") (U := "int") (by decide) ⟨_, e, rfl⟩ (fun s' => typeIs_int s' k t) noFill_list_mul F.fills_int_mul F.slot_int_rmul repeat_list F.slot_int_index.lookup
  (Yg F.slot_int_rmul (typeIs_int s k t) F.entry_int_rmul (F.args_int_rmul_2 _ _) (int___rmul___int_list k t l its.toArray n)
   ⟨e, rfl, ⟨_, e, rfl⟩, Yg F.slot_list_mul ⟨_, e, rfl⟩ F.entry_list_mul (F.args_list_mul_2 _ _) (AutoListH.list___mul___list_int_3 l its.toArray n k t hfit hcap hlong) ⟨e, ?_⟩⟩)
 rw [hnew]
 exact ⟨.ref _, _, I.lnew (t' := s.toks) (r.rep k.toNat) (by rw [Dl, Nat.mul_comm]; exact hz), rfl, q _ I.fresh⟩
end
section
variable {prog : Program} {w : World} {A : Around} {E : Value -> Shared -> Prop} {s : Shared}
end
section
variable {X : Cx}
end
end L2
namespace Att
open PySem PySem.W PySem.Calls PyProof.Rows
theorem qI {P : Params} {h : Heap} : ∀ (ns : List Int) (vs : List Value), WellAll P h vs (ns.map WData.int) -> IntsAre vs ns := by
 intro ns
 induction ns with
 | nil =>
  intro vs w
  rw [List.map_nil] at w
  cases w
  exact .nil
 | cons n ns ih =>
  intro vs w
  rw [ud] at w
  cases w with
  | cons a b =>
   cases a
   exact .cons _ _ (ih _ b)
theorem Av {l : OpenLaw} {n : Nat} (hn : l.most = some n) {P : Params} {h : Heap} {args : List WData} {vals : List Value}
 (hpre : l.row.toRowW.claim.pre args = true) (hwl : WellAll P h vals args) :
 ∃ a vs ns, vals = [xL a] /\ args = [WData.list (ns.map WData.int)] /\ h.get? a = some { cls := .type "list", data := .seq vs.toArray } /\ IntsAre vs ns /\ ns.length <= n := by
 have hsh : WShape.hasAll [] args [.list .int] = true := (pre_splitW hpre).1
 have hc : l.pre.holds [] { args := args } = true := (pre_splitW hpre).2
 obtain ⟨d, r, rfl, h1, h2⟩ := hasAllW_cons hsh
 obtain rfl := hasAllW_nil h2
 obtain ⟨xs, rfl, h3⟩ := hasW_list h1
 obtain ⟨ns, rfl⟩ := items_int h3
 have hlen : ns.length <= n := by
  unfold OpenLaw.pre at hc
  have h4 : (WTm.not (.lt (.lit (.int (n : Int))) (.len (.arg 0)))).holds [] { args := [.list (ns.map .int)] } = true := by
   have h4 := (holds_andW hc).1
   rw [hn] at h4
   exact h4
  have h5 := condW_of h4 (w_not (w_lt w_lit (w_len_list (w_arg rfl))))
  rw [zl] at h5
  refine Nat.le_of_not_lt fun q => ?_
  have q' : (n : Int) < ((ns.length : Nat) : Int) := by omega
  first
   | (rw [decide_eq_true q'] at h5; exact absurd h5 (by decide))
   | (simp at h5; omega)
 cases hwl with
 | cons w1 w2 =>
  cases w2
  cases w1 with
  | list ho hall => exact ⟨_, _, ns, rfl, rfl, ho, qI ns _ hall, hlen⟩
theorem AU (l : OpenLaw) (args : List WData) : l.row.toRowW.claim.post args (.bool true) args = true :=
 postW_of (r := l.row.toRowW) (X := (true == true))
  (show WShape.has [] (.bool true) .bool = true by first | rfl | decide | simp [WShape.has, WShape.arms, WShape.armsAll])
  (show (WTm.eq .res (.lit (.bool true))).value [] { args := args, res := some (.bool true), after := args } = some (.bool (true == true)) from w_eq_bool (w_res rfl) w_lit) rfl
theorem attach_call {l : OpenLaw} {n : Nat} {q : Program} {loose : List Str} {XP : (Str -> Option Value) -> Heap -> Prop} {YP : World -> Heap -> Prop} {d : DefRec}
 (hn : l.most = some n) (hdf : d.params.defaults = [])
 (call : ∀ (w : World) (s₀ s₁ : Shared) (mg mb : Str -> Option Value) (fa : Addr) (o : Obj) (pm cd doc : Value) (a : Addr) (vs : List Value) (ns : List Int),
  Ground q loose [] XP w s₀ mg mb s₁.heap -> YP w s₁.heap ->
  s₁.heap.get? fa = some o -> o.data = .func (docDef d.name d.params d.body d.scope pm cd doc) -> s₁.heap.CodeRec cd d.name -> mg d.name = some (.ref fa) ->
  s₁.heap.get? a = some { cls := .type "list", data := .seq vs.toArray } -> IntsAre vs ns -> ns.length <= n -> s₁.gens = #[] ->
  codeAny (model l.prog w) callerA (.call (.ref fa) ⟨[.ref a], []⟩) (fun r s' => r = .ok (.ret (.bool true)) /\ OldK s₁.heap s'.heap /\ s'.os = s₁.os /\ AllBare s'.gens) s₁) :
 WalkO q loose XP YP l.row.toRowW d [] (fun f vs => PySem.call f vs) := by
 intro w s₀ s₁ mg mb G Y fa o pm cd doc dV kV ho hd hcd hD hmg hg args vals as hpre hlay hrd hwl hlo
 obtain rfl : dV = .none := Dflts.none hD hdf
 obtain rfl : kV = .none := Dflts.noKw hD
 obtain ⟨a, vs, ns, rfl, rfl, hobj, hints, hlen⟩ := Av hn hpre hwl
 refine enter_call (codeAny_mono (call w s₀ s₁ mg mb fa o pm cd doc a vs ns G Y ho (fd_plain hd) hcd hmg hobj hints hlen hg) fun r s' hq => ?_)
 obtain ⟨rfl, h2, h3, h4⟩ := hq
 exact ⟨.inl ⟨.bool true, .bool true, [], rfl, fun _ => rfl, .bool true, AU l _, fun _ => ⟨List.Pairwise.nil, fun _ hm => (nomatch hm)⟩⟩, h2, h3, h4⟩
section
variable {prog : Program} {w : World} {A : Around} {E : Value -> Shared -> Prop} {s : Shared} {K : Frag}
end
end Att
namespace L2
open PySem PySem.Spec PyProof.Rows
theorem uu : ∀ {vs : List Value} {ns : List Int}, IntsAre vs ns -> Vals (ns.map V.int) vs
 | _, _, .nil => .nil
 | _, _, .cons n t h => .cons ⟨t, rfl⟩ (uu h)
def A6 (H : Hp) : Prop := ∀ b, H b = none \/ ∃ o xs, H b = some (.frz o (.lst xs))
theorem Bt {P : Program} {w : World} {K : W.Frag} {mg mb : Str -> Option Value} {CX : CXT} {k : Nat} {fa a : Addr} {fd : FuncData} {x : Str} {sp : Sp} {s₁ : Shared} {vs : List Value} {ns : List Int}
 (KX : K.In s₁.heap) (hns : s₁.heap.Ns uy mg) (hb : s₁.heap.Ns builtinsNs mb) (hbb : ∀ x : Str, x ≠ "__name__" -> mb x = Zq x) (hlim : s₁.heap.NoLimit) (hg : s₁.gens = #[])
 (ha : s₁.heap.get? a = some { cls := .type "list", data := .seq vs.toArray }) (hi : IntsAre vs ns) (hl : ns.length <= sizeLine) (hr : Room k callerA)
 (F : ∀ base : Heap, K.In base -> base.Ns uy mg -> bz P w K mg base CX k fa fd [x] sp) (hbind : ∀ (s : Shared) (u : Value), BindsTo s fd ⟨[u], []⟩ [(x, u)])
 (hsp : ∀ H : Hp, A6 H -> SqL K H a (ns.map V.int) -> sp [.ref a] H (fun v _ => v = .bl true) fun _ _ _ => False)
 (hCX : ∀ H e s', CX [] H s₁ (fun _ _ _ => False) e s' -> False) :
 codeAny (model P w) callerA (.call (.ref fa) ⟨[.ref a], []⟩) (fun r s' => r = .ok (.ret (.bool true)) /\ OldK s₁.heap s'.heap /\ s'.os = s₁.os /\ AllBare s'.gens) s₁ := by
 have rv := uu hi
 have lenV := hi.length
 have core : ∀ H : Hp, A6 H -> SqL K H a (ns.map V.int) -> HOk P w H s₁.heap -> (∀ b, H b ≠ none -> b = a) -> (H a ≠ none -> K.lookup a = none) ->
  codeAny (model P w) callerA (.call (.ref fa) ⟨[.ref a], []⟩) (fun r s' => r = .ok (.ret (.bool true)) /\ OldK s₁.heap s'.heap /\ s'.os = s₁.os /\ AllBare s'.gens) s₁ := by
  intro H hO hS hok hA hK
  have base_of : ∀ {b : Addr} {o : Obj}, s₁.heap.get? b = some o -> H b = none -> (vx s₁.heap H).get? b = some o := fun e n => Bl e n
  have noA : ∀ {b : Addr} {o : Obj} {es : Array DictEntry} {ep : Nat}, s₁.heap.get? b = some o -> o.data = .dict es ep -> H b = none := fun {b o es ep} e d => by
   cases q : H b with
   | none => rfl
   | some u =>
    have e' : b = a := hA b (by rw [q]; simp)
    subst e'
    rw [ha] at e; cases e
    have d' : Data.seq vs.toArray _ = Data.dict es ep := d
    cases d'
  have nsK : ∀ {b : Addr} {m : Str -> Option Value}, s₁.heap.Ns b m -> (vx s₁.heap H).Ns b m := fun {b m} ⟨o, es, ep, e, d, r⟩ => ⟨o, es, ep, base_of e (noA e d), d, r⟩
  have hKb : K.In (vx s₁.heap H) := fun b o e => base_of (KX b o e) (by
   cases q : H b with
   | none => rfl
   | some u =>
    have e' : b = a := hA b (by rw [q]; simp)
    subst e'
    rw [hK (by rw [q]; simp)] at e; cases e)
  have hM : Mod K mg (vx s₁.heap H) := ⟨hKb, nsK hns, ⟨mb, nsK hb, hbb⟩, let ⟨mc, h1, h2⟩ := hlim; ⟨mc, nsK h1, h2⟩⟩
  have e0 : Env0 P w K mg (vx s₁.heap H) callerA [] s₁ H := ⟨rfl, hM, fun b o e => D8 e, Nat.le_of_eq (AQ _ _), trivial, fun b hb => absurd (show b ∈ ([] : List Addr) from hb) (by simp), hok, .of_eq hg⟩
  refine codeAny_mono ((F _ hKb (nsK hns)).run callerA [] s₁ H ⟨[.ref a], []⟩ [.ref a] [.ref a] _ _ hr e0 (hbind s₁ (.ref a)) (.cons rfl .nil) (hsp H hO hS)) fun r s' h => ?_
  cases r with
  | error e => exact (hCX H e s' h).elim
  | ok fl =>
   cases fl with
   | next => exact ZV h
   | brk => exact ZV h
   | cont => exact ZV h
   | ret u =>
    obtain ⟨v, H', os, bare, un, hok', r', q⟩ := h
    have q' : v = .bl true := q
    subst q'
    obtain rfl : u = Value.bool true := r'
    refine ⟨rfl, OldK.of_keep fun b o e => ?_, os, bare⟩
    cases q : H b with
    | none => exact un.keep b o e q (by intro z; exact absurd (show b ∈ ([] : List Addr) from z) (by simp)) (by simp)
    | some u =>
     rcases hO b with z | ⟨ob, xs, z⟩
     ·rw [q] at z; cases z
     ·have z2 := un.frzs b ob _ z
      obtain ⟨e1, _⟩ := hok b _ z
      obtain ⟨e2, _⟩ := hok' b _ z2
      rw [e] at e1; cases e1
      exact e2
 cases hk : K.lookup a with
 | some o =>
  have e := KX a o hk
  rw [ha] at e
  cases e
  refine core (fun _ => none) (fun _ => .inl rfl) (.inr ⟨_, vs.toArray, _, hk, rfl, rfl, rfl, by rw [zj, lenV]; exact hl, by simpa using rv⟩) (fun b u z => by have z' : (none : Option HO) = some u := z; cases z') (fun b z => absurd rfl z) fun z => absurd rfl z
 | none =>
  refine core (fun b => if b = a then some (.frz { cls := .type "list", data := .seq vs.toArray } (.lst (ns.map V.int))) else none) (fun b => ?_) (.inl (.inr ⟨{ cls := .type "list", data := .seq vs.toArray }, if_pos rfl⟩)) (fun b u z => ?_) (fun b z => ?_) fun _ => hk
  ·by_cases hb : b = a
   ·exact .inr ⟨_, _, if_pos hb⟩
   ·exact .inl (if_neg hb)
  ·by_cases hb : b = a
   ·have z' := (if_pos hb).symm.trans z
    cases z'
    subst hb
    exact ⟨ha, by rw [zl]; exact hl, vs, _, rv, ha⟩
   ·have z' := (if_neg hb).symm.trans z
    cases z'
  ·by_cases hb : b = a
   ·exact hb
   ·exact absurd (if_neg hb) z
end L2
namespace L2
open PySem PySem.Spec PyProof.Rows
theorem Db {l : PySem.W.OpenLaw} {n k : Nat} {q : Program} {loose : List Str} {XP : (Str -> Option Value) -> Heap -> Prop} {YP : World -> Heap -> Prop} {d : DefRec} {K : Params -> W.Frag} {CX : World -> CXT} {sp : World -> Sp} {x : Str}
 (hn : l.most = some n) (hn2 : n <= sizeLine) (hdf : d.params.defaults = []) (hr : Room k callerA)
 (hY : ∀ (w : World) (h : Heap), YP w h -> (K w.params).In h)
 (F : ∀ (w : World) (mg : Str -> Option Value) (fa : Addr) (h : Heap), (K w.params).In h -> h.Ns uy mg -> mg d.name = some (.ref fa) ->
  ∃ fd : FuncData, (∀ (s : Shared) (u : Value), BindsTo s fd ⟨[u], []⟩ [(x, u)]) /\
   ∀ base : Heap, (K w.params).In base -> base.Ns uy mg -> bz l.prog w (K w.params) mg base (CX w) k fa fd [x] (sp w))
 (hsp : ∀ (w : World) (H : Hp) (a : Addr) (ns : List Int), ns.length <= n -> A6 H -> SqL (K w.params) H a (ns.map V.int) -> sp w [.ref a] H (fun v _ => v = .bl true) fun _ _ _ => False)
 (hCX : ∀ (w : World) (H : Hp) (s : Shared) (e : Value) (s' : Shared), CX w [] H s (fun _ _ _ => False) e s' -> False) :
 PySem.W.WalkO q loose XP YP l.row.toRowW d [] (fun f vs => PySem.call f vs) := by
 refine Att.attach_call hn hdf fun w s₀ s₁ mg mb fa o pm cd doc a vs ns G Y ho hd hcd hmg hobj hints hlen hg => ?_
 have KX := hY w _ Y
 obtain ⟨fd, hb, hF⟩ := F w mg fa _ KX G.T.g hmg
 exact Bt KX G.T.g G.T.b G.T.builtins G.T.nolimit hg hobj hints (sC hlen hn2) hr hF hb (fun H hO hS => hsp w H a ns hlen hO hS) fun H e s' => hCX w H s₁ e s'
end L2
namespace L2
open PySem PySem.Spec PyProof.Rows
abbrev CX0 : CXT := fun _ _ _ _ _ _ => False
structure Fun (K : W.Frag) (x qual : Str) (st : Stmt) (f : Addr) (fd : FuncData) : Prop where
 ex : ∃ (oc : Value) (od : Option Addr) (kV doc pm : Value) (an : Option Addr) (cdv ct : Value) (osl : Array (Option Value)),
  fd = ZE x qual (aM st) (aw st) (af st) .none kV doc pm an cdv ct /\ K.lookup f = some ⟨oc, od, .func fd, osl⟩ /\ YJ K cdv qual = true
 kp : Yz K (.ref f) = true
section
variable {P : Program} {w : World} {K : W.Frag} {mg : Str -> Option Value} {base : Heap}
theorem Fun.binds {x qual : Str} {st : Stmt} {f : Addr} {fd : FuncData} {ps : List Str} (F : Fun K x qual st f fd)
 (h : ∀ (kV doc pm : Value) (an : Option Addr) (cdv ct : Value) (us : List Value), us.length = ps.length -> bindArgs (ZE x qual (aM st) (aw st) (af st) .none kV doc pm an cdv ct) ⟨us, []⟩ = pure (ps.zip us)) : Binds K fd ps [] := by
 obtain ⟨oc, od, kV, doc, pm, an, cdv, ct, osl, rfl, lk, hcd⟩ := F.ex
 exact .all (h kV doc pm an cdv ct)
theorem yK {x qual : Str} {st : Stmt} {f : Addr} {oc : Value} {od an : Option Addr} {osl : Array (Option Value)} {kV doc pm cdv ct : Value} (l : K.lookup f = some ⟨oc, od, .func (ZE x qual (aM st) (aw st) (af st) .none kV doc pm an cdv ct), osl⟩)
 (c : YJ K cdv qual = true) (k : Yz K (.ref f) = true) : Fun K x qual st f (ZE x qual (aM st) (aw st) (af st) .none kV doc pm an cdv ct) := ⟨⟨oc, od, kV, doc, pm, an, cdv, ct, osl, rfl, l, c⟩, k⟩
end
section
variable {X : Cx}
end
theorem wU {A B : Prop} (h : B) : if false = true then A else B := by
 rw [if_neg xC]
 exact h
theorem Cy {A B : Prop} (h : A) : if true = true then A else B := by
 rw [if_pos rfl]
 exact h
def Same (H H' : Hp) : Prop := ∀ b o, H b = some o -> H' b = some o
theorem Same.refl (H : Hp) : Same H H := fun _ _ h => h
theorem Same.trans {H H1 H2 : Hp} (a : Same H H1) (b : Same H1 H2) : Same H H2 := fun c o h => b c o (a c o h)
theorem Same.free {H H' : Hp} (e : Same H H') {l : Addr} (h : H' l = Option.none) : H l = Option.none := by
 cases q : H l with
 | none => rfl
 | some o =>
  rw [e l o q] at h
  cases h
end L2
namespace L2
open PySem PySem.Spec PyProof.Rows
def mJ : HO -> Bool
 | .dT _ => false
 | .frz _ u => mJ u
 | _ => true
def NoT (H : Hp) : Prop := ∀ a o, H a = some o -> mJ o = true
def pf : HO -> Bool
 | .lst _ => true
 | .tup _ => true
 | .dK _ => true
 | .rng _ _ => true
 | _ => false
structure Gc (H G H' : Hp) : Prop where
 a : Same H G
 b : Same G H'
 c : ∀ p o, G p = some o -> H p = some o \/ pf o = true
section
variable {P : Program} {w : World} {H G H' : Hp} {h h' : Heap} {a : Addr} {o : HO}
theorem ObjOk.gc (n : mJ o = true) (x0 : ObjOk P w H h a o) (x : ObjOk P w H' h' a o) : ObjOk P w H h' a o := by
 induction o with
 | ins C dx fs => exact ⟨x0.1, x.2⟩
 | dT kvs => cases n
 | frz ob u ih => exact ⟨x.1, ih n x0.2 x.2⟩
 | _ => exact x
theorem ObjOk.plain (n : pf o = true) (x : ObjOk P w H' h' a o) : ObjOk P w H h' a o := by
 cases o with
 | lst xs => exact x
 | tup xs => exact x
 | dK kvs => exact x
 | rng lo hi => exact x
 | _ => cases n
theorem HOk.gc (n : NoT H) (x0 : HOk P w H h) (x : HOk P w H' h') (g : Gc H G H') : HOk P w G h' := fun a o e => by
 rcases g.c a o e with q | q
 ·refine (((x0 a o q).gc (n a o q) (x a o (g.b a o e)))).stay (fun _ _ _ z => z) (fun b z => g.a _ _ z) fun b xs z => g.a _ _ z
 ·exact (x a o (g.b a o e)).plain q
theorem Un.gc {fs ex : List Addr} (u : Un fs ex H H' h h') (g : Gc H G H') : Un fs ex H G h h' :=
 ⟨u.keep, u.slot, fun b o q n hx => g.b.free (u.free b o q n hx), u.there, fun b xs q => g.a _ _ q, fun b o x q => g.a _ _ q, fun b ps q => ⟨#[], by rw [Array.append_empty]; exact g.a _ _ q⟩⟩
theorem Gc.refl : Gc H H H := ⟨Same.refl H, Same.refl H, fun _ _ e => .inl e⟩
theorem Gc.none (s : Same H H') : Gc H H H' := ⟨Same.refl H, s, fun _ _ e => .inl e⟩
theorem aJ {p : Addr} (o : HO) (hp : H p = Option.none) : Same H (upd H p o) := fun b u e => by rw [ay (ar e hp)]; exact e
theorem Gc.one {p : Addr} (s : Same H H') (hp : H p = Option.none) (e : H' p = some o) (n : pf o = true) : Gc H (upd H p o) H' :=
 ⟨aJ o hp, fun b u z => by
  by_cases hb : b = p
  ·subst hb; rw [al] at z; cases z; exact e
  ·rw [ay hb] at z; exact s b u z, fun b u z => by
  by_cases hb : b = p
  ·subst hb; rw [al] at z; cases z; exact .inr n
  ·rw [ay hb] at z; exact .inl z⟩
theorem NoT.upd {p : Addr} (n : NoT H) (d : mJ o = true) : NoT (upd H p o) := fun b u z => by
 by_cases hb : b = p
 ·subst hb; rw [al] at z; cases z; exact d
 ·rw [ay hb] at z; exact n b u z
end
theorem Inv.gc {X : Cx} {pins pins' : List (Addr × Obj)} {σ σ' : St} {H G H' : Hp} {s s' : Shared} (n : NoT H) (I : Inv X pins σ H s) (J : Inv X pins' σ' H' s') (g : Gc H G H') : Inv X pins' σ' G s' :=
 ⟨J.ok, J.os, J.bare, ⟨J.base.keep, J.base.slot, fun b o q z hx => g.b.free (J.base.free b o q z hx), J.base.there, fun b xs q => g.a _ _ (I.base.tups b xs q), fun b o x q => g.a _ _ (I.base.frzs b o x q), fun b ps q => let ⟨m, e⟩ := I.base.tbls b ps q; ⟨m, g.a _ _ e⟩⟩,
  J.loc, J.cell, g.b.free J.free, fun x c e => g.b.free (J.freeC x c e), fun p hp => let ⟨e, z, r⟩ := J.pin p hp; ⟨e, g.b.free z, r⟩, HOk.gc n I.hok J.hok g, J.len⟩
def GF (t : TT) : TT := fun σ H Q => NoT H /\ t σ H fun v H' => ∃ G, Gc H G H' /\ Q v G
theorem CJ {X : Cx} {e : Expr} {t : TT} (h : PT X e t) : PT X e (GF t) := fun pins s σ H Q I ⟨n, q⟩ =>
 thn (h pins s σ H _ I q) fun u s1 ⟨H1, I1, G, g, q1⟩ => ⟨G, I.gc n I1 g, q1⟩
end L2
namespace L2
open PySem PySem.Spec PyProof.Rows
def K2 {α : Type} : Sem α -> Prop
 | .rule _ k => K2 (k ())
 | .at _ k => K2 (k ())
 | .load _ _ k => ∀ o, K2 (k o)
 | .update _ _ f k => (∀ (o : Obj) vs, o.data = .fields vs -> ∃ ws, (f o).data = .fields ws /\ ws[2]? = vs[2]?) /\ K2 (k ())
 | .loadIfAlive _ k => ∀ o, K2 (k o)
 | .point _ k => K2 (k ())
 | .alloc _ k => ∀ a, K2 (k a)
 | .fresh k => ∀ n, K2 (k n)
 | .ask k => ∀ x, K2 (k x)
 | .choose _ _ k => ∀ n, K2 (k n)
 | .os _ _ k => ∀ x, K2 (k x)
 | .call .. => False
 | .handled _ k => ∀ x, K2 (k x)
 | .genState _ k => ∀ x, K2 (k x)
 | .newGen _ k => ∀ n, K2 (k n)
 | .resume .. => False
 | .stack k => ∀ x, K2 (k x)
 | .thread k => ∀ n, K2 (k n)
 | _ => True
def F2 (h : Heap) (e : Addr) : Prop := ∃ o vs, h.get? e = some o /\ o.data = .fields vs /\ vs[2]? = some .none
theorem K2.bind {α β : Type} {t : Sem α} {f : α -> Sem β} (h : K2 t) (g : ∀ a, K2 (f a)) : K2 (t >>= f) := by
 show K2 (t.bind f)
 induction t with
 | pure a => exact g a
 | rule _ k ih => exact ih () h
 | «at» _ k ih => exact ih () h
 | load _ _ k ih => exact fun o => ih o (h o)
 | update _ _ _ k ih => exact ⟨h.1, ih () h.2⟩
 | loadIfAlive _ k ih => exact fun o => ih o (h o)
 | point _ k ih => exact ih () h
 | alloc _ k ih => exact fun o => ih o (h o)
 | fresh k ih => exact fun o => ih o (h o)
 | ask k ih => exact fun o => ih o (h o)
 | choose _ _ k ih => exact fun o => ih o (h o)
 | os _ _ k ih => exact fun o => ih o (h o)
 | call => exact h.elim
 | handled _ k ih => exact fun o => ih o (h o)
 | genState _ k ih => exact fun o => ih o (h o)
 | newGen _ k ih => exact fun o => ih o (h o)
 | resume => exact h.elim
 | stack k ih => exact fun o => ih o (h o)
 | thread k ih => exact fun o => ih o (h o)
 | _ => trivial
theorem F2.push {h : Heap} {e : Addr} (x : F2 h e) (o : Obj) : F2 (h.push o) e := by
 obtain ⟨oe, vs, e1, e2⟩ := x
 exact ⟨oe, vs, Heap.get?_push_of_some _ e1, e2⟩
theorem F2.update {h : Heap} {e : Addr} (x : F2 h e) (a : Addr) {f : Obj -> Obj} (hf : ∀ (o : Obj) vs, o.data = .fields vs -> ∃ ws, (f o).data = .fields ws /\ ws[2]? = vs[2]?) : F2 (h.update a f) e := by
 obtain ⟨oe, vs, e1, e2, e3⟩ := x
 by_cases ea : a = e
 ·subst ea
  obtain ⟨ws, w1, w2⟩ := hf oe vs e2
  exact ⟨_, ws, Heap.get?_update_self _ e1 (Yv w1), w1, w2.trans e3⟩
 ·exact ⟨oe, vs, (Heap.get?_update_other _ _ ea).trans e1, e2, e3⟩
theorem Hg {α : Type} {M : Model} {Γ : PySem.Ctx} {e : Addr} {t : Sem α} : ∀ {Q : α -> Pos -> Shared -> Prop} {E : Value -> Pos -> Shared -> Prop} {p : Pos} {s : Shared}, K2 t -> Sem.wp M Γ t Q E p s -> F2 s.heap e -> Sem.wp M Γ t (fun a p s' => Q a p s' /\ F2 s'.heap e) (fun x p s' => E x p s' /\ F2 s'.heap e) p s := by
 induction t with
 | pure a => intro Q E p s _ h f; rw [Sem.wp] at h |-; exact ⟨h, f⟩
 | raise x => intro Q E p s _ h f; rw [Sem.wp] at h |-; exact ⟨h, f⟩
 | unsupported => intro Q E p s _ h f; rw [Sem.wp] at h; exact h.elim
 | finish => intro Q E p s _ h f; rw [Sem.wp] at h; exact h.elim
 | rule _ k ih => intro Q E p s g h f; rw [Sem.wp] at h |-; exact ih () g h f
 | «at» _ k ih => intro Q E p s g h f; rw [Sem.wp] at h |-; exact ih () g h f
 | load _ _ k ih => intro Q E p s g h f; rw [Sem.wp] at h |-; obtain ⟨o, h1, h2⟩ := h; exact ⟨o, h1, ih o (g o) h2 f⟩
 | update a _ _ k ih => intro Q E p s g h f; rw [Sem.wp] at h |-; exact ⟨h.1, ih () g.2 h.2 (f.update a g.1)⟩
 | loadIfAlive _ k ih => intro Q E p s g h f; rw [Sem.wp] at h |-; exact ih _ (g _) h f
 | point _ k ih => intro Q E p s g h f; rw [Sem.wp] at h |-; exact ih () g h f
 | register => intro Q E p s _ h f; rw [Sem.wp] at h; exact h.elim
 | alloc o k ih => intro Q E p s g h f; rw [Sem.wp] at h |-; exact ih _ (g _) h (f.push o)
 | fresh k ih => intro Q E p s g h f; rw [Sem.wp] at h |-; exact ih _ (g _) h f
 | ask k ih => intro Q E p s g h f; rw [Sem.wp] at h |-; exact ih _ (g _) h f
 | choose _ _ k ih => intro Q E p s g h f; rw [Sem.wp] at h |-; exact ⟨h.1, ih _ (g _) h.2 f⟩
 | os _ _ k ih => intro Q E p s g h f; rw [Sem.wp] at h |-; exact ih _ (g _) h f
 | call => intro Q E p s g; exact g.elim
 | handled _ k ih => intro Q E p s g h f; rw [Sem.wp] at h |-; exact ih _ (g _) h f
 | genState _ k ih => intro Q E p s g h f; rw [Sem.wp] at h |-; obtain ⟨st, h1, h2⟩ := h; exact ⟨st, h1, ih _ (g _) h2 f⟩
 | newGen _ k ih => intro Q E p s g h f; rw [Sem.wp] at h |-; exact ih _ (g _) h f
 | resume => intro Q E p s g; exact g.elim
 | yield => intro Q E p s _ h f; rw [Sem.wp] at h; exact h.elim
 | stack k ih => intro Q E p s g h f; rw [Sem.wp] at h |-; exact ih _ (g _) h f
 | fork => intro Q E p s _ h f; rw [Sem.wp] at h; exact h.elim
 | thread k ih => intro Q E p s g h f; rw [Sem.wp] at h |-; exact ih _ (g _) h f
 | await => intro Q E p s _ h f; rw [Sem.wp] at h; exact h.elim
theorem BM {α : Type} {M : Model} {A : Around} {e : Addr} {t : Sem α} {Q : α -> Shared -> Prop} {E : Value -> Shared -> Prop} {s : Shared} (k : K2 t) (f : F2 s.heap e) (h : wpAny M A t Q E s) : wpAny M A t (fun a s' => Q a s' /\ F2 s'.heap e) (fun x s' => E x s' /\ F2 s'.heap e) s := fun Γ p hg => Hg k (h Γ p hg) f
theorem oK (v : Value) (i : Nat) : K2 (field v i) := by
 refine K2.bind ?_ fun vs => ?_
 ·unfold fieldsOf
  split
  ·refine K2.bind (fun o => trivial) fun o => ?_
   split <;> trivial
  ·trivial
 ·split <;> trivial
theorem jT (v : Value) {i : Nat} (h : i ≠ 2) (x : Value) : K2 (setField v i x) := by
 unfold setField
 split
 ·unfold updateField
  refine K2.bind (fun o => trivial) fun o => ?_
  split
  ·split
   ·refine ⟨fun o vs e => ⟨_, Y6 e _, ?_⟩, trivial⟩
    rw [Array.getElem?_setIfInBounds_ne h]
   ·trivial
  ·trivial
 ·trivial
theorem xU : ∀ l : List Env, K2 (readyFrames l)
 | [] => trivial
 | env :: outer => by
  unfold readyFrames
  split
  ·refine K2.bind (fun o => trivial) fun o => ?_
   split
   ·trivial
   ·refine K2.bind ?_ fun im => K2.bind ?_ fun bk => K2.bind ?_ fun _ => xU outer
    ·unfold behindIsImport
     split
     ·trivial
     ·split
      ·trivial
      ·exact K2.bind (oK _ _) fun _ => trivial
    ·unfold keptBack
     split
     ·split
      ·trivial
      ·refine K2.bind ?_ fun _ => trivial
       exact K2.bind (fun st => trivial) fun _ => trivial
     ·trivial
    ·exact ⟨fun o vs e => ⟨vs, e, rfl⟩, trivial⟩
  ·trivial
theorem yE (env : Env) : K2 (PySem.frameOf env) := by
 unfold PySem.frameOf frameEnvs
 refine K2.bind (fun st => trivial) fun es => K2.bind ?_ fun o => ?_
 ·unfold frameObject
  split
  ·trivial
  ·exact K2.bind (xU _) fun _ => trivial
 ·split <;> trivial
theorem Cn (a b c d f : Value) (p : List Value) : K2 (EntryCells.newEntry a b c d f p) := by
 unfold EntryCells.newEntry newFields newObj
 dsimp only
 have nw : ∀ d : Data, K2 (newObjAsIs (Ye "traceback") d) := fun d => by
  unfold newObjAsIs
  exact K2.bind (fun a => trivial) fun a => trivial
 generalize ([a, b, c, d, f] ++ if p.isEmpty = true then vd 6 Zn else p).toArray = l
 split
 ·exact K2.bind trivial fun _ => nw _
 ·exact nw _
theorem CD (f : Addr) (b : Bool) : K2 (entryPlaceOf f b) := by
 unfold entryPlaceOf
 refine K2.bind (fun st => trivial) fun st => ?_
 split <;> trivial
theorem Ab (e : Value) (env : Env) : K2 (noteFrame e env) := by
 unfold noteFrame
 split
 ·refine K2.bind (oK _ _) fun hd => ?_
  have jp : ∀ f : Addr, K2 (do let a <- PySem.frameOf env; let b <- entryPlaceOf f (hd != Zn); let c <- EntryCells.newEntry hd a Zn (rawInt f) Zn b; setField e 1 c) := fun f => K2.bind (yE _) fun a => K2.bind (CD _ _) fun b => K2.bind (Cn ..) fun c => jT _ (by decide) _
  dsimp only
  split
  ·refine K2.bind (oK _ _) fun x => ?_
   split
   ·trivial
   ·exact K2.bind (jT _ (by decide) _) fun _ => jp _
  ·exact jp _
 ·trivial
theorem pE (e : Value) (fr : Option Addr) : K2 (setFlight e fr) := by
 unfold setFlight
 refine K2.bind (oK _ _) fun tb => ?_
 split
 ·exact jT _ (by decide) _
 ·trivial
theorem sx (env : Env) (e : Value) : K2 (leaving env e) := by
 unfold leaving
 exact K2.bind (Ab _ _) fun _ => pE _ _
theorem eG {α : Type} {M : Model} {A : Around} {e : Addr} {t : Sem α} {Q : α -> Shared -> Prop} {E : Value -> Shared -> Prop} {s : Shared} (k : K2 t) (f : F2 s.heap e) (h : wpAny M A t (fun a s' => F2 s'.heap e -> Q a s') E s) : wpAny M A t Q E s :=
 Zr (BM k f h) (fun _ _ q => q.1 q.2) (fun _ _ q => q.1)
end L2
namespace L2
open PySem PySem.Spec PyProof.Rows
theorem ObjOk.at_ {P : Program} {w : World} {H : Hp} {h : Heap} {a : Addr} {o : HO} (x : ObjOk P w H h a o) : ∃ ob, h.get? a = some ob := by
 cases o with
 | lst xs => obtain ⟨_, _, _, _, e⟩ := x; exact ⟨_, e⟩
 | tup xs => obtain ⟨_, _, _, ob, e, _⟩ := x; exact ⟨_, e⟩
 | dK kvs => obtain ⟨_, _, _, _, o, _, _, e, _⟩ := x; exact ⟨_, e⟩
 | dT kvs => obtain ⟨_, _, _, _, o, _, _, e, _⟩ := x; exact ⟨_, e⟩
 | set S n => obtain ⟨o, _, _, _, e, _⟩ := x; exact ⟨_, e⟩
 | ins C dx fs => obtain ⟨_, _, _, e, _⟩ := x; exact ⟨_, e⟩
 | own y => obtain ⟨_, e⟩ := x; exact ⟨_, e⟩
 | xd fs => obtain ⟨_, ⟨_, _, _, e, _⟩, _⟩ := x; exact ⟨_, e⟩
 | rng lo hi => obtain ⟨_, _, _, e⟩ := x; exact ⟨_, e⟩
 | frz ob u => obtain ⟨e, _⟩ := x; exact ⟨_, e⟩
 | tbl ps => exact ⟨_, (show h.get? a = some _ from x)⟩
 | met f y => exact ⟨_, (show h.get? a = some _ from x)⟩
 | ext φ => obtain ⟨_, ⟨_, e⟩, _⟩ := x; exact ⟨_, e⟩
theorem HOk.none_of {P : Program} {w : World} {H : Hp} {h : Heap} {a : Addr} (x : HOk P w H h) (e : h.get? a = none) : H a = none := by
 cases q : H a with
 | none => rfl
 | some u =>
  obtain ⟨ob, z⟩ := (x a u q).at_
  rw [e] at z; cases z
def hid (h : Heap) (l : List Env) (rs : List Addr) : Heap := PySem.W.hideAll h (frs l ++ rs)
theorem oP {h : Heap} {l : List Env} {rs : List Addr} {b : Addr} {o : Obj} (e : h.get? b = some o) (h1 : b ∉ frs l) (h2 : b ∉ rs) : (hid h l rs).get? b = some o :=
 PySem.W.hideAll_get _ e fun z => (uO.mp z).elim h1 h2
theorem yQ {h : Heap} {l : List Env} {rs : List Addr} {b : Addr} {o : Obj} (e : (hid h l rs).get? b = some o) : h.get? b = some o := PySem.W.of_hideAll _ e
theorem vW {h : Heap} {l : List Env} {rs : List Addr} {b : Addr} (e : b ∈ rs) : (hid h l rs).get? b = none := PySem.W.hideAll_none _ (Zu _ e)
theorem mY {h base : Heap} {l : List Env} {rs : List Addr} (e : h.FunFrames base l) : h.FunFrames (hid h l rs) l :=
 PySem.W.funFrames_hide e fun _ he _ ha => YG _ (List.mem_filterMap.mpr ⟨_, he, ha⟩)
def Fly (l : List Env) (rs : List Addr) (e : Addr) (cls : Value) (h : Heap) : Prop := e ∈ rs /\ ∃ a0, Heap.FlyingW (hid h l rs) l e cls a0 h /\ F2 h e
def XE (P : Program) (w : World) : CXT := fun outer H s E ev s' => ∃ (e : Addr) (C : Value) (rs : List Addr) (H' : Hp), ev = .ref e /\ s'.os = s.os /\ AllBare s'.gens /\ Un (frs outer) [] H H' s.heap s'.heap /\
 HOk P w H' s'.heap /\ (∀ b ∈ rs, s.heap.get? b = none /\ H' b = none) /\ Fly outer rs e C s'.heap /\ E C none H'
section
variable {X : Cx} {pins : List (Addr × Obj)} {σ : St} {H : Hp} {s : Shared} {h' : Heap} {rs : List Addr}
theorem Inv.s0_none (I : Inv X pins σ H s) (hex : X.ex = []) {b : Addr} (e : s.heap.get? b = none) : X.s₀.heap.get? b = none := by
 cases q : X.s₀.heap.get? b with
 | none => rfl
 | some o =>
  obtain ⟨o', z⟩ := I.base.there b o q (by rw [hex]; simp)
  rw [e] at z; cases z
theorem Inv.noteUn (I : Inv X pins σ H s) (hex : X.ex = []) (hrs : ∀ b ∈ rs, X.s₀.heap.get? b = none)
 (stay : ∀ b o, s.heap.get? b = some o -> b ∉ frs X.stack -> b ∉ rs -> h'.get? b = some o) (up : s.heap.UpToSlots h') : Un X.fs [] X.H₀ H X.s₀.heap h' := by
 have B := I.base
 rw [hex] at B
 have nrs : ∀ b o, X.s₀.heap.get? b = some o -> b ∉ rs := fun b o e z => by rw [hrs b z] at e; cases e
 have nst : ∀ b o, X.s₀.heap.get? b = some o -> b ∉ X.fs -> b ∉ frs X.stack := fun b o e hb z => by
  rcases ve.mp (I.stkSub b z) with q | q
  ·exact absurd (uW (xw e) I.ok.above) (by rw [q]; exact ZR _)
  ·exact hb q
 refine ⟨fun b o q n hb hx => stay b o (B.keep b o q n hb hx) (nst b o q hb) (nrs b o q), fun b o q n hb hx => ?_, fun b o q n hx => B.free b o q n hx, fun b o q hx => ?_, B.tups, B.frzs, B.tbls⟩
 ·obtain ⟨sl, e1⟩ := B.slot b o q n hb hx
  obtain ⟨_, o', ho', hd⟩ := I.funs.mem hb
  rw [e1] at ho'; cases ho'
  obtain ⟨sl', e2⟩ := up b _ e1 hd
  exact ⟨sl', e2⟩
 ·obtain ⟨o', e1⟩ := B.there b o q hx
  by_cases hb : b ∈ frs X.stack
  ·obtain ⟨_, o2, ho2, hd⟩ := I.stack.mem hb
   obtain ⟨sl', e2⟩ := up b _ ho2 hd
   exact ⟨_, e2⟩
  ·exact ⟨o', stay b o' e1 hb (nrs b o q)⟩
theorem Inv.noteOk (I : Inv X pins σ H s) (hrs : ∀ b ∈ rs, H b = none) (stay : ∀ b o, s.heap.get? b = some o -> b ∉ frs X.stack -> b ∉ rs -> h'.get? b = some o) : HOk X.prog X.w H h' := fun a o e =>
 (I.hok a o e).stay (fun b u hb q => stay b u q (fun z => by
  have n := I.stkFree b z
  rcases hb with r | r
  ·rw [r, e] at n; cases n
  ·rw [r] at n; cases n) fun z => by
  have n := hrs b z
  rcases hb with r | r
  ·rw [r, e] at n; cases n
  ·rw [r] at n; cases n) (fun _ q => q) fun _ _ q => q
theorem zn {base : Heap} {l : List Env} {h h1 : Heap} {T : Addr} {oT : Obj} {ts : Array Value} (hl : h.FunFrames base l) (up : h.UpToSlots h1) (e : (hid h l rs).get? T = none) (hT : h1.get? T = some oT) (hd : oT.data = .fields ts) : h.get? T = none \/ T ∈ rs := by
 by_cases hr : T ∈ rs
 ·exact .inr hr
 ·refine .inl ?_
  cases q : h.get? T with
  | none => rfl
  | some o =>
   by_cases hf : T ∈ frs l
   ·obtain ⟨_, o2, ho2, hnf⟩ := hl.mem hf
    rw [q] at ho2; cases ho2
    obtain ⟨sl, e2⟩ := up T o q hnf
    rw [hT] at e2; cases e2
    exact absurd hd (hnf ts)
   ·rw [oP q hf hr] at e; cases e
end
section
variable {P : Program} {w : World} {K : W.Frag} {mg : Str -> Option Value} {base : Heap} {N : List Str} {qual : Str} {scope : Scope} {f : Addr} {cd : Value} {A : Around} {outer : List Env} {s₀ : Shared} {H₀ : Hp} {E : XK}
theorem zg {pins : List (Addr × Obj)} {σ : St} {H : Hp} {s : Shared} {h' : Heap} {e : Addr} {cls : Value} {args : List Value}
 (I : Inv (cO (XE P w) P w K mg base N qual scope f cd A outer s₀ H₀ E) pins σ H s) (hx : Heap.MadeExcOf s.heap h' e cls args) (q : E cls none H) :
 (cO (XE P w) P w K mg base N qual scope f cd A outer s₀ H₀ E).xe (.ref e) { s with heap := h' } := by
 show wpAny (model P w) (A.deeper (envOfC qual scope s₀.heap.objs.size f cd)) (leaving (envOfC qual scope s₀.heap.objs.size f cd) (.ref e)) (fun _ s'' => XE P w outer H₀ s₀ E (.ref e) s'') (fun e' s'' => XE P w outer H₀ s₀ E e' s'') { s with heap := h' }
 have hst : s.heap.FunFrames base (envOfC qual scope s₀.heap.objs.size f cd :: outer) := I.stack
 have g0 : F2 h' e := by
  obtain ⟨t, he, _, _⟩ := hx.there
  exact ⟨_, _, he, rfl, rfl⟩
 refine eG (e := e) (sx _ _) g0 (wpAny_leaves_madeW (base := hid s.heap (envOfC qual scope s₀.heap.objs.size f cd :: outer) []) (h := s.heap) I.ok.frames rfl (fun b o z => yQ z) (mY hst) hx fun h'' t fl tup tn up g2 => ?_)
 obtain ⟨f1, f2, f3, oe, vs, T, oT, ts, he, hc, hd, h1, hnT, hTe, hT, hdT, h3⟩ := fl
 have up' : s.heap.UpToSlots h'' := (Heap.UpToSlots.of_keeps hx.keeps).trans up
 have nT : s.heap.get? T = none := (zn hst up' hnT hT hdT).elim id fun z => nomatch z
 have stay : ∀ b o, s.heap.get? b = some o -> b ∉ frs (envOfC qual scope s₀.heap.objs.size f cd :: outer) -> b ∉ [e, T] -> h''.get? b = some o := fun b o z hb _ => f1 b o (oP z hb fun y => nomatch y)
 have n0 : ∀ b ∈ [e, T], s.heap.get? b = none := fun b hb => by
  rcases ve.mp hb with r | r
  ·rw [r]; exact hx.new
  ·rw [zY.mp r]; exact nT
 have n1 : ∀ b ∈ [e, T], s₀.heap.get? b = none := fun b hb => I.s0_none rfl (n0 b hb)
 have n2 : ∀ b ∈ [e, T], H b = none := fun b hb => I.hok.none_of (n0 b hb)
 refine ⟨e, cls, [e, T], H, rfl, I.os, I.bare, I.noteUn rfl n1 stay up', I.noteOk n2 stay, fun b hb => ⟨n1 b hb, n2 b hb⟩, ⟨.head _, .ref t, ?_, g2⟩, q⟩
 exact ⟨fun b o z => yQ z, vW (.head _), mY f3, oe, vs, T, oT, ts, he, hc, hd, h1, vW (.tail _ (.head _)), hTe, hT, hdT, h3⟩
abbrev XKs := St -> XK
def dE (CX : CXT) (X : Cx) (E : XKs) : Prop := ∀ (pins : List (Addr × Obj)) (σ : St) (H : Hp) (s : Shared) (e : Value) (s' : Shared), Inv X pins σ H s -> CX X.stack H s (E σ) e s' -> X.xe e s'
def B7 (X : Cx) (E : XKs) : Prop := ∀ (pins : List (Addr × Obj)) (σ : St) (H : Hp) (s : Shared) (h' : Heap) (e : Addr) (cls : Value) (args : List Value), Inv X pins σ H s -> Heap.MadeExcOf s.heap h' e cls args -> E σ cls none H -> X.xe (.ref e) { s with heap := h' }
theorem eR : B7 (cO (XE P w) P w K mg base N qual scope f cd A outer s₀ H₀ E) (fun _ => E) := fun _ _ _ _ _ _ _ _ I hx q => zg I hx q
theorem aQ : dE (XE P w) (cO (XE P w) P w K mg base N qual scope f cd A outer s₀ H₀ E) (fun _ => E) := by
 intro pins σ H s ev s' I hq
 obtain ⟨e, C, rs, H', rfl, os, bare, un, hok, hrs, ⟨her, a0, fl, g0⟩, q⟩ := hq
 have J : Inv (cO (XE P w) P w K mg base N qual scope f cd A outer s₀ H₀ E) pins σ H' s' := I.call' os un hok bare (fun b z => nomatch z)
 show wpAny (model P w) (A.deeper (envOfC qual scope s₀.heap.objs.size f cd)) (leaving (envOfC qual scope s₀.heap.objs.size f cd) (.ref e)) (fun _ s'' => XE P w outer H₀ s₀ E (.ref e) s'') (fun e' s'' => XE P w outer H₀ s₀ E e' s'') s'
 have hst : s'.heap.FunFrames base (envOfC qual scope s₀.heap.objs.size f cd :: outer) := J.stack
 refine eG (e := e) (sx _ _) g0 (wpAny_leaves_onW (base := hid s'.heap (envOfC qual scope s₀.heap.objs.size f cd :: outer) rs) I.ok.frames rfl fl fun h'' fl' up g2 => ?_)
 obtain ⟨f1, f2, f3, oe, vs, T, oT, ts, he, hc, hd, h1, hnT, hTe, hT, hdT, h3⟩ := fl'
 have nT := zn hst up hnT hT hdT
 have stay : ∀ b o, s'.heap.get? b = some o -> b ∉ frs (envOfC qual scope s₀.heap.objs.size f cd :: outer) -> b ∉ T :: rs -> h''.get? b = some o := fun b o z hb hr => f1 b o (oP z hb fun y => hr (.tail _ y))
 have n1 : ∀ b ∈ T :: rs, s₀.heap.get? b = none := fun b hb => by
  rcases ve.mp hb with r | r
  ·rw [r]
   rcases nT with z | z
   ·exact J.s0_none rfl z
   ·exact I.s0_none rfl (hrs T z).1
  ·exact I.s0_none rfl (hrs b r).1
 have n2 : ∀ b ∈ T :: rs, H' b = none := fun b hb => by
  rcases ve.mp hb with r | r
  ·rw [r]
   rcases nT with z | z
   ·exact hok.none_of z
   ·exact (hrs T z).2
  ·exact (hrs b r).2
 refine ⟨e, C, T :: rs, H', rfl, J.os, J.bare, J.noteUn rfl n1 stay up, J.noteOk n2 stay, fun b hb => ⟨n1 b hb, n2 b hb⟩, ⟨.tail _ her, a0, ?_, g2⟩, q⟩
 exact ⟨fun b o z => yQ z, vW (.tail _ her), mY f3, oe, vs, T, oT, ts, he, hc, hd, h1, vW (.head _), hTe, hT, hdT, h3⟩
end
def BZ (sp : Sp) (dvs : List V) (E : XKs) (t : TA) : TE := fun σ H Q => t σ H fun vs H1 => sp (vs ++ dvs) H1 Q (E σ)
section
variable {X : Cx} {CX : CXT} {k : Nat} {f C : Addr} {fd : FuncData} {ps : List Str} {sp : Sp} {dvs : List V} {ds : List Value} {E : XKs} {x m : Str} {p pos apos : Pos} {e o : Expr} {es : List Expr} {ta : TE} {t : TA}
theorem vz {pins : List (Addr × Obj)} {σ : St} {H : Hp} {s : Shared} {Q : VK} {us : List Value} {vs : List V} (F : bz X.prog X.w X.K X.mg X.base CX k f fd ps sp) (hr : Room k X.A) (hb : Binds X.K fd ps ds) (hd : Vals dvs ds) (hx : dE CX X E)
 (I : Inv X pins σ H s) (r : Vals vs us) (h : sp (vs ++ dvs) H Q (E σ)) : wpAny (model X.prog X.w) X.A (call (.ref f) us) (EP X pins σ Q) X.xe s := by
 have r2 : Vals (vs ++ dvs) (us ++ ds) := r.append hd
 have hl : (us ++ ds).length = ps.length := by rw [<- r2.length]; exact F.len _ _ _ _ h
 refine wpAny_call (codeAny_mono (F.run X.A X.stack s H ⟨us, []⟩ (us ++ ds) (vs ++ dvs) Q (E σ) hr I.env0 (hb s us I.kIn hl) r2 h) fun r s' hq => ?_)
 cases r with
 | error e => exact hx pins σ H s e s' I hq
 | ok fl =>
  cases fl with
  | ret u => exact I.after hq
  | next => exact ZV hq
  | brk => exact ZV hq
  | cont => exact ZV hq
theorem au (F : bz X.prog X.w X.K X.mg X.base CX k f fd ps sp) (hr : Room k X.A) (hg : Gl X x) (hm : X.mg x = some (.ref f)) (hk : Yz X.K (.ref f) = true) (hb : Binds X.K fd ps ds) (hd : Vals dvs ds) (hx : dE CX X E)
 (ha : PA X (e :: es) t) (hdb : (x == ("__debug__" : Str)) = false := by decide) (he : starEach (e :: es) X.env = (false, eval e X.env) :: starEach es X.env := by rfl) (hpl : (backTo pos (starEach es X.env)).any (·.1) = false := by rfl) :
 PE X (.Call (.Name x p) (e :: es) [] pos) (BZ sp dvs E t) := by
 intro pins s σ H Q I h
 refine ZF (il I hg hm ?_ hdb)
 refine Y5 (h₀ := X.base) I.ok.mod.kin hk (thn (ha pos pins s σ H _ I h) fun us s1 ⟨vs, H1, I1, r, q⟩ => ⟨I1.kIn, ?_⟩) he hpl
 exact vz F hr hb hd hx I1 r q
end
section
variable {P : Program} {w : World} {K : W.Frag} {mg : Str -> Option Value} {base : Heap}
theorem Fun.okX {x qual : Str} {st : Stmt} {f : Addr} {fd : FuncData} {N ps : List Str} {k : Nat} {sp : Sp} (F : Fun K x qual st f fd) (S : aK N ps (af st)) (len : ∀ vs H Q E, sp vs H Q E -> vs.length = ps.length)
 (hbody : ∀ (cdv : Value) (A : Around) (outer : List Env) (s : Shared) (H : Hp) (vs : List V) (Q : VK) (E : XK), Room k (A.deeper (envOfC qual (af st) s.heap.objs.size f cdv)) -> sp vs H Q E ->
  ∃ t, PSs (cO (XE P w) P w K mg base N qual (af st) f cdv A outer s H E) (aw st) t /\ t { nx := fun _ H' => Q .non H', rt := Q } (eF N vs) H) : bz P w K mg base (XE P w) (k + 1) f fd ps sp := by
 obtain ⟨oc, od, kV, doc, pm, an, cdv, ct, osl, rfl, lk, hcd⟩ := F.ex
 exact GB lk hcd S len fun A outer s H vs Q E hr hsp => hbody cdv A outer s H vs Q E hr hsp
end
theorem DW {K : W.Frag} {h : Heap} {C : Addr} {bmB : List Value} {newId : String} (X : K.In h) (q : PySem.W.excIn K C bmB newId = true) :
 ∃ bm N nm qn bs hdct sn sub ab col dd k0 k1 k2 k3 k5 mN, h.get? C = some (excClassObj nm qn C N bs bm hdct sn sub ab col dd k0 k1 k2 k3 k5 newId) /\ h.Ns N mN /\ mN "__init__" = none /\ OwnTail h bmB bm := by
 unfold PySem.W.excIn at q
 split at q
 ·rename_i dd cd sl ho
  split at q
  ·rename_i C' bm k0 k1 k2 k3 n k5 hm hs
   simp only [ZO, beq_iff_eq, Bool.not_eq_true'] at q
   obtain ⟨⟨⟨⟨⟨rfl, rfl⟩, hdel⟩, ht⟩, hok⟩, hni⟩ := q
   obtain ⟨nm, bs, mro, ns, qn, hd, sn, sub, ab, col, del⟩ := cd
   dsimp only at hm hdel hok hni
   subst hm hdel
   have hsl : sl = #[k0, k1, k2, k3, some (.builtin n), k5] := by
    obtain ⟨l⟩ := sl
    simp only at hs
    rw [hs]
   subst hsl
   exact ⟨bm, ns, nm, qn, bs, hd, sn, sub, ab, col, dd, k0, k1, k2, k3, k5, _, X _ _ ho, .of_isNs (PySem.W.isNs_of_in X hok), PySem.W.nsMap_none_of_in X hok hni, PySem.W.tail_of_in X ht⟩
  ·cases q
 ·cases q
def Ch (C : Addr) (E : XKs) (t : TA) : TS := fun _ σ H => t σ H fun vs H1 => vs.length <= sizeLine /\ E σ (.ref C) none H1
theorem dO {X : Cx} {x : Str} {C : Addr} {bmB : List Value} {B newId initId : String} {E : XKs} {e : Expr} {es : List Expr} {t : TA} {np cpos pos : Pos} (O : PySem.W.excIn X.K C bmB newId = true) (FB : ExcBaseFacts B newId initId bmB)
 (hc : X.calm = true) (hg : Gl X x) (hm : X.mg x = some (.ref C)) (hx : B7 X E) (ha : PA X (e :: es) t) (hdb : (x == ("__debug__" : Str)) = false := by decide)
 (he : starEach (e :: es) X.env = (false, eval e X.env) :: starEach es X.env := by rfl) (hpl : (backTo cpos (starEach es X.env)).any (·.1) = false := by rfl) :
 PS X (.Raise (some (.Call (.Name x np) (e :: es) [] cpos)) none pos) (Ch C E t) := by
 intro pins s σ H D I h
 obtain ⟨tl, N, nm, q, bs, hdct, sn, sub, ab, col, dd, k0, k1, k2, k3, k5, mN, hC, hN, hni, T⟩ := DW I.mod.kin O
 refine wpAny_Raise_call_subT (C := C) (nm := nm) (q := q) (N := N) (bs := bs) (bm := tl) (hdct := hdct) (sn := sn) (sub := sub) (ab := ab) (col := col) (dd := dd) (k0 := k0) (k1 := k1) (k2 := k2) (k3 := k3) (k5 := k5)
  FB (mN := mN) (T.hasType FB.hasBase) (I.ok.hd hc) (by rw [he]; show (false || (backTo cpos (starEach es X.env)).any (·.1)) = false; rw [hpl]; rfl) hni (il I hg hm ⟨rfl, ?_⟩ hdb)
 have hA := ha cpos pins s σ H _ I h
 rw [he] at hA |-
 refine YF (thn hA fun us s1 ⟨vs, H1, I1, r, hz, q1⟩ => ⟨rfl, by rw [<- r.length]; exact hz, I1.bk _ _ hC, hN.keeps I1.bk, T.keeps I1.bk, fun h' e' hm' => ?_⟩)
 exact hx pins σ H1 s1 h' e' (.ref C) us I1 hm' q1
end L2
namespace L2
open PySem PySem.Spec PyProof.Rows
section
variable {X : Cx} {pins : List (Addr × Obj)} {σ : St} {H : Hp} {s : Shared} {h' : Heap} {rs : List Addr}
theorem Inv.noted {t' : Nat} (I : Inv X pins σ H s) (hrs : ∀ b ∈ rs, X.s₀.heap.get? b = none /\ H b = none) (hpin : ∀ p ∈ X.pn ++ pins, p.1 ∉ rs)
 (stay : ∀ b o, s.heap.get? b = some o -> b ∉ frs X.stack -> b ∉ rs -> h'.get? b = some o) (up : s.heap.UpToSlots h') : Inv X pins σ H { s with heap := h', toks := t' } := by
 have B := I.base
 have cellK : ∀ c v, s.heap.IsCell c v -> h'.IsCell c v := fun c v ⟨o, ho, hd⟩ => by
  obtain ⟨sl, e⟩ := up c o ho fun vs q => by rw [hd] at q; cases q
  exact ⟨_, e, hd⟩
 have nrs : ∀ b o, X.s₀.heap.get? b = some o -> b ∉ rs := fun b o e z => by rw [(hrs b z).1] at e; cases e
 have nst : ∀ b o, X.s₀.heap.get? b = some o -> b ∉ X.fs -> b ∉ frs X.stack := fun b o e hb z => by
  rcases ve.mp (I.stkSub b z) with q | q
  ·exact absurd (uW (xw e) I.ok.above) (by rw [q]; exact ZR _)
  ·exact hb q
 refine ⟨I.ok, I.os, I.bare, ⟨fun b o q n hb hx => stay b o (B.keep b o q n hb hx) (nst b o q hb) (nrs b o q), fun b o q n hb hx => ?_, fun b o q n hx => B.free b o q n hx, fun b o q hx => ?_, B.tups, B.frzs, B.tbls⟩, ?_, fun x c e => ?_, I.free, I.freeC, fun p hp => ?_, I.noteOk (fun b hb => (hrs b hb).2) stay, I.len⟩
 ·obtain ⟨sl, e1⟩ := B.slot b o q n hb hx
  obtain ⟨_, o', ho', hd⟩ := I.funs.mem hb
  rw [e1] at ho'; cases ho'
  obtain ⟨sl', e2⟩ := up b _ e1 hd
  exact ⟨sl', e2⟩
 ·obtain ⟨o', e1⟩ := B.there b o q hx
  by_cases hb : b ∈ frs X.stack
  ·obtain ⟨_, o2, ho2, hd⟩ := I.stack.mem hb
   obtain ⟨sl', e2⟩ := up b _ ho2 hd
   exact ⟨_, e2⟩
  ·exact ⟨o', stay b o' e1 hb (nrs b o q)⟩
 ·obtain ⟨m, hn, hl⟩ := I.loc
  refine ⟨m, up.ns hn, fun i x v e1 e2 e3 => ?_⟩
  obtain ⟨u, r, l⟩ := hl i x v e1 e2 e3
  refine ⟨u, r, ?_⟩
  rcases l with l | ⟨k, c, e, z⟩
  ·exact .inl l
  ·exact .inr ⟨k, c, e, cellK c _ z⟩
 ·obtain ⟨v, z⟩ := I.cell x c e
  exact ⟨v, cellK c v z⟩
 ·obtain ⟨e, n, ne, nf, d⟩ := I.pin p hp
  exact ⟨stay p.1 p.2 e (fun z => (ve.mp (I.stkSub _ z)).elim ne nf) (hpin p hp), n, ne, nf, d⟩
theorem Inv.track {a : Addr} {o : HO} (I : Inv X pins σ H s) (hn : H a = none) (h0 : X.s₀.heap.get? a = none) (hL : a ≠ X.env.locals) (hc : ∀ x c, X.env.cells.lookup x = some c -> c ≠ a) (hp : ∀ p ∈ X.pn ++ pins, p.1 ≠ a)
 (new : ObjOk X.prog X.w (upd H a o) s.heap a o) : Inv X pins σ (upd H a o) s := by
 have B := I.base
 refine ⟨I.ok, I.os, I.bare, ⟨B.keep, B.slot, fun b ob q n hx => ?_, B.there, fun b xs q => ?_, fun b ob xs q => ?_, fun b ps q => ?_⟩, I.loc, I.cell, ?_, fun x c e => ?_, fun p hp' => ?_, fun b u e => ?_, I.len⟩
 ·have : b ≠ a := fun z => by rw [z, h0] at q; cases q
  rw [ay this]; exact B.free b ob q n hx
 ·have e := B.tups b xs q
  rw [ay (ar e hn)]; exact e
 ·have e := B.frzs b ob xs q
  rw [ay (ar e hn)]; exact e
 ·obtain ⟨m, e⟩ := B.tbls b ps q
  exact ⟨m, by rw [ay (ar e hn)]; exact e⟩
 ·rw [ay (Ne.symm hL)]; exact I.free
 ·rw [ay (hc x c e)]; exact I.freeC x c e
 ·obtain ⟨e, n, ne, nf, d⟩ := I.pin p hp'
  exact ⟨e, by rw [ay (hp p hp')]; exact n, ne, nf, d⟩
 ·by_cases hb : b = a
  ·subst hb
   rw [al] at e
   cases e
   exact new
  ·rw [ay hb] at e
   refine (I.hok b u e).stay (fun c v _ q => q) (fun c q => ?_) fun c xs q => ?_
   ·rw [ay (ar q hn)]; exact q
   ·rw [ay (ar q hn)]; exact q
theorem Cx.Ok.re (ok : X.Ok) (A' : Around) (hf : A'.frames = X.A.frames) (cm : Bool) (hh : cm = true -> A'.handled = none) (pn : List (Addr × Obj)) (xe : Value -> Shared -> Prop) : ({ X with A := A', calm := cm, pn := pn, xe := xe } : Cx).Ok :=
 ⟨ok.mod, ok.kind, ok.glob, ok.blt, ok.above, ok.inj, ok.has, ok.cab, hh, hf.trans ok.frames, ok.stk, ok.exf, ok.bs, ok.bsz, ok.noex, ok.exfs, ok.funs, ok.frf⟩
theorem Inv.toPn (I : Inv X pins σ H s) (xe : Value -> Shared -> Prop) : Inv { X with pn := X.pn ++ pins, xe := xe } [] σ H s :=
 ⟨I.ok.re X.A rfl X.calm I.ok.hd _ _, I.os, I.bare, I.base, I.loc, I.cell, I.free, I.freeC, fun p hp => I.pin p (by rw [YV] at hp; exact hp), I.hok, I.len⟩
theorem Inv.ofPn {xe : Value -> Shared -> Prop} {pins' : List (Addr × Obj)} (ok : X.Ok) (I : Inv { X with pn := X.pn ++ pins, xe := xe } pins' σ H s) : Inv X pins σ H s :=
 ⟨ok, I.os, I.bare, I.base, I.loc, I.cell, I.free, I.freeC, fun p hp => I.pin p (YG _ hp), I.hok, I.len⟩
abbrev Cx.caught (X : Cx) (e : Addr) : Cx := { X with A := X.A.mark (some (.ref e)), calm := false, pn := X.pn, xe := fun _ _ => False }
theorem Inv.toCaught (I : Inv X pins σ H s) (e : Addr) : Inv (X.caught e) pins σ H s :=
 ⟨I.ok.re (X.A.mark (some (.ref e))) rfl false (fun z => nomatch z) _ _, I.os, I.bare, I.base, I.loc, I.cell, I.free, I.freeC, I.pin, I.hok, I.len⟩
theorem Inv.ofCaught {e : Addr} (ok : X.Ok) (I : Inv (X.caught e) pins σ H s) : Inv X pins σ H s :=
 ⟨ok, I.os, I.bare, I.base, I.loc, I.cell, I.free, I.freeC, I.pin, I.hok, I.len⟩
theorem lg {M : Model} {A : Around} {E : Value -> Shared -> Prop} {i : Nat} {n : Str} {pos : Pos} {Q : Unit -> Shared -> Prop} (I : Inv X pins σ H s) (hN : X.N.Nodup) (hi : X.N[i]? = some n) (hk : X.env.kindOf n = some .local)
 (h : ∀ s', Inv X pins (σ.set i none) H s' -> Q () s') : wpAny M A (do bindName X.env n .none; unbindBehindTheSuite X.env n pos) Q E s := by
 obtain ⟨m, hn, hl⟩ := id I.loc
 have hcls : (X.env.scope.kind == .class || (X.env.scope.kind == .module && X.env.locals != X.env.globals)) = false := by rw [I.ok.kind]; rfl
 have cne := I.cne
 refine wpAny_nameGoes_keeps hk hn hcls fun h' v hn' hs => ?_
 obtain ⟨oL, _, _, hoL, _⟩ := id hn
 refine h _ ⟨I.ok, I.os, I.bare, ⟨fun b o e n hb hx => ?_, fun b o e n hb hx => ?_, I.base.free, fun b o e hx => ?_, I.base.tups, I.base.frzs, I.base.tbls⟩, ⟨_, hn', fun j y v' e1 e2 e3 => ?_⟩, fun y c e => ?_, I.free, I.freeC, fun p hp => ?_, fun b ob e => ?_, by simpa using I.len⟩
 ·exact (hs.2 b (uZ (uW (xw e) I.ok.above))).trans (I.base.keep b o e n hb hx)
 ·obtain ⟨sl, e1⟩ := I.base.slot b o e n hb hx
  exact ⟨sl, (hs.2 b (uZ (uW (xw e) I.ok.above))).trans e1⟩
 ·obtain ⟨o', e1⟩ := I.base.there b o e hx
  exact ⟨o', (hs.2 b (uZ (uW (xw e) I.ok.above))).trans e1⟩
 ·by_cases hj : j = i
  ·subst hj
   rw [List.getElem?_set] at e2
   simp at e2
  ·rw [List.getElem?_set_ne (Ne.symm hj)] at e2
   obtain ⟨u', r', q⟩ := hl j y v' e1 e2 e3
   refine ⟨u', r', ?_⟩
   rcases q with ⟨k, e⟩ | ⟨k, c, e, z⟩
   ·refine .inl ⟨k, ?_⟩
    have : y ≠ n := fun e => hj (rF hN e1 (e ▸ hi))
    simp [this, e]
   ·exact .inr ⟨k, c, e, z.sameBut hs (cne y c e)⟩
 ·obtain ⟨w', z⟩ := I.cell y c e
  exact ⟨w', z.sameBut hs (cne y c e)⟩
 ·obtain ⟨e, n, ne, nf, d⟩ := I.pin p hp
  exact ⟨(hs.2 p.1 ne).trans e, n, ne, nf, d⟩
 ·refine (I.hok b ob e).stay (fun c w' hc q => (hs.2 c ?_).trans q) (fun _ q => q) fun _ _ q => q
  rintro rfl
  rcases hc with rfl | hc
  ·rw [I.free] at e; cases e
  ·rw [I.free] at hc; cases hc
end
theorem wv {M : Model} {A : Around} {E : Value -> Shared -> Prop} {s : Shared} {K : W.Frag} {e C D : Addr} {oe : Obj} {Q : Bool -> Shared -> Prop} (X : K.In s.heap) (he : s.heap.get? e = some oe) (hcls : oe.cls = .ref C)
 (hx : ZZ K (.ref C) (.ref D) = some true) (h : Q true s) : wpAny M A (excMatches (.ref e) (.ref D)) Q E s :=
 (PySem.W.exm_one (M := M) X (hcls ▸ (PySem.W.Looks.ld he).andThen .now) hx).here h
def cR (C : Value) (e : Addr) : HO := HO.ext fun h => ∃ o vs, h.get? e = some o /\ o.cls = C /\ o.data = .fields vs /\ vs[2]? = some .none
def BF (K : W.Frag) (CH : Addr) (i : Nat) (tb : XKs -> TS) (th : Addr -> TS) : TS := fun D σ H =>
 tb (fun σ' C _ H' => ∃ Ce, C = .ref Ce /\ ZZ K (.ref Ce) (.ref CH) = some true /\ ∀ e, H' e = none ->
  th e { nx := fun σ2 H2 => D.nx (σ2.set i none) H2, rt := D.rt, bk := fun σ2 H2 => D.bk (σ2.set i none) H2, ct := fun σ2 H2 => D.ct (σ2.set i none) H2 } (σ'.set i (some (.ref e))) (upd H' e (cR (.ref Ce) e))) D σ H
theorem vV {X : Cx} {CH : Addr} {i : Nat} {n x : Str} {np hpos pos : Pos} {body suite : List Stmt} {b₀ : Stmt} {tb : XKs -> TS} {th : Addr -> TS} (hN : X.N.Nodup) (hi : X.N[i]? = some n) (hk : X.env.kindOf n = some .local)
 (hg : Gl X x) (hm : X.mg x = some (.ref CH))
 (hex : X.ex = []) (hst : X.stack = X.env :: X.outer) (hfr : X.env.frame = some X.env.locals)
 (hb : ∀ (pn : List (Addr × Obj)) (Ee : Value -> Shared -> Prop) (Ex : XKs), dE (XE X.prog X.w) { X with pn := pn, xe := Ee } Ex -> PSs { X with pn := pn, xe := Ee } body (tb Ex))
 (hh : ∀ e : Addr, PSs (X.caught e) (b₀ :: suite) (th e)) (hdb : (x == ("__debug__" : Str)) = false := by decide) :
 PS X (.Try body [.ExceptHandler (some (.Name x np)) (some n) (b₀ :: suite) hpos] [] [] pos) (BF X.K CH i tb th) := by
 intro pins s σ H D I h
 refine wpAny_Try_except ?_
 have ok := I.ok
 refine Zr (hb (X.pn ++ pins) _ _ ?hP [] s σ H D (I.toPn _) h) (fun f s1 hf => ?_) (fun _ _ z => z)
 case hP =>
  intro pins' σ' H1 s1 ev s1' I1 hq
  obtain ⟨e, C, rs, H', rfl, os, bare, un, hok, hrs, ⟨her, a0, fl, g0⟩, ⟨Ce, rfl, hmro, hth⟩⟩ := hq
  have J1 := I1.call' os un hok bare (fun b z => nomatch z)
  have J : Inv X pins σ' H' s1' := J1.ofPn ok
  have I0 : Inv X pins σ' H1 s1 := I1.ofPn ok
  have hn0 : ∀ b ∈ rs, X.s₀.heap.get? b = none /\ H' b = none := fun b hb => by
   refine ⟨?_, (hrs b hb).2⟩
   cases q : X.s₀.heap.get? b with
   | none => rfl
   | some o =>
    obtain ⟨o', z⟩ := I0.base.there b o q (by rw [hex]; simp)
    rw [(hrs b hb).1] at z; cases z
  have hpin : ∀ p ∈ X.pn ++ pins, p.1 ∉ rs := fun p hp z => by
   have := (I0.pin p hp).1
   rw [(hrs _ z).1] at this; cases this
  have hstk : s1'.heap.FunFrames X.base (X.env :: X.outer) := by rw [<- hst]; exact J.stack
  rw [show X.stack = X.env :: X.outer from hst] at fl
  have hfrm : X.A.frames = some (X.env :: X.outer) := by rw [<- hst]; exact ok.frames
  show wpAny (model X.prog X.w) X.A (noteFrame (.ref e) X.env) _ _ s1'
  refine eG (e := e) (Ab _ _) g0 (wpAny_looks_onW (base := hid s1'.heap (X.env :: X.outer) rs) hfrm hfr fl fun h₄ held up4 g4 => ?_)
  refine eG (e := e) (pE _ _) g4 (wpAny_landsW held fun h₅ fl5 up5 g5 => ?_)
  have nin : ∀ b, b ∉ frs X.stack -> b ∉ frs (X.env :: X.outer) := fun b hb => by rw [<- hst]; exact hb
  have stay5 : ∀ b o, s1'.heap.get? b = some o -> b ∉ frs X.stack -> b ∉ rs -> h₅.get? b = some o := fun b o z hb hr => fl5.1 b o (oP z (nin b hb) hr)
  have I5 : Inv X pins σ' H' { s1' with heap := h₅, toks := s1'.toks } := J.noted hn0 hpin stay5 (up4.trans up5)
  obtain ⟨ob, hob, hobc⟩ := fl5.there
  refine wpAny_handleBy_cons (codeAny_handlers_test (il (X := X.caught e) (I5.toCaught e) hg hm (wv I5.kIn hob hobc hmro ?_) hdb)) (by intro q; cases q)
  refine codeAny_handlers_suite_as (eG (e := e) (pE _ _) g5 (lands_againW fl5 fun h₆ fl6 up6 g6 => ?_))
  have stay6 : ∀ b o, s1'.heap.get? b = some o -> b ∉ frs X.stack -> b ∉ rs -> h₆.get? b = some o := fun b o z hb hr => fl6.1 b o (oP z (nin b hb) hr)
  have I6 : Inv X pins σ' H' { s1' with heap := h₆, toks := s1'.toks } := J.noted hn0 hpin stay6 ((up4.trans up5).trans up6)
  have e1 : s1.heap.get? e = none := (hrs e her).1
  obtain ⟨oe, vs, hoe, hoed, ho2⟩ := g6
  have hoec : oe.cls = .ref Ce := by
   obtain ⟨o2, q1, q2⟩ := fl6.there
   rw [hoe] at q1; cases q1; exact q2
  have I6' : Inv X pins σ' (upd H' e (cR (.ref Ce) e)) { s1' with heap := h₆, toks := s1'.toks } := by
   refine I6.track (hrs e her).2 (hn0 e her).1 ?_ ?_ (fun p hp z => hpin p hp (by rw [z]; exact her)) ?_
   ·intro z
    obtain ⟨m, ⟨oL, _, _, hoL, _⟩, _⟩ := I0.loc
    rw [<- z, e1] at hoL; cases hoL
   ·intro x c hc z
    obtain ⟨v, o, ho, _⟩ := I0.cell x c hc
    rw [z, e1] at ho; cases ho
   ·exact ⟨⟨oe, vs, hoe, hoec, hoed, ho2⟩, ⟨oe, hoe⟩, fun h1 h2 ⟨o, ws, a1, a2, a3⟩ k => ⟨o, ws, k o a1, a2, a3⟩⟩
  refine rG (X := X.caught e) (I6'.toCaught e) hN hi (Or.inl hk) (v := .ref e) rfl (fun s7 I7 => ?_) (.inr hk)
  refine Zr (hh e pins s7 _ _ _ I7 (hth e (hrs e her).2)) (fun f s8 hf => ?_) (fun _ _ z => z.elim)
  show wpAny (model X.prog X.w) X.A (do bindName X.env n .none; unbindBehindTheSuite X.env n hpos) (fun _ s₃ => SP X pins D f s₃) X.xe s8
  cases f with
  | next =>
   obtain ⟨σ2, H2, J2, q⟩ := hf
   exact lg (J2.ofCaught ok) hN hi hk fun s9 I9 => ⟨_, _, I9, q⟩
  | brk =>
   obtain ⟨σ2, H2, J2, q⟩ := hf
   exact lg (J2.ofCaught ok) hN hi hk fun s9 I9 => ⟨_, _, I9, q⟩
  | cont =>
   obtain ⟨σ2, H2, J2, q⟩ := hf
   exact lg (J2.ofCaught ok) hN hi hk fun s9 I9 => ⟨_, _, I9, q⟩
  | ret u =>
   obtain ⟨v, σ2, H2, J2, r, q⟩ := hf
   exact lg (J2.ofCaught ok) hN hi hk fun s9 I9 => ⟨v, _, _, I9, r, q⟩
 cases f with
 | next =>
  obtain ⟨σ', H', J, q⟩ := hf
  exact wpAny_execs_nil ⟨σ', H', J.ofPn ok, q⟩
 | brk =>
  obtain ⟨σ', H', J, q⟩ := hf
  exact ⟨σ', H', J.ofPn ok, q⟩
 | cont =>
  obtain ⟨σ', H', J, q⟩ := hf
  exact ⟨σ', H', J.ofPn ok, q⟩
 | ret u =>
  obtain ⟨v, σ', H', J, r, q⟩ := hf
  exact ⟨v, σ', H', J.ofPn ok, r, q⟩
end L2
namespace L2
open PySem PySem.Spec PyProof.Rows PySem.W
inductive Ay : V -> Value -> Prop where
 | ty (n : String) : Ay (.ty n) (.type n)
 | own (a : Addr) : Ay (.ref a) (.ref a)
section
variable {X : Cx}
theorem xV : CallR X (.builtin "isinstance") (fun xs H Q => ∃ x c t u b, xs = [x, c] /\ Ay c u /\ nk X.K H x t /\ rT X.K t u = some b /\ Q (.bl b) H) := by
 intro pins s σ H xs us Q I r h
 obtain ⟨x, c, t, u, b, rfl, rc, ty, e, q⟩ := h
 obtain ⟨ux, uc, rfl, rx, rc'⟩ := zv r
 have ec : uc = u := by
  cases rc with
  | ty n => exact rc'
  | own a => exact rc'
 subst ec
 exact Aw I rx ty e fun tk => ⟨.bl b, H, I.tok _, rfl, q⟩
end
structure cN (K : Frag) (C : Addr) : Prop where
 l1 : findIn K (.ref C) "__getattribute__" = some (some (.builtin "BaseException.__getattribute__"))
 l2 : findIn K (.ref C) "__getattr__" = some none
 l3 : findIn K (.ref C) "__class__" = some (some (.builtin "object.__class__"))
 c1 : (clsIn K C).isSome = true
 m1 : mroIn K C (.type "object") = some true
 m2 : mroIn K C (.type "BaseException") = some true
section
variable {prog : Program} {w : World} {A : Around} {E : Value -> Shared -> Prop} {K : Frag} {e C : Addr} {o : Obj} {s : Shared}
open Builtin Builtin.ObjectAttr Builtin.Getset_descriptor PySem.Calls in
theorem tB {R : Result -> Shared -> Prop} {tp : Value} (X : K.In s.heap) (Z : cN K C) (hx : s.heap.get? e = some o) (hc : o.cls = .ref C)
 (h : R (.ok (.ret (.ref C))) s) : codeAny (model prog w) A (.call (.builtin "getset_descriptor.__get__") ⟨[.builtin "object.__class__", .ref e, tp], []⟩) R s := by
 obtain ⟨hh, g, dr, t, os⟩ := s
 have L0 : Looks (model prog w) hh (typeOf (.ref e)) (.ref C) := hc ▸ (Looks.ld hx).andThen .now
 have L1 := looks_mroIn (M := model prog w) X Z.m1
 refine codeAny_call_builtin KF.slot_gs.plain KF.entry_gs (KF.slot_gs.check _ _ _ _ _ _ _ _ KF.type_class (KF.args_gs _ _ _) ?_)
 unfold Builtin.«getset_descriptor.__get__» descrGet
 rw [dga_obj]
 refine zu (wG ?_)
 unfold descrGetter descrCheckInstance descrNameAndClass isInstance
 simp only [KF.owner_class]
 repeat lk
 refine ⟨Code.quiet_builtin _ (by decide +kernel), codeAny_builtin KF.entry_class ?_⟩
 unfold Builtin.«object.__class__» shownTypeOf
 repeat lk
 exact h
theorem we {M : Model} {nameV : Value} {Q : Unit -> Shared -> Prop} (X : K.In s.heap) (Z : cN K C) (hx : s.heap.get? e = some o) (hc : o.cls = .ref C) (hq : Q () s) :
 wpAny M A (checkBuiltinCall "BaseException.__getattribute__" ⟨[.ref e, nameV], []⟩) Q E s := by
 have hk : builtinKind "BaseException.__getattribute__" = some .slot := by decide +kernel
 have hsplit : splitId "BaseException.__getattribute__" = some ("BaseException", "__getattribute__") := by decide +kernel
 have ha := F.args_bexc_ga (.ref e) nameV
 obtain ⟨hh, g, dr, t, os⟩ := s
 have L0 : Looks M hh (typeOf (.ref e)) (.ref C) := hc ▸ (Looks.ld hx).andThen .now
 have L1 := looks_mroIn (M := M) X Z.m2
 have LI : Looks M hh (isInstance (.ref e) (.type "BaseException")) true := L0.andThen L1
 simp only [checkBuiltinCall, hk, hsplit]
 refine zu (LI.at ?_)
 repeat (first | assumption | wp_step)
theorem vN {tk : Tok} {Q : Fin -> Shared -> Prop} (X : K.In s.heap) (Z : cN K C) (hx : s.heap.get? e = some o) (hc : o.cls = .ref C) (hq : Q (.done (.ret (.ref C))) s) :
 wpAny (model prog w) A (Builtin.«object.__getattribute__» ⟨[.ref e, .str "__class__" tk], []⟩) Q E s := by
 obtain ⟨hh, g, dr, t, os⟩ := s
 have L0 : Looks (model prog w) hh (typeOf (.ref e)) (.ref C) := hc ▸ (Looks.ld hx).andThen .now
 have L3 := looks_findIn (M := model prog w) X Z.l3
 have f5 := KF.type_class
 have f6 := F.slot_gs_get.lookup
 have f7 := F.slot_gs_set.lookup
 repeat (any_goals (first | assumption | with_reducible refine L0.at ?_ | with_reducible refine L3.at ?_ | wp_step))
 refine tB X Z hx hc ?_
 repeat (any_goals (first | assumption | wp_step))
theorem rH {Q : Option Value -> Shared -> Prop} (X : K.In s.heap) (Z : cN K C) (hx : s.heap.get? e = some o) (hc : o.cls = .ref C) (h : Q (some (.ref C)) { s with toks := s.toks + 1 }) :
 wpAny (model prog w) A (getAttr? (.ref e) "__class__") Q E s := by
 obtain ⟨hh, g, dr, t, os⟩ := s
 have L0 : Looks (model prog w) hh (typeOf (.ref e)) (.ref C) := hc ▸ (Looks.ld hx).andThen .now
 have L1 := looks_findIn (M := model prog w) X Z.l1
 have L2 := looks_findIn (M := model prog w) X Z.l2
 have f3 := F.excAttr_ValueError.ga.bind (.ref e)
 have hx2 : (Value.builtin "BaseException.__getattribute__" == Value.builtin "object.__getattribute__") = false := by decide +kernel
 have hx0 : ∀ ex : Bool, (ex && onTheHeap (Value.builtin "BaseException.__getattribute__")) = false := fun ex => by cases ex <;> rfl
 have hx1 : (onTheHeap (xL C) && Value.builtin "BaseException.__getattribute__" == Value.builtin "object.__getattribute__") = false := by rw [hx2]; rfl
 unfold getAttr?
 repeat (any_goals (first | assumption | with_reducible refine L0.at ?_ | with_reducible refine L1.at ?_ | with_reducible refine L2.at ?_ | wp_step))
 refine codeAny_call_builtin F.excAttr_ValueError.ga.plain F.entry_bexc_ga (we X Z hx hc (vN X Z hx hc ?_))
 repeat (any_goals (first | assumption | wp_step))
theorem Cv (Z : cN K C) : KitX K (.ref e) (.ref C) (fun h => ∃ o, h.get? e = some o /\ o.cls = .ref C) where
 ty := fun M h _ ⟨o, h1, h2⟩ => h2 ▸ (Looks.ld h1).andThen .now
 it := fun M h X _ => by
  have c1 := Z.c1
  unfold clsIn at c1
  split at c1
  ·rename_i c' d' cd' sl' ho
   intro A' Q' E' s' k q
   unfold isType loadHead
   exact zu (wpAny_loadPart (k _ _ (X _ _ ho)) (wG q))
  ·cases c1
 ne := fun h tp dd its n sl X htp => by
  refine Bool.eq_false_iff.mpr fun q => ?_
  have e' : C = tp := xL.inj (beq_iff_eq.mp q)
  subst e'
  have c1 := Z.c1
  unfold clsIn at c1
  split at c1
  ·rename_i c' d' cd' sl' ho
   have z := (X _ _ ho).symm.trans htp
   cases z
  ·cases c1
 ca := fun X ⟨o, h1, h2⟩ k => rH X Z h1 h2 k
end
section
variable {X : Cx}
theorem vJ : CallR X (.builtin "isinstance") (fun xs H Q => ∃ e c C u b, xs = [.ref e, c] /\ Ay c u /\ H e = some (cR (.ref C) e) /\ cN X.K C /\ rT X.K (.ref C) u = some b /\ Q (.bl b) H) := by
 intro pins s σ H xs us Q I r h
 obtain ⟨e, c, C, u, b, rfl, rc, he, Z, k, q⟩ := h
 obtain ⟨ux, uc, rfl, rx, rc'⟩ := zv r
 have ec : uc = u := by
  cases rc with
  | ty n => exact rc'
  | own a => exact rc'
 subst ec
 cases (show ux = xL e from rx)
 obtain ⟨⟨o, vs, h1, h2, _⟩, _, _⟩ := (show ObjOk X.prog X.w H s.heap e (cR (.ref C) e) from I.hok e _ he)
 exact kia_one (Cv Z) I.kIn ⟨o, h1, h2⟩ k (fun z => nomatch z) fun tk => ⟨.bl b, H, I.tok _, rfl, q⟩
theorem vt (hc : X.calm = true) : CallR X (.builtin "sum") (fun xs H Q => ∃ (p : Addr) (ns : List Int), xs = [.ref p] /\ SqT X.K H p (ns.map V.int) /\ Q (.int ns.sum) H) := by
 intro pins s σ H xs us Q I r h
 obtain ⟨p, ns, rfl, hq, q⟩ := h
 obtain ⟨u, rfl, rx⟩ := iQ r
 cases (show u = xL p from rx)
 obtain ⟨its, r', pl, hz⟩ := I.tuple hq
 have hi := mT r'
 obtain ⟨ys, hy⟩ := hi.allInts.items
 have hn : numsOf its.toArray.toList = ns := by rw [show its.toArray.toList = its from rfl, hi.numsOf]
 rw [hy] at pl hn
 rw [nums_intItems] at hn
 refine ktm_sumG (I.ok.hd hc) pl fun h' tk t' hk => ?_
 rw [preSum_eq, oF (by simp), hn]
 exact ⟨.int ns.sum, H, I.kept hk, ⟨_, rfl⟩, q⟩
end
end L2
namespace L2
open PySem PySem.Spec PyProof.Rows
section
variable {X : Cx} {a b : Expr} {ta : TE}
def Fg (xs ys : List V) : Bool := (uF (min xs.length ys.length)).all (fun j => eqV (xs.getD j .non) (ys.getD j .non)) && xs.length == ys.length
def Eb (K : W.Frag) (neg : Bool) : R2 := fun x y H Q => ∃ p p' xs ys, x = .ref p /\ y = .ref p' /\ SqT K H p xs /\ SqT K H p' ys /\ xs.all cj = true /\ ys.all cj = true /\ Q (.bl (neg ^^ Fg xs ys)) H
theorem sk {A : Around} {s : Shared} {xs ys : List V} {us vs : List Value} (r : Vals xs us) (r' : Vals ys vs) (fx : xs.all cj = true) (fy : ys.all cj = true) (j : Nat) (h1 : j < us.toArray.size) (h2 : j < vs.toArray.size) :
 SeqAt.EqAt A s us.toArray[j] vs.toArray[j] (eqV (xs.getD j .non) (ys.getD j .non)) := by
 have e1 : us[j]? = some us.toArray[j] := by simp at h1; simp [h1]
 have e2 : vs[j]? = some vs.toArray[j] := by simp at h2; simp [h2]
 have l1 : j < xs.length := by rw [r.length]; simpa using h1
 have l2 : j < ys.length := by rw [r'.length]; simpa using h2
 have g1 : xs[j]? = some (xs.getD j .non) := by simp [List.getD, l1]
 have g2 : ys[j]? = some (ys.getD j .non) := by simp [List.getD, l2]
 obtain ⟨u, hu, ru⟩ := r.get g1
 obtain ⟨v, hv, rv⟩ := r'.get g2
 rw [e1] at hu
 rw [e2] at hv
 rw [Zm hu, Zm hv]
 exact Bz ru rv (u9.mp fx _ (qh g1)) (u9.mp fy _ (qh g2))
theorem ER (hu : X.A.units < cLine) : OpR X (Zo .Eq) (Eb X.K false) := by
 intro pins s σ H x y v u Q I rx ry h
 obtain ⟨p, p', xs, ys, rfl, rfl, hx, hy, fx, fy, q⟩ := h
 cases (show v = xL p from rx)
 cases (show u = xL p' from ry)
 obtain ⟨its, r, pl, hz⟩ := I.tuple hx
 obtain ⟨its', r', pl', hz'⟩ := I.tuple hy
 refine SeqAt.eq_tupleAt pl pl' hu (fun j h1 h2 => sk r r' fx fy j h1 h2) ⟨.bl _, H, I, rfl, ?_⟩
 rw [zj, zj, <- r.length, <- r'.length]
 simpa [Fg] using q
theorem Fq (hu : X.A.units < cLine) : OpR X (Zo .NotEq) (Eb X.K true) := by
 intro pins s σ H x y v u Q I rx ry h
 obtain ⟨p, p', xs, ys, rfl, rfl, hx, hy, fx, fy, q⟩ := h
 cases (show v = xL p from rx)
 cases (show u = xL p' from ry)
 obtain ⟨its, r, pl, hz⟩ := I.tuple hx
 obtain ⟨its', r', pl', hz'⟩ := I.tuple hy
 refine SeqAt.RcNeAt.tuples pl pl' hu (fun j h1 h2 => sk r r' fx fy j h1 h2) X.prog X.w X.xe _ ⟨.bl _, H, I, rfl, ?_⟩
 rw [zj, zj, <- r.length, <- r'.length]
 simpa [Fg] using q
theorem FU (hu : X.A.units < cLine) : OpR X (Zo .Eq) (fun x y H Q => rEq x y H Q \/ Eb X.K false x y H Q) := Gv.or (ER hu)
theorem EN (hu : X.A.units < cLine) : OpR X (Zo .NotEq) (fun x y H Q => rNe x y H Q \/ Eb X.K true x y H Q) := GS.or (Fq hu)
theorem AM : CallR X (.builtin "isinstance") (fun xs H Q => (∃ x c t u b, xs = [x, c] /\ Ay c u /\ nk X.K H x t /\ rT X.K t u = some b /\ Q (.bl b) H) \/
 ∃ e c C u b, xs = [.ref e, c] /\ Ay c u /\ H e = some (cR (.ref C) e) /\ cN X.K C /\ rT X.K (.ref C) u = some b /\ Q (.bl b) H) := xV.or vJ
end
end L2
namespace L2
open PySem PySem.Spec PyProof.Rows
abbrev T (l : List Nat) : V := .str ⟨⟨l⟩⟩
def cs (x : Str) : List Nat := x.cps.toList
theorem Dg (x : Str) : V.str x = T (cs x) := rfl
section
variable {X : Cx} {e a b c : Expr} {pos : Pos}
theorem PE.imp {t t' : TE} (h : PE X e t) (i : ∀ σ H Q, t' σ H Q -> t σ H Q) : PE X e t' := fun pins s σ H Q I q => h pins s σ H Q I (i σ H Q q)
theorem OpR.imp {f : Value -> Value -> Sem Value} {r r' : R2} (h : OpR X f r) (i : ∀ x y H Q, r' x y H Q -> r x y H Q) : OpR X f r' := fun pins s σ H x y v u Q I rx ry q => h pins s σ H x y v u Q I rx ry (i _ _ _ _ q)
theorem UnR.imp {f : Value -> Sem Value} {r r' : V -> Hp -> VK -> Prop} (h : UnR X f r) (i : ∀ x H Q, r' x H Q -> r x H Q) : UnR X f r' := fun pins s σ H x v Q I rx q => h pins s σ H x v Q I rx (i _ _ _ q)
theorem CallR.imp {f : Value} {r r' : List V -> Hp -> VK -> Prop} (h : CallR X f r) (i : ∀ x H Q, r' x H Q -> r x H Q) : CallR X f r' := fun pins s σ H x v Q I rx q => h pins s σ H x v Q I rx (i _ _ _ q)
theorem IxR.imp {r r' : R2} (h : IxR X r) (i : ∀ x y H Q, r' x y H Q -> r x y H Q) : IxR X r' := fun va sl pins s σ H x y v u Q I rx ry q hs => h va sl pins s σ H x y v u Q I rx ry (i _ _ _ _ q) hs
def BY (i : Nat) : TE := fun σ H Q => match σ[i]? with
 | some (some v) => Q v H
 | _ => False
theorem fv (i : Nat) {x : Str} (hN : X.N[i]? = some x := by rfl) (hv : Vis X.env.scope x := by first | exact Or.inl rfl | exact Or.inr (Or.inl rfl) | exact Or.inr (Or.inr rfl)) (hd : (x == ("__debug__" : Str)) = false := by decide)
 (hcd : (x == ("__classdict__" : Str)) = false := by decide) : PE X (.Name x pos) (BY i) := (FD hN hv hd hcd).imp fun σ H Q h => by
 unfold BY at h
 split at h
 ·exact ⟨_, by assumption, h⟩
 ·exact h.elim
theorem aq {x : Str} {j} (l : List Nat) (h : x = ⟨⟨l⟩⟩ := by decide +kernel) : PE X (.Constant (.str x) j pos) (tC (T l)) := h ▸ Ff
def E2 : R2
 | .int i, .int j, H, Q => Q (.int (i + j)) H
 | .str i, .str j, H, Q => (cs i).length + (cs j).length <= sizeLine /\ Q (T (cs i ++ cs j)) H
 | _, _, _, _ => False
theorem Fx (i j : Str) : V.str (i ++ j) = T (cs i ++ cs j) := by
 show V.str ⟨i.cps ++ j.cps⟩ = V.str ⟨⟨i.cps.toList ++ j.cps.toList⟩⟩
 congr 1
 congr 1
 exact (Array.ext' (by simp))
theorem aY : OpR X (binaryOp .Add) E2 := (Gd.or yn).imp fun x y H Q h => by
 unfold E2 at h
 split at h
 ·exact .inl ⟨_, _, rfl, rfl, h⟩
 ·refine .inr ⟨_, _, rfl, rfl, by simpa [cs, YK] using h.1, ?_⟩
  rw [Fx]; exact h.2
 ·exact h.elim
def gI (g : Int -> Int -> V) : R2
 | .int i, .int j, H, Q => Q (g i j) H
 | _, _, _, _ => False
def gIC (C : Int -> Int -> Prop) (g : Int -> Int -> V) : R2
 | .int i, .int j, H, Q => C i j /\ Q (g i j) H
 | _, _, _, _ => False
theorem Ev {g : Int -> Int -> V} : ∀ x y H Q, gI g x y H Q -> rI0 g x y H Q := fun x y H Q h => by
 unfold gI at h; split at h
 ·exact ⟨_, _, rfl, rfl, h⟩
 ·exact h.elim
theorem si {C : Int -> Int -> Prop} {g : Int -> Int -> V} : ∀ x y H Q, gIC C g x y H Q -> rI C g x y H Q := fun x y H Q h => by
 unfold gIC at h; split at h
 ·exact ⟨_, _, rfl, rfl, h.1, h.2⟩
 ·exact h.elim
theorem cC : OpR X (binaryOp .Sub) (gI fun i j => .int (i - j)) := Ft.imp Ev
theorem fM : OpR X (binaryOp .Mult) (gIC CMul fun i j => .int (i * j)) := Fh.imp si
theorem aO : OpR X (binaryOp .Mod) (gIC (fun _ j => 0 < j) fun i j => .int (i % j)) := F3.imp si
theorem aR : OpR X (binaryOp .FloorDiv) (gIC EQ fun i j => .int (i / j)) := DH.imp si
theorem dR : OpR X (binaryOp .Pow) (gIC E7 fun i j => .int (i ^ j.toNat)) := Fd.imp si
def Ds : V -> Hp -> VK -> Prop
 | .int i, H, Q => Q (.int (-i)) H
 | _, _, _ => False
theorem nE : UnR X (unaryOp .USub) Ds := E3.imp fun x H Q h => by
 unfold Ds at h; split at h
 ·exact ⟨_, rfl, h⟩
 ·exact h.elim
def leN (a b : List Nat) : Bool := !decide (b < a)
theorem AE : OpR X (Zo .LtE) (fun x y H Q => ∃ i j, x = .str i /\ y = .str j /\ Q (.bl (leN (cs i) (cs j))) H) := by
 intro pins s σ H x y v u Q I rx ry h
 obtain ⟨i, j, rfl, rfl, q⟩ := h
 obtain ⟨t, rfl⟩ := rx
 obtain ⟨t', rfl⟩ := ry
 exact PySem.P.le_str ⟨.bl _, H, I, rfl, q⟩
def gLe : R2
 | .int i, .int j, H, Q => Q (.bl (decide (i <= j))) H
 | .str i, .str j, H, Q => Q (.bl (leN (cs i) (cs j))) H
 | _, _, _, _ => False
theorem i_ : OpR X (Zo .LtE) gLe := (G7.or AE).imp fun x y H Q h => by
 unfold gLe at h; split at h
 ·exact .inl ⟨_, _, rfl, rfl, h⟩
 ·exact .inr ⟨_, _, rfl, rfl, h⟩
 ·exact h.elim
def gLt : R2
 | .int i, .int j, H, Q => Q (.bl (decide (i < j))) H
 | .str i, .str j, H, Q => Q (.bl (decide (cs i < cs j))) H
 | _, _, _, _ => False
theorem EG : OpR X (Zo .Lt) gLt := (Gj.or AW).imp fun x y H Q h => by
 unfold gLt at h; split at h
 ·exact .inl ⟨_, _, rfl, rfl, h⟩
 ·exact .inr ⟨_, _, rfl, rfl, h⟩
 ·exact h.elim
theorem ED : OpR X (Zo .Gt) (gI fun i j => .bl (decide (j < i))) := GM.imp Ev
def eqS : V -> V -> Option Bool
 | .int i, .int j => some (decide (i = j))
 | .bl i, .bl j => some (decide (i = j))
 | .str i, .str j => some (decide (cs i = cs j))
 | .non, .non => some true
 | .non, .int _ => some false | .int _, .non => some false | .non, .bl _ => some false | .bl _, .non => some false | .non, .str _ => some false | .str _, .non => some false
 | .int _, .str _ => some false | .str _, .int _ => some false | .bl _, .str _ => some false | .str _, .bl _ => some false
 | _, _ => none
theorem yt (i j : Str) : V.str i = V.str j ↔ cs i = cs j := by
 constructor
 ·intro h; injection h with h; rw [h]
 ·intro h
  congr 1
  obtain ⟨⟨a⟩⟩ := i
  obtain ⟨⟨b⟩⟩ := j
  have h' : a = b := h
  rw [h']
theorem xt {x y : V} {k : Bool} (h : eqS x y = some k) : Fo x y = true /\ decide (x = y) = k := by
 unfold eqS at h
 split at h <;> (first | cases h) <;> refine ⟨rfl, ?_⟩
 case h_1 i j => exact decide_eq_decide.mpr (by simp)
 case h_2 i j => exact decide_eq_decide.mpr (by simp)
 case h_3 i j => exact decide_eq_decide.mpr (yt i j)
 all_goals simp
variable {ta tb tc : TE} {rest : List Expr}
def kB (Q : Bool -> Hp -> Prop) : VK := fun x H => match x with
 | .bl k => Q k H
 | _ => False
def wI (t : TE) : TT := fun σ H Q => t σ H (kB Q)
theorem oo {Q : Bool -> Hp -> Prop} {x : V} {H : Hp} (h : kB Q x H) : ∃ k, x = .bl k /\ Q k H := by
 unfold kB at h
 split at h
 ·exact ⟨_, rfl, h⟩
 ·exact h.elim
theorem ba {op : CmpOp} {r : R2} (ho : OpR X (Zo op) r) (ha : PE X a ta) (hb : PE X b tb) (hm : YS op b = false) : PT X (.Compare a [op] [b] pos) (wI (tOp r ta tb)) := by
 intro pins s σ H Q I h
 refine wpAny_isTrue_Compare1 (thn (ha pins s σ H _ I h) fun v s1 ⟨x, H1, I1, r1, q1⟩ => thn (hb pins s1 σ H1 _ I1 q1) fun u s2 ⟨y, H2, I2, r2, q2⟩ =>
  thn (ho pins s2 σ H2 x y v u _ I2 r1 r2 q2) fun c s3 ⟨z, H3, I3, r3, q3⟩ => ?_) hm
 obtain ⟨k, e, q3⟩ := oo q3
 subst e
 cases r3
 exact Zl ⟨H3, I3, q3⟩
theorem sJ {op : CmpOp} {t : TE} (h : PC X op a b t) (h1 : YS op b = false := by first | exact Ba _ (by decide) (by decide) | rfl) : PT X (.Compare a [op] [b] pos) (wI t) := by
 intro pins s σ H Q I hw
 refine wpAny_isTrue_Compare1 (thn (h pins s σ H _ I hw) fun v s1 h1 => thn h1 fun u s2 h2 => thn h2 fun c s3 ⟨x, H1, I1, r1, q1⟩ => ?_) h1
 obtain ⟨d, rfl, q⟩ := oo q1
 cases r1
 exact Zl ⟨H1, I1, q⟩
theorem bO {t : TE} (h : PE X e t) (he : ∀ whole, isTrue e X.env whole = (do let v <- whole; standAt e.pos; holding [v] (truthy v)) := by intro _; rfl) : PT X e (wI t) := by
 intro pins s σ H Q I hw
 refine isTrue_plain (thn (h pins s σ H _ I hw) fun v s1 ⟨x, H1, I1, r1, q1⟩ => ?_) (he _)
 obtain ⟨d, rfl, q⟩ := oo q1
 cases r1
 exact Zl ⟨H1, I1, q⟩
def yP (r r' : R2) (ta tb tc : TE) : TE := fun σ H Q => ta σ H fun x H1 => tb σ H1 fun y H2 => r x y H2 (kB fun k H3 => if k = true then tc σ H3 fun w' H4 => r' y w' H4 Q else Q (.bl false) H3)
theorem kP {op op' : CmpOp} {r r' : R2} (ho : OpR X (Zo op) r) (ho' : OpR X (Zo op') r') (ha : PE X a ta) (hb : PE X b tb) (hc : PE X c tc)
 (hm : lastMarks [op, op'] [b, c] = false := by with_unfolding_all rfl) : PE X (.Compare a [op, op'] [b, c] pos) (yP r r' ta tb tc) := by
 intro pins s σ H Q I h
 refine Compare_chain (thn (ha pins s σ H _ I h) fun v s1 ⟨x, H1, I1, r1, q1⟩ => chain_link (thn (hb pins s1 σ H1 _ I1 q1) fun u s2 ⟨y, H2, I2, r2, q2⟩ =>
  thn (ho pins s2 σ H2 x y v u _ I2 r1 r2 q2) fun d s3 ⟨z, H3, I3, r3, q3⟩ => ?_)) hm
 obtain ⟨k, e, q3⟩ := oo q3
 subst e
 cases r3
 refine Zl ?_
 cases k with
 | false => exact ite_ff ⟨.bl false, H3, I3, rfl, q3⟩
 | true => exact ite_tt (chain_last (thn (hc pins s3 σ H3 _ I3 q3) fun w' s4 ⟨z', H4, I4, r4, q4⟩ => ho' pins s4 σ H4 y z' u w' Q I4 r2 r4 q4))
theorem CS {op op' : CmpOp} {r r' : R2} (ho : OpR X (Zo op) r) (ho' : OpR X (Zo op') r') (ha : PE X a ta) (hb : PE X b tb) (hc : PE X c tc)
 (hm : lastMarks [op, op'] [b, c] = false := by with_unfolding_all rfl) : PT X (.Compare a [op, op'] [b, c] pos) (wI (yP r r' ta tb tc)) := by
 intro pins s σ H Q I h
 refine isTrue_chain (thn (ha pins s σ H _ I h) fun v s1 ⟨x, H1, I1, r1, q1⟩ => test_link (thn (hb pins s1 σ H1 _ I1 q1) fun u s2 ⟨y, H2, I2, r2, q2⟩ =>
  thn (ho pins s2 σ H2 x y v u _ I2 r1 r2 q2) fun d s3 ⟨z, H3, I3, r3, q3⟩ => ?_)) hm
 obtain ⟨k, e, q3⟩ := oo q3
 subst e
 cases r3
 refine Zl ?_
 cases k with
 | false => exact ite_ff ⟨H3, I3, q3⟩
 | true =>
  refine ite_tt (test_last (thn (hc pins s3 σ H3 _ I3 q3) fun w' s4 ⟨z', H4, I4, r4, q4⟩ => thn (ho' pins s4 σ H4 y z' u w' _ I4 r2 r4 q4) fun d' s5 ⟨z2, H5, I5, r5, q5⟩ => ?_))
  obtain ⟨k2, e2, q5⟩ := oo q5
  subst e2
  cases r5
  exact Zl ⟨H5, I5, q5⟩
def Gw (ta tb : TE) : TE := fun σ H Q => ta σ H (kB fun c H1 => if c = true then tb σ H1 Q else Q (.bl false) H1)
def fOr (ta tb : TE) : TE := fun σ H Q => ta σ H (kB fun c H1 => if c = true then Q (.bl true) H1 else tb σ H1 Q)
def GT (ta : TE) : TE := fun σ H Q => ta σ H (kB fun c H1 => Q (.bl (!c)) H1)
theorem dS (ha : PE X a ta) (hb : PE X (.BoolOp .And (b :: rest) pos) tb) : PE X (.BoolOp .And (a :: b :: rest) pos) (Gw ta tb) := by
 intro pins s σ H Q I h
 refine BoolOp_and (thn (ha pins s σ H _ I h) fun v s1 ⟨x, H1, I1, r1, q1⟩ => ?_)
 obtain ⟨c, rfl, q1⟩ := oo q1
 cases r1
 refine Zl ?_
 cases c with
 | true => exact hb pins s1 σ H1 Q I1 q1
 | false => exact ⟨.bl false, H1, I1, rfl, q1⟩
theorem Bw (ha : PE X a ta) (hb : PE X (.BoolOp .Or (b :: rest) pos) tb) : PE X (.BoolOp .Or (a :: b :: rest) pos) (fOr ta tb) := by
 intro pins s σ H Q I h
 refine BoolOp_or (thn (ha pins s σ H _ I h) fun v s1 ⟨x, H1, I1, r1, q1⟩ => ?_)
 obtain ⟨c, rfl, q1⟩ := oo q1
 cases r1
 refine Zl ?_
 cases c with
 | false => exact hb pins s1 σ H1 Q I1 q1
 | true => exact ⟨.bl true, H1, I1, rfl, q1⟩
theorem Bn (ha : PE X a ta) : PE X (.UnaryOp .Not a pos) (GT ta) := by
 intro pins s σ H Q I h
 refine UnaryOp_ (thn (ha pins s σ H _ I h) fun v s1 ⟨x, H1, I1, r1, q1⟩ => ?_)
 obtain ⟨c, rfl, q1⟩ := oo q1
 cases r1
 exact not_of (Zl ⟨.bl (!c), H1, I1, rfl, q1⟩)
def Ht : List V -> Hp -> VK -> Prop
 | [.int i], H, Q => Q (.int (if i < 0 then -i else i)) H
 | _, _, _ => False
def F6 : List V -> Hp -> VK -> Prop
 | [.int i, .int j], H, Q => Q (.int (if j < i then j else i)) H
 | _, _, _ => False
theorem EV (hc : X.calm = true) : CallR X (.builtin "min") F6 := (AO hc).imp fun x H Q h => by
 unfold F6 at h; split at h
 ·exact ⟨_, _, rfl, h⟩
 ·exact h.elim
def E6 : List V -> Hp -> VK -> Prop
 | [.int i, .int j], H, Q => Q (.int (if j > i then j else i)) H
 | _, _, _ => False
theorem Fa (hc : X.calm = true) : CallR X (.builtin "max") E6 := (AI hc).imp fun x H Q h => by
 unfold E6 at h; split at h
 ·exact ⟨_, _, rfl, h⟩
 ·exact h.elim
def Dz (K : W.Frag) : List V -> Hp -> VK -> Prop
 | [.str y], H, Q => (cs y).length <= sizeLine /\ Q (.int (cs y).length) H
 | [.ref p], H, Q => ∃ xs, (SqL K H p xs \/ SqT K H p xs) /\ Q (.int xs.length) H
 | _, _, _ => False
theorem Fm : CallR X (.builtin "len") (Dz X.K) := Cf.imp fun x H Q h => by
 unfold Dz at h; split at h
 ·exact ⟨_, _, rfl, ⟨by simpa [cs, YK] using h.1, rfl⟩, by simpa [cs, YK] using h.2⟩
 ·obtain ⟨xs, hx, q⟩ := h
  rcases hx with hx | hx
  ·exact ⟨_, _, rfl, .inl ⟨xs, hx, rfl⟩, q⟩
  ·exact ⟨_, _, rfl, .inr ⟨xs, hx, rfl⟩, q⟩
 ·exact h.elim
def aZ (H : Hp) : V -> Option String
 | .non => some "NoneType"
 | .bl _ => some "bool"
 | .int _ => some "int"
 | .str _ => some "str"
 | .ref p => match H p with
  | some (.lst _) => some "list"
  | some (.frz _ (.lst _)) => some "list"
  | some (.tup _) => some "tuple"
  | some (.dK _) => some "dict"
  | _ => none
 | _ => none
def bJ (t n : String) : Bool := t == n || (t == "bool" && n == "int")
def kt (t : String) : Prop := t = "NoneType" \/ t = "bool" \/ t = "int" \/ t = "str" \/ t = "list" \/ t = "tuple" \/ t = "dict"
theorem GC {K : W.Frag} {t n : String} (h : kt t) (hn : n = "int" \/ n = "bool" \/ n = "str" \/ n = "list" \/ n = "tuple" \/ n = "dict") : rT K (.type t) (.type n) = some (bJ t n) := by
 rcases h with rfl | rfl | rfl | rfl | rfl | rfl | rfl <;> rcases hn with rfl | rfl | rfl | rfl | rfl | rfl <;> kernel_rfl
theorem xz {K : W.Frag} {H : Hp} {x : V} {t : String} (h : aZ H x = some t) : nk K H x (.type t) /\ kt t := by
 unfold aZ at h
 split at h
 ·cases h; exact ⟨.non, by simp [kt]⟩
 ·cases h; exact ⟨.bl _, by simp [kt]⟩
 ·cases h; exact ⟨.int _, by simp [kt]⟩
 ·cases h; exact ⟨.str _, by simp [kt]⟩
 ·split at h
  ·rename_i e; cases h; exact ⟨.lst e, by simp [kt]⟩
  ·rename_i e; cases h; exact ⟨.frz e, by simp [kt]⟩
  ·rename_i e; cases h; exact ⟨.tup e, by simp [kt]⟩
  ·rename_i e; cases h; exact ⟨.dK e, by simp [kt]⟩
  ·cases h
 ·cases h
def wQ (n : String) : Bool := n == "int" || n == "bool" || n == "str" || n == "list" || n == "tuple" || n == "dict"
def CZ (K : W.Frag) : List V -> Hp -> VK -> Prop
 | [x, .ty n], H, Q => (match aZ H x with
  | some t => wQ n = true /\ Q (.bl (bJ t n)) H
  | none => ∃ e C b, x = .ref e /\ H e = some (cR (.ref C) e) /\ cN K C /\ rT K (.ref C) (.type n) = some b /\ Q (.bl b) H)
 | [.ref e, .ref D], H, Q => ∃ C b, H e = some (cR (.ref C) e) /\ cN K C /\ rT K (.ref C) (.ref D) = some b /\ Q (.bl b) H
 | _, _, _ => False
theorem F5 : CallR X (.builtin "isinstance") (CZ X.K) := AM.imp fun xs H Q h => by
 unfold CZ at h
 split at h
 ·rename_i x n
  split at h
  ·rename_i t ht
   obtain ⟨ty, hb⟩ := xz (K := X.K) ht
   obtain ⟨hn, q⟩ := h
   refine .inl ⟨x, _, _, _, _, rfl, .ty n, ty, GC hb ?_, q⟩
   simpa [wQ, or_assoc] using hn
  ·obtain ⟨e, C, b, rfl, he, Z, k, q⟩ := h
   exact .inr ⟨e, _, C, _, b, rfl, .ty n, he, Z, k, q⟩
 ·rename_i e D
  obtain ⟨C, b, he, Z, k, q⟩ := h
  exact .inr ⟨e, _, C, _, b, rfl, .own D, he, Z, k, q⟩
 ·exact h.elim
end
section
variable {X : Cx} {a b : Expr} {ta tb : TE} {pos pos' : Pos}
def gIx (K : W.Frag) : R2
 | .str z, .int i, H, Q => (cs z).length <= sizeLine /\ (match atI (cs z) i with
  | some c => Q (T [c]) H
  | none => False)
 | .ref p, .int i, H, Q => ∃ xs v, (SqL K H p xs \/ SqT K H p xs) /\ atI xs i = some v /\ Q v H
 | _, _, _, _ => False
theorem EU : IxR X (gIx X.K) := Fl.imp fun x y H Q h => by
 unfold gIx at h
 split at h
 ·obtain ⟨hz, h⟩ := h
  split at h
  ·rename_i c hc
   exact .inr (.inr ⟨_, _, c, rfl, rfl, by simpa [cs, YK] using hz, hc, h⟩)
  ·exact h.elim
 ·obtain ⟨xs, v, hs | hs, hv, q⟩ := h
  ·exact .inl ⟨_, xs, _, v, rfl, rfl, hs, hv, q⟩
  ·exact .inr (.inl ⟨_, xs, _, v, rfl, rfl, hs, hv, q⟩)
 ·exact h.elim
def mf (xs : List V) (H H1 : Hp) (Q : VK) : V -> Prop
 | .int i => (match atI xs i with
  | some (.ref q) => H q = none /\ (match H1 q with
   | some o => pf o = true /\ Q (.ref q) (upd H q o)
   | none => False)
  | some v => Q v H
  | none => False)
 | _ => False
def By (ta : TA) (ti : TE) : TE := fun σ H Q => NoT H /\ ta σ H fun xs H1 => Same H H1 /\ xs.length <= sizeLine /\ ∀ p, H1 p = none -> ti σ (upd H1 p (.lst xs)) fun y H2 => H2 = upd H1 p (.lst xs) /\ mf xs H H1 Q y
theorem Bc {xs : List V} {H H1 : Hp} {Q : VK} {y : V} {p : Addr} {o : HO} (s : Same H H1) (hp : H1 p = none) (h : mf xs H H1 Q y) : ∃ i v G, y = .int i /\ atI xs i = some v /\ Gc H G (upd H1 p o) /\ Q v G := by
 unfold mf at h
 have s2 : Same H (upd H1 p o) := s.trans (aJ o hp)
 split at h
 ·rename_i i
  split at h
  ·rename_i q hq
   obtain ⟨hn, h⟩ := h
   split at h
   ·rename_i o' ho'
    exact ⟨i, _, _, rfl, hq, Gc.one s2 hn (by rw [ay (ar ho' hp)]; exact ho') h.1, h.2⟩
   ·exact h.elim
  ·rename_i v _ hv
   exact ⟨i, v, H, rfl, hv, Gc.none s2, h⟩
  ·exact h.elim
 ·exact h.elim
theorem cW {es : List Expr} {t : TA} (ha : PA X es t) (hb : PE X b tb) (hs : zP b) : PE X (.Subscript (.List es pos') b pos) (By t tb) := by
 intro pins s σ H Q I h
 obtain ⟨n, h⟩ := h
 refine Subscript_ (wpAny_List_spliced (thn (ha pos' pins s σ H _ I h) fun us s1 ⟨xs, H1, I1, r, sm, z, q⟩ => ⟨by rw [<- r.length]; exact z, ?_⟩))
 have hf : H1 s1.heap.objs.size = none := I1.hok.fresh (zR _)
 refine thn (hb pins _ σ (upd H1 s1.heap.objs.size (.lst xs)) _ (I1.laid (t' := s1.toks) (fun b u e => Heap.get?_push_of_some _ e) (zR _) ⟨z, us, 0, r, Heap.get?_push_size _ rfl⟩) (q _ hf)) fun u s3 ⟨y, H3, I3, ry, e, k⟩ => ?_
 subst e
 obtain ⟨i, v, G, rfl, hv, g, hq⟩ := Bc (o := .lst xs) sm hf k
 exact thn (z_ (.List es pos') b pins s3 σ _ (.ref _) (.int i) _ u (fun v' H' => v' = v /\ H' = upd H1 s1.heap.objs.size (.lst xs)) I3 rfl ry ⟨_, xs, i, v, rfl, rfl, SqL.of al, hv, rfl, rfl⟩ (hs _ _))
  fun u' s4 ⟨v', H4, I4, r4, e1, e2⟩ => ⟨v, G, I.gc n (e2 ▸ I4) g, e1 ▸ r4, hq⟩
end
def sp0 (f : Hp -> VK -> XK -> Prop) : Sp := fun vs H Q E => match vs with
 | [] => f H Q E
 | _ => False
def sp1 (f : V -> Hp -> VK -> XK -> Prop) : Sp := fun vs H Q E => match vs with
 | [x] => f x H Q E
 | _ => False
def sp2 (f : V -> V -> Hp -> VK -> XK -> Prop) : Sp := fun vs H Q E => match vs with
 | [x, y] => f x y H Q E
 | _ => False
def sp3 (f : V -> V -> V -> Hp -> VK -> XK -> Prop) : Sp := fun vs H Q E => match vs with
 | [x, y, z] => f x y z H Q E
 | _ => False
def sp4 (f : V -> V -> V -> V -> Hp -> VK -> XK -> Prop) : Sp := fun vs H Q E => match vs with
 | [x, y, z, u] => f x y z u H Q E
 | _ => False
section
variable {vs : List V} {H : Hp} {Q : VK} {E : XK}
theorem sp1.inv {f} (h : sp1 f vs H Q E) : ∃ x, vs = [x] /\ f x H Q E := by
 unfold sp1 at h; split at h
 ·exact ⟨_, rfl, h⟩
 ·exact h.elim
theorem sp2.inv {f} (h : sp2 f vs H Q E) : ∃ x y, vs = [x, y] /\ f x y H Q E := by
 unfold sp2 at h; split at h
 ·exact ⟨_, _, rfl, h⟩
 ·exact h.elim
theorem sp3.inv {f} (h : sp3 f vs H Q E) : ∃ x y z, vs = [x, y, z] /\ f x y z H Q E := by
 unfold sp3 at h; split at h
 ·exact ⟨_, _, _, rfl, h⟩
 ·exact h.elim
theorem sp4.inv {f} (h : sp4 f vs H Q E) : ∃ x y z u, vs = [x, y, z, u] /\ f x y z u H Q E := by
 unfold sp4 at h; split at h
 ·exact ⟨_, _, _, _, rfl, h⟩
 ·exact h.elim
theorem sp1.len {f} (h : sp1 f vs H Q E) : vs.length = 1 := by obtain ⟨_, rfl, _⟩ := sp1.inv h; rfl
theorem sp2.len {f} (h : sp2 f vs H Q E) : vs.length = 2 := by obtain ⟨_, _, rfl, _⟩ := sp2.inv h; rfl
theorem sp3.len {f} (h : sp3 f vs H Q E) : vs.length = 3 := by obtain ⟨_, _, _, rfl, _⟩ := sp3.inv h; rfl
theorem sp4.len {f} (h : sp4 f vs H Q E) : vs.length = 4 := by obtain ⟨_, _, _, _, rfl, _⟩ := sp4.inv h; rfl
end
def asI (x : V) (f : Int -> Prop) : Prop := match x with
 | .int i => f i
 | _ => False
def asT (x : V) (f : List Nat -> Prop) : Prop := match x with
 | .str y => f (cs y)
 | _ => False
def asB (x : V) (f : Bool -> Prop) : Prop := match x with
 | .bl y => f y
 | _ => False
def asR (x : V) (f : Addr -> Prop) : Prop := match x with
 | .ref y => f y
 | _ => False
theorem asI.inv {x : V} {f : Int -> Prop} (h : asI x f) : ∃ i, x = .int i /\ f i := by
 unfold asI at h; split at h
 ·exact ⟨_, rfl, h⟩
 ·exact h.elim
theorem asT.inv {x : V} {f : List Nat -> Prop} (h : asT x f) : ∃ l, x = T l /\ f l := by
 unfold asT at h; split at h
 ·exact ⟨_, rfl, h⟩
 ·exact h.elim
theorem asR.inv {x : V} {f : Addr -> Prop} (h : asR x f) : ∃ i, x = .ref i /\ f i := by
 unfold asR at h; split at h
 ·exact ⟨_, rfl, h⟩
 ·exact h.elim
def asK (H : Hp) (x : V) (f : String -> Prop) : Prop := match aZ H x with
 | some t => f t
 | none => False
theorem asK.inv {H : Hp} {x : V} {f : String -> Prop} (h : asK H x f) : ∃ t, aZ H x = some t /\ kt t /\ f t := by
 unfold asK at h; split at h
 ·rename_i t ht
  exact ⟨t, ht, (xz (K := default) ht).2, h⟩
 ·exact h.elim
theorem asK.of {H : Hp} {x : V} {f : String -> Prop} {t : String} (e : aZ H x = some t) (h : f t) : asK H x f := by unfold asK; rw [e]; exact h
theorem yr {ns : List Int} {k : Int} (h0 : 0 <= k) (h1 : k < ns.length) : atI (ns.map V.int) k = some (.int (ns.getD k.toNat 0)) := by
 obtain ⟨j, rfl⟩ : ∃ j : Nat, k = j := ⟨k.toNat, by omega⟩
 refine cJ ?_
 have l : j < ns.length := by omega
 simp [List.getD, l]
theorem uk {ns : List Int} {H H1 : Hp} {Q : VK} {i : Int} (h0 : 0 <= i) (h1 : i < ns.length) (q : Q (.int (ns.getD i.toNat 0)) H) : mf (ns.map V.int) H H1 Q (.int i) := by
 unfold mf
 simp only [yr h0 h1]
 exact q
section
variable {X : Cx} (K : W.Frag)
theorem bg (h : X.K = K := by rfl) : CallR X (.builtin "isinstance") (CZ K) := h ▸ F5
theorem eh (h : X.K = K := by rfl) : CallR X (.builtin "len") (Dz K) := h ▸ Fm
theorem ao (h : X.K = K := by rfl) : IxR X (gIx K) := h ▸ EU
theorem CY {tg l : Expr} {tl : TE} (hl : PE X l tl) (h : X.K = K := by rfl) : PI X tg l (Cz K tl) := h ▸ FX hl
theorem dG {tg l : Expr} {tl : TE} (hl : PE X l tl) (h : X.K = K := by rfl) : PI X tg l (uG K tl) := h ▸ Dh hl
end
theorem Gx {H : Hp} {b : Bool} : aZ H (.bl b) = some "bool" := rfl
theorem Gg {H : Hp} {i : Int} : aZ H (.int i) = some "int" := rfl
theorem Fe {H : Hp} {s : Str} : aZ H (.str s) = some "str" := rfl
theorem Fb {H : Hp} : aZ H .non = some "NoneType" := rfl
theorem FR : wQ "int" = true := by decide
theorem qz : bJ "NoneType" "int" = false := by decide
theorem xN : bJ "bool" "int" = true := by decide
theorem yk : bJ "int" "int" = true := by decide
theorem yO : bJ "str" "int" = false := by decide
theorem wY : bJ "list" "int" = false := by decide
theorem vP : bJ "tuple" "int" = false := by decide
theorem yf : bJ "dict" "int" = false := by decide
theorem D4 : wQ "bool" = true := by decide
theorem pk : bJ "NoneType" "bool" = false := by decide
theorem vv : bJ "bool" "bool" = true := by decide
theorem xH : bJ "int" "bool" = false := by decide
theorem xM : bJ "str" "bool" = false := by decide
theorem wA : bJ "list" "bool" = false := by decide
theorem tY : bJ "tuple" "bool" = false := by decide
theorem vY : bJ "dict" "bool" = false := by decide
theorem F9 : wQ "str" = true := by decide
theorem qv : bJ "NoneType" "str" = false := by decide
theorem yc : bJ "bool" "str" = false := by decide
theorem yq : bJ "int" "str" = false := by decide
theorem yY : bJ "str" "str" = true := by decide
theorem w4 : bJ "list" "str" = false := by decide
theorem vM : bJ "tuple" "str" = false := by decide
theorem wH : bJ "dict" "str" = false := by decide
theorem DP : wQ "list" = true := by decide
theorem pz : bJ "NoneType" "list" = false := by decide
theorem wg : bJ "bool" "list" = false := by decide
theorem xO : bJ "int" "list" = false := by decide
theorem xa : bJ "str" "list" = false := by decide
theorem v0 : bJ "list" "list" = true := by decide
theorem t7 : bJ "tuple" "list" = false := by decide
theorem vk : bJ "dict" "list" = false := by decide
theorem B_ : wQ "tuple" = true := by decide
theorem oq : bJ "NoneType" "tuple" = false := by decide
theorem tW : bJ "bool" "tuple" = false := by decide
theorem wl : bJ "int" "tuple" = false := by decide
theorem vC : bJ "str" "tuple" = false := by decide
theorem t6 : bJ "list" "tuple" = false := by decide
theorem sH : bJ "tuple" "tuple" = true := by decide
theorem tF : bJ "dict" "tuple" = false := by decide
theorem DS : wQ "dict" = true := by decide
theorem pQ : bJ "NoneType" "dict" = false := by decide
theorem vF : bJ "bool" "dict" = false := by decide
theorem wM : bJ "int" "dict" = false := by decide
theorem xQ : bJ "str" "dict" = false := by decide
theorem vA : bJ "list" "dict" = false := by decide
theorem tz : bJ "tuple" "dict" = false := by decide
theorem wx : bJ "dict" "dict" = true := by decide
theorem Gy {H : Hp} {b : Bool} {f : String -> Prop} : asK H (.bl b) f = f "bool" := rfl
theorem E_ {H : Hp} {i : Int} {f : String -> Prop} : asK H (.int i) f = f "int" := rfl
theorem Gf {H : Hp} {i : Str} {f : String -> Prop} : asK H (.str i) f = f "str" := rfl
theorem Ga {H : Hp} {f : String -> Prop} : asK H .non f = f "NoneType" := rfl
def BN : Expr -> Bool
 | .Starred _ _ => false
 | _ => true
theorem AL {e : Expr} {es : List Expr} {env : Env} (h : BN e = true) : starEach (e :: es) env = (false, eval e env) :: starEach es env := by
 cases e <;> first | rfl | cases h
structure FA (X : Cx) (es : List Expr) (t : TA) : Prop where
 pa : PA X es t
theorem ad {X : Cx} : FA X [] AJ := ⟨FQ⟩
theorem aa {X : Cx} {e : Expr} {es : List Expr} {te : TE} {t : TA} (ha : PE X e te) (hr : FA X es t) (h : BN e = true := by rfl) : FA X (e :: es) (wX te t) := ⟨Ec ha hr.pa (AL h)⟩
theorem DL {H : Hp} {P : Hp -> Prop} : (∃ G, Gc H G H /\ P G) ↔ P H := by
 constructor
 ·rintro ⟨G, g, p⟩
  have e : G = H := by
   funext b
   cases h : H b with
   | none => exact g.b.free h
   | some o => exact g.a b o h
  rw [<- e]; exact p
 ·exact fun p => ⟨H, Gc.refl, p⟩
theorem Hk {CX : CXT} {P : Program} {w : World} {K : W.Frag} {mg : Str -> Option Value} {base : Heap} {N : List Str} {qual : Str} {scope : Scope} {f : Addr} {cd : Value} {A : Around} {outer : List Env} {s : Shared} {H : Hp} {E : XK} :
 (cO CX P w K mg base N qual scope f cd A outer s H E).K = K := rfl
def isI : V -> Bool
 | .int _ => true
 | _ => false
def isS : V -> Bool
 | .str _ => true
 | _ => false
theorem xF {H : Hp} {x : V} {t : String} (h : aZ H x = some t) : (t == "int") = isI x := by
 unfold aZ at h
 split at h
 case h_5 => split at h <;> cases h <;> simp [isI]
 all_goals (cases h <;> simp [isI])
theorem Aq {H : Hp} : Same H H ↔ True := ⟨fun _ => trivial, fun _ => Same.refl H⟩
theorem aS {H : Hp} {p : Addr} {o : HO} (hN : NoT H) (d : mJ o = true) : NoT (upd H p o) := hN.upd d
theorem Df {i : Int} : isI (.int i) = true := rfl
theorem ET {i : Bool} : isI (.bl i) = false := rfl
theorem Dj {i : Str} : isI (.str i) = false := rfl
theorem DC {i : Addr} : isI (.ref i) = false := rfl
theorem DI  : isI (.non) = false := rfl
theorem DJ {i : Int} : isS (.int i) = false := rfl
theorem FG {i : Bool} : isS (.bl i) = false := rfl
theorem DF {i : Str} : isS (.str i) = true := rfl
theorem Eg {i : Addr} : isS (.ref i) = false := rfl
theorem Ek  : isS (.non) = false := rfl
theorem CC {H : Hp} (h : A6 H) : NoT H := fun b o e => by
 rcases h b with z | ⟨ob, xs, z⟩
 ·rw [e] at z; cases z
 ·rw [e] at z; cases z; rfl
def gcE (H : Hp) (E : XK) : XK := fun C d H' => ∃ G, Gc H G H' /\ E C d G
theorem Fun.okG {P : Program} {w : World} {K : W.Frag} {mg : Str -> Option Value} {base : Heap} {x qual : Str} {st : Stmt} {f : Addr} {fd : FuncData} {N ps : List Str} {k : Nat} {sp : Sp} (F : Fun K x qual st f fd) (S : aK N ps (af st))
 (len : ∀ vs H Q E, sp vs H Q E -> vs.length = ps.length)
 (hbody : ∀ (cdv : Value) (A : Around) (outer : List Env) (s : Shared) (H : Hp) (vs : List V) (Q : VK) (E : XK), Room k (A.deeper (envOfC qual (af st) s.heap.objs.size f cdv)) -> sp vs H Q E ->
  NoT H /\ ∃ t, PSs (cO (XE P w) P w K mg base N qual (af st) f cdv A outer s H (gcE H E)) (aw st) t /\ t { nx := fun _ H' => ∃ G, Gc H G H' /\ Q .non G, rt := fun v H' => ∃ G, Gc H G H' /\ Q v G } (eF N vs) H) : bz P w K mg base (XE P w) (k + 1) f fd ps sp := by
 have F' : bz P w K mg base (XE P w) (k + 1) f fd ps (fun vs H Q' E' => ∃ Q E, sp vs H Q E /\ Q' = (fun v H' => ∃ G, Gc H G H' /\ Q v G) /\ E' = gcE H E) := by
  refine F.okX S (fun vs H Q' E' ⟨Q, E, h, _⟩ => len vs H Q E h) (fun cdv A outer s H vs Q' E' hr h => ?_)
  obtain ⟨Q, E, h, rfl, rfl⟩ := h
  exact (hbody cdv A outer s H vs Q E hr h).2
 refine ⟨len, fun A outer s H args us vs Q E hr e0 hb r hsp => ?_⟩
 have nT : NoT H := by
  obtain ⟨oc, od, kV, doc, pm, an, cdv, ct, osl, rfl, lk, hcd⟩ := F.ex
  exact (hbody cdv A outer s H vs Q E (hr.deeper _) hsp).1
 refine codeAny_mono (F'.run A outer s H args us vs _ _ hr e0 hb r ⟨Q, E, hsp, rfl, rfl⟩) fun res s' h => ?_
 cases res with
 | error e =>
  obtain ⟨ea, C, rs, H', h1, h2, h3, un, hok, hrs, fly, G, g, q⟩ := h
  exact ⟨ea, C, rs, G, h1, h2, h3, un.gc g, HOk.gc nT e0.hok hok g, fun b hb => ⟨(hrs b hb).1, g.b.free (hrs b hb).2⟩, fly, q⟩
 | ok fl =>
  cases fl with
  | ret u =>
   obtain ⟨v, H', h1, h2, un, hok, rv, G, g, q⟩ := h
   exact ⟨v, G, h1, h2, un.gc g, HOk.gc nT e0.hok hok g, rv, q⟩
  | next => exact h
  | brk => exact h
  | cont => exact h
section
variable {K : W.Frag} {C D : Addr} {b : Bool} {cl : Z7}
theorem uw (o : PySem.W.clsIn K D = some cl) (t : PySem.W.typeIn K (.ref D) = some (.type "type")) (m : YR K C (.ref D) = some b) : PySem.W.kitCls K (.ref C) (.ref D) = some b := by
 unfold PySem.W.kitCls
 simp only [o, t, Option.isSome_some, beq_self_eq_true, Bool.and_self, if_true]
 exact m
theorem dA (o : PySem.W.clsIn K D = some cl) (t : PySem.W.typeIn K (.ref D) = some (.type "type")) (s : YR K D (.type "BaseException") = some true) (m : YR K C (.ref D) = some b) : ZZ K (.ref C) (.ref D) = some b := by
 unfold ZZ
 have e : PySem.W.subIn K (.ref D) (.type "BaseException") = some true := s
 rw [e, if_pos (by rfl)]
 exact uw o t m
theorem ah (o : PySem.W.clsIn K D = some cl) (t : PySem.W.typeIn K (.ref D) = some (.type "type")) (s : YR K C (.ref C) = some true) (m : YR K C (.ref D) = some b) : rT K (.ref C) (.ref D) = some b := by
 unfold rT
 by_cases e : ((xL C == xL D) = true)
 ·rw [if_pos e]
  have e' : C = D := xL.inj (beq_iff_eq.mp e)
  subst e'
  rw [s] at m; exact m
 ·rw [if_neg e]; exact uw o t m
theorem yG : PySem.W.kitMeta "ValueError" = true := by kernel_rfl
theorem dw (m : YR K C (.type "ValueError") = some b) : rT K (.ref C) (.type "ValueError") = some b := by
 unfold rT
 rw [if_neg (by intro z; cases (beq_iff_eq.mp z))]
 unfold PySem.W.kitCls
 simp only [yG, if_true]
 exact m
end
theorem CQ {l : PySem.W.OpenLaw} {n k : Nat} {q : Program} {loose : List Str} {XP : (Str -> Option Value) -> Heap -> Prop} {YP : World -> Heap -> Prop} {d : DefRec} {K : Params -> W.Frag} {sp : W.Frag -> Sp} {x : Str}
 (hn : l.most = some n) (hn2 : n <= sizeLine) (hdf : d.params.defaults = []) (hr : Room k callerA)
 (hY : ∀ (w : World) (h : Heap), YP w h -> (K w.params).In h)
 (F : ∀ (w : World) (mg : Str -> Option Value) (fa : Addr) (h : Heap), (K w.params).In h -> h.Ns uy mg -> mg d.name = some (.ref fa) ->
  ∃ fd : FuncData, (∀ (s : Shared) (u : Value), BindsTo s fd ⟨[u], []⟩ [(x, u)]) /\
   ∀ base : Heap, (K w.params).In base -> base.Ns uy mg -> bz l.prog w (K w.params) mg base (XE l.prog w) k fa fd [x] (sp (K w.params)))
 (hsp : ∀ (K : W.Frag) (H : Hp) (a : Addr) (ns : List Int), ns.length <= n -> A6 H -> SqL K H a (ns.map V.int) -> sp K [.ref a] H (fun v _ => v = .bl true) fun _ _ _ => False) :
 PySem.W.WalkO q loose XP YP l.row.toRowW d [] (fun f vs => PySem.call f vs) :=
 Db (K := K) (CX := fun w => XE l.prog w) (sp := fun w => sp (K w.params)) hn hn2 hdf hr hY F (fun w H a ns h1 h2 h3 => hsp (K w.params) H a ns h1 h2 h3) fun w H s e s' ⟨_, _, _, _, _, _, _, _, _, _, _, z⟩ => z
end L2
namespace L2
open PySem PySem.Spec PyProof.Rows
section
variable {prog : Program} {w : World} {A : Around} {R : Result -> Shared -> Prop} {s : Shared}
theorem vh {elt target iter : Expr} {ifs : List Expr} {scope : Scope} {pos : Pos} {it acc : Value} {env : Env} (I : Nat -> Shared -> Prop)
 (turn : ∀ n s, I n s -> wpAny (model prog w) A (pyNext it) (fun r s₁ => match r with
  | none => R (.ok .next) s₁
  | some v => wpAny (model prog w) A (Y1 target it v) (fun _ s₁' => wpAny (model prog w) A (assign target env v) (fun _ s₂ =>
   wpAny (model prog w) A (forIn ifs true fun c r => if r = true then do let ok <- isTrue c env (eval c env); pure (ForInStep.yield ok) else pure (ForInStep.yield r)) (fun ok s₃ =>
    if ok = true then wpAny (model prog w) A (eval elt env) (fun x s₄ =>
     wpAny (model prog w) A (call (.builtin "list.append") [acc, x]) (fun _ s₅ => ∃ m, m < n /\ I m s₅) (notedBy (model prog w) A env fun e s' => R (.error e) s') s₄) (notedBy (model prog w) A env fun e s' => R (.error e) s') s₃
    else ∃ m, m < n /\ I m s₃) (notedBy (model prog w) A env fun e s' => R (.error e) s') s₂) (notedBy (model prog w) A env fun e s' => R (.error e) s') s₁') (notedBy (model prog w) A env fun e s' => R (.error e) s') s₁) (notedBy (model prog w) A env fun e s' => R (.error e) s') s)
 (n : Nat) (h : I n s) :
 codeAny (model prog w) A (.compLoop (.ListComp elt [⟨target, iter, ifs, 0⟩] scope pos) 0 it acc env) R s := by
 refine codeAny_loop rfl I (fun n s hI => ?_) n h
 show wpAny _ A ((compTurn (.ListComp elt [⟨target, iter, ifs, 0⟩] scope pos) 0 it acc env).onRaise (fun x => do noteFrame x env; theTreesLotGoes x)) _ _ s
 refine wpAny_noted ?_
 rw [compTurn_list]
 refine zu (wpAny_standAt (zu (Zr (turn n s hI) (fun r s₁ h₁ => ?_) fun _ _ h' => h')))
 cases r with
 | none => exact wG h₁
 | some v =>
  refine zu (Zr h₁ (fun _ s₁' h₁' => ?_) fun _ _ h' => h')
  refine zu (Zr h₁' (fun _ s₂ h₂ => zu (Zr h₂ (fun ok s₃ h₃ => ?_) fun _ _ h' => h')) fun _ _ h' => h')
  cases ok with
  | false => exact wG ⟨rfl, h₃⟩
  | true =>
   exact zu (zu (Zr h₃ (fun x s₄ h₄ => zu (Zr h₄ (fun _ s₅ h₅ => wG (wG ⟨rfl, h₅⟩)) fun _ _ h' => h')) fun _ _ h' => h'))
end
def bH (X : Cx) (N : List Str) (scope : Scope) (cl : List (Str × Addr)) (C : Addr) (s₂ : Shared) (H₂ : Hp) (ex : List Addr) (pn : List (Addr × Obj)) : Cx :=
 { X with N := N, s₀ := s₂, H₀ := H₂, env := compEnvC scope cl C X.env, outer := X.stack, stack := X.stack, ex := ex, fn := fun _ => false, pn := pn, xe := fun _ _ => False }
structure CompScope (X : Cx) (scope : Scope) (cl : List (Str × Addr)) (x : Str) (fr : List Str) : Prop where
 clos : closureFor scope X.env = pure cl
 nocell : ∀ y ∈ scope.names, y.2 ≠ .cell
 kind : scope.kind = .function
 names : ∀ y ∈ scope.names, y.2 = .local -> scope.names.lookup y.1 = some .local
 own : scope.names.lookup x = some .local
 keys : ∀ y ∈ cl, y.1 ∈ fr
 cells : fr.map (fun y => cl.lookup y) = fr.map (fun y => X.env.cells.lookup y)
 kinds : ∀ y ∈ fr, X.env.kindOf y = some .cell \/ X.env.kindOf y = some .free
 kin : ∀ y ∈ fr, (relabel scope X.env).names.lookup y = some .cell \/ (relabel scope X.env).names.lookup y = some .free
 only : ∀ y, ((relabel scope X.env).names.lookup y = some .cell \/ (relabel scope X.env).names.lookup y = some .free) -> y ∈ fr
theorem yU {α : Type} {l : List (Str × α)} {y : Str} {c : α} (h : l.lookup y = some c) : (y, c) ∈ l := ZM h
theorem CompScope.cell {X : Cx} {scope : Scope} {cl : List (Str × Addr)} {x : Str} {fr : List Str} (S : CompScope X scope cl x fr) {y : Str} (h : y ∈ fr) : cl.lookup y = X.env.cells.lookup y := by
 have e := S.cells
 obtain ⟨i, hi, rfl⟩ := List.getElem_of_mem h
 have := congrArg (fun l => l[i]?) e
 simpa [hi] using this
theorem CompScope.sub {X : Cx} {scope : Scope} {cl : List (Str × Addr)} {x : Str} {fr : List Str} (S : CompScope X scope cl x fr) {y : Str} {c : Addr} (h : cl.lookup y = some c) : X.env.cells.lookup y = some c := by
 rw [<- S.cell (S.keys _ (yU h))]; exact h
def PTs (X : Cx) (ifs : List Expr) (t : TT) : Prop :=
 ∀ (pins : List (Addr × Obj)) (s : Shared) (σ : St) (H : Hp) (Q : Bool -> Hp -> Prop), Inv X pins σ H s -> t σ H Q ->
  wpAny (model X.prog X.w) X.A (forIn ifs true fun c r => if r = true then do let ok <- isTrue c X.env (eval c X.env); pure (ForInStep.yield ok) else pure (ForInStep.yield r)) (TP X pins σ Q) X.xe s
theorem eS {X : Cx} : PTs X [] (fun _ H Q => Q true H) := fun pins s σ H Q I h => wpAny_tests_nil ⟨H, I, h⟩
theorem Eh {X : Cx} {c : Expr} {t : TT} (h : PT X c t) : PTs X [c] t := fun pins s σ H Q I hw => wpAny_tests_one (h pins s σ H Q I hw)
end L2
set_option maxHeartbeats 4000000
namespace MT
def isD (c : Nat) : Bool := decide (48 <= c) && decide (c <= 57)
def vl (t : List Nat) : Nat := t.foldl (fun n c => 10 * n + (c - 48)) 0
def nin (t : List Nat) : Nat := t.foldl (fun n c => if isD c then 10 * n + (c - 48) else n) 0
def fg (t : List Nat) : List Nat := if t.take 1 = [45] then t.drop 1 else t
def good (t : List Nat) : Prop := fg t ≠ [] /\ (∀ c ∈ fg t, isD c = true) /\ ((fg t).head? = some 48 -> t = [48])
end MT
namespace L2
open PySem PySem.Spec PyProof.Rows Builtin Builtin.Str
section
variable {X : Cx} {e a b c : Expr} {pos : Pos}
def gIn (neg : Bool) : R2
 | .str i, .str j, H, Q => (match cs i with
  | [c] => Q (.bl (neg ^^ decide (c ∈ cs j))) H
  | _ => False)
 | _, _, _, _ => False
theorem FM {i : Str} {c : Nat} (h : cs i = [c]) : i = ⟨#[c]⟩ := by
 obtain ⟨⟨l⟩⟩ := i
 have h' : l = [c] := h
 rw [h']
def xG (l : List Nat) (lo hi : Option Int) : List Nat := (l.drop (HT.sIx l.length 0 lo)).take (HT.sIx l.length l.length hi - HT.sIx l.length 0 lo)
def gSl : V -> Option Int -> Option Int -> Hp -> VK -> Prop
 | .str y, lo, hi, H, Q => (cs y).length <= sizeLine /\ Q (T (xG (cs y) lo hi)) H
 | _, _, _, _, _ => False
theorem EO (lo hi : Option Int) (n : Nat) : YL lo hi 1 n = (uF (HT.sIx n n hi - HT.sIx n 0 lo)).map (HT.sIx n 0 lo + ·) := by
 obtain ⟨h1, h2, h3⟩ := oS lo hi n
 have e : YL lo hi 1 n = sliceRange (Yr lo hi none n).1 (Yr lo hi none n).2.1 1 := by
  unfold YL Yr
  cases lo <;> cases hi <;> rfl
 rw [e, h1, h2, sliceRange_one]
theorem Ao (y : Str) (lo hi : Option Int) : V.str (Txt.slice y lo hi) = T (xG (cs y) lo hi) := by
 have hl : y.length = (cs y).length := by simp [cs, YK]
 have ha : HT.sIx y.length 0 lo <= y.length := HT.sIx_le _ _ (Zb _) lo
 have hb : HT.sIx y.length y.length hi <= y.length := HT.sIx_le _ _ (zR _) hi
 unfold Txt.slice
 rw [EO]
 split
 ·rename_i h
  simp only [beq_self_eq_true, YC, zl, List.length_range, beq_iff_eq] at h
  have e1 : HT.sIx y.length 0 lo = 0 := by omega
  have e2 : HT.sIx y.length y.length hi = y.length := by omega
  rw [Dg]
  congr 3
  unfold xG
  rw [<- hl, e1, e2, List.drop_zero, Nat.sub_zero, hl, Yj]
 ·rw [pick_run]
  show V.str ⟨_⟩ = V.str ⟨⟨_⟩⟩
  unfold xG cs
  rw [Z4]
  rfl
theorem vK : SlR X gSl := by
 intro pins s σ H x v vl vu lo hi sl Q I rx hs pl pu h
 unfold gSl at h
 split at h
 ·rename_i y
  obtain ⟨hz, q⟩ := h
  obtain ⟨t, rfl⟩ := rx
  have hz' : y.length <= sizeLine := by simpa [cs, YK] using hz
  refine ⟨"str", _, F.slot_str_getitem.lookup, typeIs_str _ _ _, ?_⟩
  have fin : ∀ t' k, EP X pins σ Q (.str (Txt.slice y lo hi) t') { s with toks := k } := fun t' k => ⟨.str (Txt.slice y lo hi), H, I.tok _, ⟨_, rfl⟩, by rw [Ao]; exact q⟩
  cases pl with
  | none => cases pu with
   | none => exact Yi (l := none) (u := none) (st := none) hs rfl (post_val_or_str ⟨sC (Txt.slice_le y _ _) hz', fin⟩)
   | int j u => exact Yi (l := none) (u := some (j, u)) (st := none) hs rfl (post_val_or_str ⟨sC (Txt.slice_le y _ _) hz', fin⟩)
  | int i u' => cases pu with
   | none => exact Yi (l := some (i, u')) (u := none) (st := none) hs rfl (post_val_or_str ⟨sC (Txt.slice_le y _ _) hz', fin⟩)
   | int j u => exact Yi (l := some (i, u')) (u := some (j, u)) (st := none) hs rfl (post_val_or_str ⟨sC (Txt.slice_le y _ _) hz', fin⟩)
 ·exact h.elim
def Hz : V -> List V -> Hp -> VK -> Prop
 | .str x, [.str y], H, Q => (match cs y with
  | [c] => c ∈ cs x /\ ∀ i : Nat, (cs x)[i]? = some c -> Q (.int i) H
  | _ => False)
 | _, _, _, _ => False
end
end L2
namespace L2
open PySem PySem.Spec PyProof.Rows
def Its (x : Str) : It := ⟨fun i _ => i < x.cps.size, fun i H v H' => H' = H /\ ∃ c, x.cps[i]? = some c /\ v = .str ⟨#[c]⟩, fun i _ => x.cps.size <= i⟩
theorem CI {P : Program} {w : World} {K : W.Frag} {tg : Expr} (x : Str) (t : Tok) (it : Addr) : zf P w K tg (Its x) [it] it (fun i h => h.IsStrIter it "str_ascii_iterator" x t i) where
 mem := by simp
 obj := fun i h st b hb => by
  have e : b = it := by simpa using hb
  subst e
  obtain ⟨o, e, c, d⟩ := st
  exact ⟨o, e, fun v z => by rw [d] at z; cases z⟩
 keep := fun i h h' st k => by
  obtain ⟨o, e, c, d⟩ := st
  exact ⟨o, k it (by simp) o e, c, d⟩
 item := by
  intro X hP hw hK hc i pins s σ H E I hf st hg
  subst hP hw hK
  have hg' : i < x.cps.size := hg
  obtain ⟨f0, f1, f2, f3, f4, f5⟩ := hf it (by simp)
  have hx : x.cps[i]? = some x.cps[i] := by simp [hg']
  refine wpAny_pyNext_ascii_item st hx fun h' st' sb => ?_
  have I1 : Inv X pins σ H { s with heap := h', toks := s.toks + 1 } := I.turned (fun b o hb e => (sb.2 b hb).trans e) f0 f1 f3 f4 f5
  obtain ⟨o, e, c, d⟩ := id st'
  exact ⟨_, rfl, sW (s := { s with heap := h', toks := s.toks + 1 }) e c d (by decide) ⟨.str ⟨#[x.cps[i]]⟩, H, I1, ⟨_, rfl⟩, ⟨rfl, _, hx, rfl⟩, st', fun b hb => (hf b hb).1⟩⟩
 done := by
  intro X hP hw hK hc i pins s σ H E I hf st hg
  subst hP hw hK
  have hg' : x.cps.size <= i := hg
  obtain ⟨f0, f1, f2, f3, f4, f5⟩ := hf it (by simp)
  have hx : x.cps[i]? = none := by simp [hg']
  exact wpAny_pyNext_ascii_end (I.ok.hd hc) st hx fun h' eb => ⟨rfl, I.turned (fun b o hb e => eb b o hb e) f0 f1 f3 f4 f5⟩
 self := fun _ _ _ _ _ st h => wpAny_pyIter_striter_ascii st h
def GJ (tl : TE) : TI := fun σ H R => tl σ H fun v H1 => match v with
 | .str x => (∀ c ∈ cs x, c < 128) /\ R (Its x) H1
 | _ => False
theorem FW {X : Cx} {tg l : Expr} {tl : TE} (hl : PE X l tl) : PI X tg l (GJ tl) := by
 intro pins s σ H R I h
 refine thn (hl pins s σ H _ I h) fun v s1 ⟨y, H1, I1, r1, q⟩ => ?_
 dsimp only at q
 split at q
 ·rename_i x
  obtain ⟨ha, q⟩ := q
  obtain ⟨t, rfl⟩ := r1
  have ha' : x.cps.all (· < 128) = true := by
   rw [Array.all_eq_true]
   intro i hi
   exact decide_eq_true (ha _ (by unfold cs; rw [Array.mem_toList_iff]; exact Array.getElem_mem hi))
  refine wpAny_pyIter_ascii ha' ?_
  refine ⟨s1.heap.objs.size, [s1.heap.objs.size], _, _, H1, rfl, I1.kept (t' := s1.toks) fun b o e => Heap.get?_push_of_some _ e, CI x t _, ⟨_, Heap.get?_push_size _ rfl, rfl, rfl⟩, fun b hb => ?_, q⟩
  have e : b = s1.heap.objs.size := by simpa using hb
  subst e
  exact I1.fpOk (zR _) (I1.hok.fresh (zR _))
 ·exact q.elim
section
variable {X : Cx}
def CB (i j : Int) : Prop := 0 < j /\ j.natAbs.log2 < 1000
theorem BB : OpR X (binaryOp .FloorDiv) (gIC CB fun i j => .int (i / j)) := by
 have h : OpR X (binaryOp .FloorDiv) (rI CB fun i j => .int (i / j)) := opI fun i j _ _ _ _ _ hc q => by
  have e : i / j = i.fdiv j := (Int.fdiv_eq_ediv_of_nonneg i (Int.le_of_lt hc.1)).symm
  rw [e] at q
  exact floordiv_int (Ne.symm (Int.ne_of_lt hc.1)) q (.inl (PyProof.noPylong_of_log2 (by have := hc.2; omega)))
 exact h.imp si
theorem rf : ∀ {bs : List Bool} {us : List Value}, Vals (bs.map V.bl) us -> LSm.BoolsAre us bs
 | [], _, .nil => .nil
 | b :: r, _, .cons e t => by
  cases (show _ = Value.bool b from e)
  exact .cons b (rf t)
def FK (K : W.Frag) : List V -> Hp -> VK -> Prop
 | [.ref p], H, Q => ∃ bs : List Bool, SqL K H p (bs.map V.bl) /\ Q (.bl (bs.all id)) H
 | _, _, _ => False
theorem q_ (K : W.Frag) (hc : X.calm = true) (hK : X.K = K := by rfl) : CallR X (.builtin "all") (FK K) := by
 subst hK
 intro pins s σ H xs us Q I r h
 unfold FK at h
 split at h
 ·rename_i p
  obtain ⟨bs, hq, q⟩ := h
  obtain ⟨u, rfl, rx⟩ := iQ r
  cases (show u = xL p from rx)
  obtain ⟨its, rv, pl, hz⟩ := I.list hq
  have hne : p ≠ s.heap.objs.size := uZ (by obtain ⟨_, e, _⟩ := pl.isList; exact xw e)
  have hb : LSm.BoolsAre its bs := rf rv
  refine call_all_walk (wpAny_pyIter_list pl.isList ?_)
  refine ⟨s.heap.objs.size, [s.heap.objs.size, p], [s.heap.objs.size], its.toArray.size, _, _, fun i => (bs[i]?).getD true, rfl, Walks.list (A := X.A.in1) (I.ok.hd hc) _ p hne its.toArray,
   ⟨⟨_, Heap.get?_push_size _ rfl, rfl, rfl⟩, pl.isList.push _⟩, fun i v s' Q' E' hP hQ => ?_, fun h' tk hk => ?_⟩
  ·obtain ⟨b, e, rfl⟩ := hb.get i v (by simpa using hP)
   simp only [e, Option.getD_some] at hQ
   exact Zl hQ
  ·have e : ((uF its.toArray.size).all fun i => (bs[i]?).getD true) = bs.all id := by
    rw [zj, hb.length]; exact LSm.range_all bs
   rw [e]
   exact ⟨.bl (bs.all id), H, I.kept (LSm.kept_iter hk), rfl, q⟩
 ·exact h.elim
end
end L2
namespace L2
open PySem PySem.Spec PyProof.Rows Builtin Builtin.Str
def bI (sep : List Nat) : List (List Nat) -> List Nat
 | [] => []
 | [x] => x
 | x :: y :: r => x ++ sep ++ bI sep (y :: r)
theorem uz : ∀ ls : List (List Nat), bI [] ls = ls.flatten
 | [] => rfl
 | [x] => by simp [bI]
 | x :: y :: r => by rw [bI, uz (y :: r)]; simp
def S (l : List Nat) : Str := ⟨⟨l⟩⟩
theorem ul (sep : List Nat) : ∀ (r : List (List Nat)) (x : List Nat), ((r.map S).foldl (fun acc p => acc ++ (S sep).cps ++ p.cps) (S x).cps) = (S (bI sep (x :: r))).cps
 | [], x => rfl
 | y :: r, x => by
  rw [ud, List.foldl_cons]
  have e : (S x).cps ++ (S sep).cps ++ (S y).cps = (S (x ++ sep ++ y)).cps := by
   apply Array.ext'; simp [S]
  rw [e, ul sep r]
  congr 1
  cases r with
  | nil => rfl
  | cons z r' => unfold bI; simp [bI, List.append_assoc]
theorem zL (sep : List Nat) (ls : List (List Nat)) : Txt.join (S sep) (ls.map S) = S (bI sep ls) := by
 unfold Txt.join glued
 cases ls with
 | nil => rfl
 | cons x r =>
  show (⟨((x :: r).map S).drop 1 |>.foldl _ _⟩ : Str) = _
  rw [ud, List.drop_one, List.tail_cons, List.headD_cons, ul]
theorem zB : ∀ {ls : List (List Nat)} {us : List Value}, Vals (ls.map T) us -> StrsAre us (ls.map S)
 | [], _, .nil => .nil
 | l :: r, _, .cons e t => by
  obtain ⟨k, rfl⟩ := e
  exact .cons _ k (zB t)
def Az (sep : List Nat) (ls : List (List Nat)) : Prop := (ls.map Yh).sum + ls.length * sep.length <= 16777216
theorem Em {sep : List Nat} {ls : List (List Nat)} (h : Az sep ls) : (((ls.map S).map (·.length)).sum + (ls.map S).length * (S sep).length <= 16777216) := by
 have e : (ls.map S).map (·.length) = ls.map Yh := by rw [uY]; apply Zs; intro l _; rfl
 rw [e, zl]; exact h
section
variable {X : Cx}
def A9 (K : W.Frag) : V -> List V -> Hp -> VK -> Prop
 | .str x, [.ref p], H, Q => ∃ ls : List (List Nat), SqL K H p (ls.map T) /\ Az (cs x) ls /\ Q (T (bI (cs x) ls)) H
 | _, _, _, _ => False
theorem rz (K : W.Frag) (hK : X.K = K := by rfl) : MtR X "str.join" (A9 K) := by
 subst hK
 intro pins s σ H x xs v us Q I rx rs h
 unfold A9 at h
 split at h
 ·rename_i y p
  obtain ⟨ls, hq, hf, q⟩ := h
  obtain ⟨t, rfl⟩ := rx
  obtain ⟨u, rfl, ru⟩ := iQ rs
  cases (show u = xL p from ru)
  obtain ⟨its, rv, pl, hz⟩ := I.list hq
  refine join_list pl.isList (zB rv) (Em hf) fun t' k => ?_
  exact ⟨.str (Txt.join y (ls.map S)), H, I.tok _, ⟨_, rfl⟩, by rw [show y = S (cs y) from rfl, zL]; exact q⟩
 ·exact h.elim
end
end L2
namespace PySem
open Sem (wp)
open Builtin Builtin.Str Builtin.Int
namespace F
end F
section
variable {prog : Program} {w : World} {A : Around} {E : Value -> Shared -> Prop} {s : Shared} {I : Addr} {fp wr : List Addr} {G : Array GenState -> Array GenState -> Prop} {n : Nat} {P : Nat -> Value -> Prop} {St : Nat -> Shared -> Prop}
end
end PySem
namespace L2
open PySem PySem.Spec PyProof.Rows Builtin Builtin.Str
section
variable {X : Cx} {o e : Expr} {to te : TE} {apos cpos p pos : Pos}
end
end L2
namespace L2
open PySem PySem.Spec PyProof.Rows Builtin Builtin.Str
section
variable {X : Cx}
structure E0 (J : It) (vs : List V) : Prop where
 go : ∀ i H, i < vs.length -> J.go i H
 yld : ∀ i H x H', i < vs.length -> J.yld i H x H' -> H' = H /\ vs[i]? = some x
 stop : ∀ H, J.stop vs.length H
theorem CN (l : List Nat) : E0 (Its ⟨⟨l⟩⟩) (l.map fun c => T [c]) := by
 refine ⟨fun i H h => by simpa [Its] using h, fun i H x H' _ y => ?_, fun H => by simp [Its]⟩
 obtain ⟨e, c, hc, rfl⟩ := y
 refine ⟨e, ?_⟩
 have : l[i]? = some c := by simpa using hc
 rw [List.getElem?_map, this]; rfl
theorem Cq (n : Nat) : E0 (Itr 0 n) ((uF n).map fun k => .int (k : Nat)) := by
 refine ⟨fun i H h => by simpa [Itr] using h, fun i H x H' hi y => ?_, fun H => by simp [Itr]⟩
 obtain ⟨e, rfl⟩ := y
 refine ⟨e, ?_⟩
 have hi' : i < n := by simpa using hi
 simp [hi']
theorem um {J : It} {vs : List V} (E : E0 J vs) {σ' : St} {H1 : Hp} {Q : VK} {tt : TT} {te : TE} (C : Hp -> Prop) (p : V -> Bool) (f : V -> V) (hlen : vs.length <= sizeLine)
 (hp : ∀ x ∈ vs, ∀ H (R : Bool -> Hp -> Prop), C H -> R (p x) H -> tt (some x :: σ') H R) (hf : ∀ x ∈ vs, p x = true -> ∀ H (R : VK), C H -> R (f x) H -> te (some x :: σ') H R)
 (D : Addr) (hD : H1 D = none) (hC : ∀ ys, C (upd H1 D (.lst ys))) (q : Q (.ref D) (upd H1 D (.lst ((vs.filter p).map f)))) :
 ∃ W : Nat -> Nat -> List V -> Hp -> Prop, (∃ m, W 0 m [] (upd H1 D (.lst []))) /\
  ∀ i m ys H2, W i m ys H2 -> H2 D = some (.lst ys) /\ ((J.stop i H2 /\ Q (.ref D) H2) \/ (J.go i H2 /\ ∀ x H3, J.yld i H2 x H3 ->
   tt (some x :: σ') H3 fun b H4 => if b = true then te (some x :: σ') H4 fun y H5 => H5 D = some (.lst ys) /\ ys.length < sizeLine /\ ∃ m', m' < m /\ W (i + 1) m' (ys ++ [y]) (upd H5 D (.lst (ys ++ [y])))
    else ∃ m', m' < m /\ W (i + 1) m' ys H4)) := by
 refine ⟨fun i m ys H2 => m = vs.length - i /\ i <= vs.length /\ ys = ((vs.take i).filter p).map f /\ H2 = upd H1 D (.lst ys), ⟨vs.length, by simp, Zb _, by simp, rfl⟩, ?_⟩
 rintro i m ys H2 ⟨rfl, hi, hys, rfl⟩
 refine ⟨al, ?_⟩
 by_cases hlt : i < vs.length
 ·refine .inr ⟨E.go i _ hlt, fun x H3 y => ?_⟩
  obtain ⟨e, hx⟩ := E.yld i _ x H3 hlt y
  subst e
  have hm : x ∈ vs := qh hx
  have htk : vs.take (i + 1) = vs.take i ++ [x] := by
   rw [Yk, hx]; rfl
  have hyl : ys.length <= i := by
   rw [hys, zl]
   exact sC (ZS _ _) (by simp [Zf]; omega)
  refine hp x hm _ _ (hC _) ?_
  cases hb : p x with
  | true =>
   rw [if_pos rfl]
   refine hf x hm hb _ _ (hC _) ⟨al, by omega, vs.length - (i + 1), by omega, rfl, hlt, ?_, ?_⟩
   ·rw [htk, Yc, qc, <- hys]
    simp [hb]
   ·funext z
    by_cases hz : z = D
    ·subst hz; rw [al, al]
    ·rw [ay hz, ay hz, ay hz]
  | false =>
   rw [if_neg xC]
   refine ⟨vs.length - (i + 1), by omega, rfl, hlt, ?_, rfl⟩
   rw [htk, Yc, qc, <- hys]
   simp [hb]
 ·have e : i = vs.length := by omega
  subst e
  refine .inl ⟨E.stop _, ?_⟩
  rw [Yj] at hys
  rw [hys]; exact q
end
theorem SqL.same {K : W.Frag} {H H' : Hp} {a : Addr} {xs : List V} (s : Same H H') (h : SqL K H a xs) : SqL K H' a xs := by
 rcases h with (h | ⟨o, h⟩) | h
 ·exact .inl (.inl (s _ _ h))
 ·exact .inl (.inr ⟨o, s _ _ h⟩)
 ·exact .inr h
theorem xm (g : Nat -> Nat) : ∀ l : List Nat, (l.map fun k => [g k]).flatten = l.map g
 | [] => rfl
 | a :: r => by rw [ud, Z0, xm g r]; rfl
theorem zJ (g : Nat -> Nat) : ∀ l : List Nat, ((l.map fun k => [g k]).map Yh).sum = l.length
 | [] => rfl
 | a :: r => by have := zJ g r; simp only [ud, ZD, ql, Y2, this]; omega
theorem BL {K : W.Frag} {H1 : Hp} {D : Addr} {Q : VK} (l : List Nat) (g : Nat -> Nat) (hs : H1 D = some (.lst (l.map fun k => T [g k]))) (hl : l.length <= 1000) (q : Q (T (l.map g)) H1) : A9 K (T []) [.ref D] H1 Q := by
 refine ⟨l.map fun k => [g k], SqL.of (by rw [hs, uY]; rfl), ?_, ?_⟩
 ·unfold Az; rw [zJ]; simp [cs]; omega
 ·show Q (T (bI [] _)) H1
  rw [uz, xm]; exact q
theorem xD {P : Program} {w : World} {X : Cx} : dE (XE P w) X (fun _ _ _ _ => False) := fun _ _ _ _ _ _ _ ⟨_, _, _, _, _, _, _, _, _, _, _, q⟩ => q.elim
def BO : Option NameKind -> Bool
 | some .cell => true
 | some .free => true
 | _ => false
theorem xp {k : Option NameKind} : BO k = true ↔ (k = some .cell \/ k = some .free) := by
 cases k with
 | none => simp [BO]
 | some k => cases k <;> simp [BO]
theorem eD {cl : List (Str × Addr)} {fr : List Str} (h : (cl.map (·.1)).all (fun y => fr.elem y) = true) : ∀ y ∈ cl, y.1 ∈ fr := fun y hy => by
 have := u9.mp h y.1 (ZL hy)
 simpa using this
theorem bp {fr : List Str} {k : Str -> Option NameKind} (h : fr.all (fun y => BO (k y)) = true) : ∀ y ∈ fr, k y = some .cell \/ k y = some .free := fun y hy => xp.mp (u9.mp h y hy)
theorem eC {names : List (Str × NameKind)} {fr : List Str} (h : names.all (fun p => !BO (some p.2) || fr.elem p.1) = true) : ∀ y, (names.lookup y = some .cell \/ names.lookup y = some .free) -> y ∈ fr := fun y hy => by
 have hy' := xp.mpr hy
 cases e : names.lookup y with
 | none => rw [e] at hy'; cases hy'
 | some k =>
  rw [e] at hy'
  have := u9.mp h (y, k) (ZM e)
  simpa [hy'] using this
end L2
namespace L2
open PySem PySem.Spec PyProof.Rows Builtin Builtin.Str
section
variable {X : Cx} {pos : Pos}
theorem FV {pins : List (Addr × Obj)} {σ : St} {H : Hp} {s : Shared} (I : Inv X pins σ H s) : Yn < s.heap.objs.size :=
 Nat.lt_trans (by decide) (show uy < s.heap.objs.size from (I.mod.glob.keeps I.bk).lt)
def Et : TE := fun _ H Q => ∀ p, H p = none -> Q (.ref p) (upd H p (.dK []))
theorem qS : PE X (.Dict [] [] pos) Et := by
 intro pins s σ H Q I h
 have new : ObjOk X.prog X.w (upd H s.heap.objs.size (.dK [])) (s.heap.push { cls := .type "dict", data := .dict #[] }) s.heap.objs.size (.dK []) :=
  ⟨Zb _, beq_eq_false_iff_ne.mpr (Ne.symm (uZ (FV I))), [], .nil, Heap.DictOf.new s.heap⟩
 exact wpAny_Dict_empty ⟨.ref s.heap.objs.size, _, I.laid (t' := s.toks) (fun _ _ q => Heap.get?_push_of_some _ q) (zR _) new, rfl, h _ (I.hok.fresh (zR _))⟩
theorem x_ : ∀ (l : List (Array Nat)) (acc : Array Nat), (l.foldl (· ++ ·) acc).toList = acc.toList ++ (l.map Array.toList).flatten
 | [], acc => by simp
 | a :: r, acc => by rw [List.foldl_cons, x_ r]; simp
theorem Fy (x : Str) (n : Int) : V.str (Txt.mul x n) = T ((vd n.toNat (cs x)).flatten) := by
 unfold Txt.mul
 split
 ·rename_i h
  have e : n.toNat = 0 := by omega
  rw [e]; rfl
 ·rename_i h
  split
  ·rename_i h2
   rcases Bool.or_eq_true_iff.mp h2 with h3 | h3
   ·have e : n.toNat = 1 := by have := eq_of_beq h3; omega
    rw [e, Dg]; simp
   ·have e : cs x = [] := by
     have := eq_of_beq h3
     simpa [cs, YK] using this
    rw [Dg, e]; simp
  ·rw [Dg]
   congr 1
   show ((vd n.toNat x.cps).foldl (· ++ ·) #[]).toList = _
   rw [x_, List.map_replicate]; rfl
end
end L2
namespace L2
open PySem PySem.Spec PyProof.Rows Builtin Builtin.Str
section
variable {X : Cx}
structure Ew (C : Hp -> Prop) (J : It) (vs : List V) : Prop where
 go : ∀ i H, C H -> i < vs.length -> J.go i H
 yld : ∀ i H x H', C H -> i < vs.length -> J.yld i H x H' -> H' = H /\ vs[i]? = some x
 stop : ∀ H, C H -> J.stop vs.length H
theorem yN {J : It} {vs : List V} {σ' : St} {H1 : Hp} {Q : VK} {tt : TT} {te : TE} (C : Hp -> Prop) (E : Ew C J vs) (p : V -> Bool) (f : V -> V) (hlen : vs.length <= sizeLine)
 (hp : ∀ x ∈ vs, ∀ H (R : Bool -> Hp -> Prop), C H -> R (p x) H -> tt (some x :: σ') H R) (hf : ∀ x ∈ vs, p x = true -> ∀ H (R : VK), C H -> R (f x) H -> te (some x :: σ') H R)
 (D : Addr) (hD : H1 D = none) (hC : ∀ ys, C (upd H1 D (.lst ys))) (q : Q (.ref D) (upd H1 D (.lst ((vs.filter p).map f)))) :
 ∃ W : Nat -> Nat -> List V -> Hp -> Prop, (∃ m, W 0 m [] (upd H1 D (.lst []))) /\
  ∀ i m ys H2, W i m ys H2 -> H2 D = some (.lst ys) /\ ((J.stop i H2 /\ Q (.ref D) H2) \/ (J.go i H2 /\ ∀ x H3, J.yld i H2 x H3 ->
   tt (some x :: σ') H3 fun b H4 => if b = true then te (some x :: σ') H4 fun y H5 => H5 D = some (.lst ys) /\ ys.length < sizeLine /\ ∃ m', m' < m /\ W (i + 1) m' (ys ++ [y]) (upd H5 D (.lst (ys ++ [y])))
    else ∃ m', m' < m /\ W (i + 1) m' ys H4)) := by
 refine ⟨fun i m ys H2 => m = vs.length - i /\ i <= vs.length /\ ys = ((vs.take i).filter p).map f /\ H2 = upd H1 D (.lst ys), ⟨vs.length, by simp, Zb _, by simp, rfl⟩, ?_⟩
 rintro i m ys H2 ⟨rfl, hi, hys, rfl⟩
 refine ⟨al, ?_⟩
 by_cases hlt : i < vs.length
 ·refine .inr ⟨E.go i _ (hC _) hlt, fun x H3 y => ?_⟩
  obtain ⟨e, hx⟩ := E.yld i _ x H3 (hC _) hlt y
  subst e
  have hm : x ∈ vs := qh hx
  have htk : vs.take (i + 1) = vs.take i ++ [x] := by
   rw [Yk, hx]; rfl
  have hyl : ys.length <= i := by
   rw [hys, zl]
   exact sC (ZS _ _) (by simp [Zf]; omega)
  refine hp x hm _ _ (hC _) ?_
  cases hb : p x with
  | true =>
   rw [if_pos rfl]
   refine hf x hm hb _ _ (hC _) ⟨al, by omega, vs.length - (i + 1), by omega, rfl, hlt, ?_, ?_⟩
   ·rw [htk, Yc, qc, <- hys]
    simp [hb]
   ·funext z
    by_cases hz : z = D
    ·subst hz; rw [al, al]
    ·rw [ay hz, ay hz, ay hz]
  | false =>
   rw [if_neg xC]
   refine ⟨vs.length - (i + 1), by omega, rfl, hlt, ?_, rfl⟩
   rw [htk, Yc, qc, <- hys]
   simp [hb]
 ·have e : i = vs.length := by omega
  subst e
  refine .inl ⟨E.stop _ (hC _), ?_⟩
  rw [Yj] at hys
  rw [hys]; exact q
theorem CA {K : W.Frag} {C : Hp -> Prop} {a : Addr} {vs : List V} (h : ∀ H, C H -> SqL K H a vs) : Ew C (Itl K a) vs :=
 ⟨fun i H c hi => ⟨vs, vs[i], h H c, List.getElem?_eq_getElem hi⟩, fun i H x H' c _ y => ⟨y.1, y.2 vs (h H c)⟩, fun H c => ⟨vs, h H c, zR _⟩⟩
end
end L2
namespace L2
open PySem PySem.Spec PyProof.Rows
section
variable {X : Cx} {K : W.Frag} {pos : Pos}
theorem oZ (K : W.Frag) {es : List Expr} {k : Nat} {t : TGs} {n : Nat} (hc : X.calm = true) (h : PGs X es t) (hK : X.K = K := by rfl)
 (hn : (Ym es X.env).length = n := by rfl) (hst : (Ym es X.env).findIdx? (·.1) = none := by rfl) : PG X (.Tuple es k pos) (D7 K n t) := by
 subst hK; exact F1 hc h hn hst
end
section
variable {X : Cx} {T name id : String} {r : V -> List V -> Hp -> VK -> Prop} {o e : Expr} {es : List Expr} {to : TE} {t : TA} {apos cpos : Pos}
theorem d5 (K : W.Frag) (pa : PlainAttrs T) (slot : Slot T name id) (hty : typeOf (.builtin id) = pure (.type "method_descriptor")) (hm : MtR X id r) (ho : PE X o to) (ha : PA X (e :: es) t) (hK : X.K = K := by rfl)
 (hbase : Z6 o name X.env (eval o X.env) = eval o X.env := by rfl)
 (hfew : ((backTo cpos (starEach (e :: es) X.env)).all (fun x => !x.1) && (backToKw cpos (keywordEach [] X.env)).all (fun x => x.1.isSome)
  && decide ((e :: es).length + ([] : List Keyword).length + (if ([] : List Keyword).isEmpty then 0 else 1) < 30)) = true := by rfl)
 (hline : (apos.endLine == cpos.line) = true := by rfl) (hs : starEach (e :: es) X.env = (false, eval e X.env) :: starEach es X.env := by rfl) (hplain : (backTo cpos (starEach es X.env)).any (·.1) = false := by rfl) :
 PE X (.Call (.Attribute o name apos) (e :: es) [] cpos) (tBM K T r to t) := by
 subst hK; exact Gk pa slot hty hm ho ha hbase hfew hline hs hplain
end
section
variable {K : W.Frag} {tl : TE} {ks : List Nat} {σ : St} {H : Hp} {Q : VK} {tt : TT} {te : TE}
end
end L2
namespace L2
end L2
namespace L2
open PySem PySem.Spec PyProof.Rows Builtin Builtin.Str
def spN (c : Nat) : List Nat -> List (List Nat)
 | [] => [[]]
 | a :: r => if a = c then [] :: spN c r else match spN c r with
  | h :: t => (a :: h) :: t
  | [] => [[a]]
theorem rE (c : Nat) : ∀ l, spN c l ≠ []
 | [] => by simp [spN]
 | a :: r => by
  unfold spN
  split
  ·simp
  ·split <;> simp
theorem xE (c : Nat) : ∀ l : List Nat, c ∉ l -> spN c l = [l]
 | [], _ => rfl
 | a :: r, h => by
  have h1 : ¬ a = c := fun z => h (by rw [z]; simp)
  have h2 : c ∉ r := fun z => h (ue _ z)
  unfold spN
  rw [if_neg h1, xE c r h2]
theorem zq (c : Nat) : ∀ (l r : List Nat), c ∉ l -> spN c (l ++ c :: r) = l :: spN c r
 | [], r, _ => by simp [spN]
 | a :: l, r, h => by
  have h1 : ¬ a = c := fun z => h (by rw [z]; simp)
  have h2 : c ∉ l := fun z => h (ue _ z)
  rw [Z9]
  show (if a = c then _ else _) = _
  rw [if_neg h1, zq c l r h2]
theorem oA (c : Nat) : ∀ ps : List (List Nat), ps ≠ [] -> (∀ p ∈ ps, c ∉ p) -> spN c (bI [c] ps) = ps
 | [], h, _ => absurd rfl h
 | [p], _, h => xE c p (h p (by simp))
 | p :: q :: r, _, h => by
  rw [bI, List.append_assoc, List.singleton_append, zq c p _ (h p (by simp)), oA c (q :: r) (by simp) fun x hx => h x (ue _ hx)]
theorem wO (c : Nat) : ∀ l : List Nat, bI [c] (spN c l) = l
 | [] => rfl
 | a :: r => by
  have ih := wO c r
  unfold spN
  split
  ·rename_i e
   cases es : spN c r with
   | nil => exact absurd es (rE c r)
   | cons h t => rw [es] at ih; rw [bI, ih, e]; rfl
  ·cases es : spN c r with
   | nil => exact absurd es (rE c r)
   | cons h t =>
    rw [es] at ih
    cases t with
    | nil => simp [bI] at ih |-; exact ih
    | cons h2 t => rw [bI] at ih |-; rw [<- ih]; simp
theorem k9 (c : Nat) : ∀ (l : List Nat), ∀ p ∈ spN c l, c ∉ p
 | [], p, hp => by simp [spN] at hp; rw [hp]; simp
 | a :: r, p, hp => by
  unfold spN at hp
  split at hp
  ·rcases ve.mp hp with h | h
   ·rw [h]; simp
   ·exact k9 c r p h
  ·rename_i hne
   split at hp
   ·rename_i h t es
    rcases ve.mp hp with e | e
    ·rw [e]
     have := k9 c r h (by rw [es]; simp)
     simp only [ve, not_or]
     exact ⟨fun z => hne z.symm, this⟩
    ·exact k9 c r p (by rw [es]; exact ue _ e)
   ·rename_i es; exact absurd es (rE c r)
theorem vj (c : Nat) : ∀ l : List Nat, (spN c l).length <= l.length + 1
 | [] => by simp [spN]
 | a :: r => by
  have ih := vj c r
  unfold spN
  split
  ·simp; omega
  ·split
   ·rename_i es; rw [es] at ih; simp at ih |-; omega
   ·simp
theorem qW (c : Nat) : ∀ l : List Nat, ∀ p ∈ spN c l, p.length <= l.length /\ ∀ d ∈ p, d ∈ l
 | [], p, hp => by simp [spN] at hp; rw [hp]; simp
 | a :: r, p, hp => by
  unfold spN at hp
  split at hp
  ·rcases ve.mp hp with h | h
   ·rw [h]; simp
   ·obtain ⟨h1, h2⟩ := qW c r p h
    exact ⟨by rw [ql]; omega, fun d hd => ue _ (h2 d hd)⟩
  ·split at hp
   ·rename_i h t es
    rcases ve.mp hp with e | e
    ·obtain ⟨h1, h2⟩ := qW c r h (by rw [es]; simp)
     rw [e]
     refine ⟨by rw [ql, ql]; omega, fun d hd => ?_⟩
     rcases ve.mp hd with z | z
     ·rw [z]; simp
     ·exact ue _ (h2 d z)
    ·obtain ⟨h1, h2⟩ := qW c r p (by rw [es]; exact ue _ e)
     exact ⟨by rw [ql]; omega, fun d hd => ue _ (h2 d hd)⟩
   ·rename_i es; exact absurd es (rE c r)
theorem Bp (x y : Str) : Txt.split x y ≠ [] := by
 unfold Txt.split
 split
 ·simp
 ·split
  ·simp
  ·rw [StrLaws.partsBetween_eq]
   obtain ⟨p, r, e⟩ := StrLaws.partsFrom_ne x y.length 0 (occurrences x y 0 x.length (x.length + 1))
   rw [e]; simp
theorem B3 (l : List Nat) (c : Nat) : (Txt.split ⟨⟨l⟩⟩ ⟨#[c]⟩).map (fun x => cs x) = spN c l := by
 have h1 := StrLaws.join_split ⟨⟨l⟩⟩ ⟨#[c]⟩
 have h2 := StrLaws.split_free ⟨⟨l⟩⟩ c
 have h0 := Bp ⟨⟨l⟩⟩ ⟨#[c]⟩
 generalize Txt.split ⟨⟨l⟩⟩ ⟨#[c]⟩ = ps at h0 h1 h2
 have hj : bI [c] (ps.map fun x => cs x) = l := by
  have e : ps = (ps.map fun x => cs x).map S := by rw [uY]; conv => lhs; rw [<- List.map_id ps]
                                                   apply Zs; intro x _; rfl
  rw [e] at h1
  have h3 : Str.join (S [c]) ((ps.map fun x => cs x).map S) = S (bI [c] (ps.map fun x => cs x)) := by
   have := zL [c] (ps.map fun x => cs x)
   exact (StrLaws.glued_eq_join _ _).symm.trans this
  have h4 : S (bI [c] (ps.map fun x => cs x)) = ⟨⟨l⟩⟩ := h3.symm.trans h1
  have h5 := congrArg cs h4
  exact h5
 have hne : (ps.map fun x => cs x) ≠ [] := by
  intro z
  exact h0 (List.map_eq_nil_iff.mp z)
 rw [<- hj, oA c _ hne]
 intro p hp
 obtain ⟨x, hx, rfl⟩ := Zp.mp hp
 exact h2 x hx
section
variable {X : Cx} {e a b c : Expr} {pos : Pos}
def ES : V -> List V -> Hp -> VK -> Prop
 | .str x, [.str y], H, Q => (∃ c, cs y = [c] /\ (cs x).length + 2 <= sizeLine /\ ∀ p, H p = none -> Q (.ref p) (upd H p (.lst ((spN c (cs x)).map T))))
 | _, _, _, _ => False
theorem uA : ∀ (l : List (Str × Tok)), Vals (l.map fun p => V.str p.1) (strValues l)
 | [] => .nil
 | p :: r => .cons ⟨p.2, rfl⟩ (uA r)
theorem BH : MtR X "str.split" ES := by
 intro pins s σ H x xs v us Q I rx rs h
 unfold ES at h
 split at h
 ·rename_i x y
  obtain ⟨c, hc, hz, q⟩ := h
  obtain ⟨t, rfl⟩ := rx
  obtain ⟨u, rfl, t', rfl⟩ := iQ rs
  have hy := FM hc
  subst hy
  obtain ⟨⟨l⟩⟩ := x
  have hx : (⟨⟨l⟩⟩ : Str).length + 2 <= sizeLine := hz
  have fin : ∀ (l' : List (Str × Tok)) (k : Nat), l'.map (·.1) = Txt.split ⟨⟨l⟩⟩ ⟨#[c]⟩ -> EP X pins σ Q (.ref s.heap.objs.size) { s with toks := k, heap := s.heap.push { cls := .type "list", data := .seq (strValues l').toArray } } := fun l' k hl => by
   have e : (spN c l).map T = l'.map fun p => V.str p.1 := by
    rw [<- B3, <- hl, uY, uY]
    apply Zs
    intro p _; rfl
   have hlen : ((spN c l).map T).length <= sizeLine := by
    rw [zl]
    have := vj c l
    have hz' : l.length + 2 <= sizeLine := hz
    omega
   have hv : Vals ((spN c l).map T) (strValues l') := by rw [e]; exact uA l'
   exact ⟨.ref s.heap.objs.size, _, I.lnew (t' := k) hv hlen, rfl, q _ I.fresh⟩
  have hn : (partsBetween ⟨⟨l⟩⟩ (occurrences ⟨⟨l⟩⟩ ⟨#[c]⟩ 0 (⟨⟨l⟩⟩ : Str).length ((⟨⟨l⟩⟩ : Str).length + 1)) (⟨#[c]⟩ : Str).length).length <= sizeLine := by
   have e1 := StrLaws.occ_length_le ⟨⟨l⟩⟩ ⟨#[c]⟩ 0 (⟨⟨l⟩⟩ : Str).length ((⟨⟨l⟩⟩ : Str).length + 1)
   rw [length_partsBetween]; omega
  have hy : ((⟨#[c]⟩ : Str).length == 0) = false := rfl
  cases h1 : (decide ((⟨⟨l⟩⟩ : Str).length < (⟨#[c]⟩ : Str).length) || decide (strKind ⟨⟨l⟩⟩ < strKind ⟨#[c]⟩))
  ·cases hf : (occurrences ⟨⟨l⟩⟩ ⟨#[c]⟩ 0 (⟨⟨l⟩⟩ : Str).length ((⟨⟨l⟩⟩ : Str).length + 1)).isEmpty
   ·refine Yg F.slot_str_split (typeIs_str _ _ _) F.entry_str_split (F.args_str_split_2 _ _) (meets_str_split_sep ⟨⟨l⟩⟩ ⟨#[c]⟩ t t' h1 hy hf (by omega) hn) ?_
    show wants _ _ _ { s with toks := _, heap := s.heap.push { cls := .type "list", data := .seq (strsFrom s.toks (partsBetween ⟨⟨l⟩⟩ (occurrences ⟨⟨l⟩⟩ ⟨#[c]⟩ 0 (⟨⟨l⟩⟩ : Str).length ((⟨⟨l⟩⟩ : Str).length + 1)) (⟨#[c]⟩ : Str).length)).toArray } }
    rw [strsFrom_eq]
    exact fin (numbered s.toks _) _ ((numbered_texts _ _).trans ((if_neg (ne_true_of_eq_false h1)).trans (if_neg (ne_true_of_eq_false hf))).symm)
   ·refine Yg F.slot_str_split (typeIs_str _ _ _) F.entry_str_split (F.args_str_split_2 _ _) (meets_str_split_not_found ⟨⟨l⟩⟩ ⟨#[c]⟩ t t' h1 hy hf) ?_
    exact fin [(⟨⟨l⟩⟩, t)] s.toks ((if_neg (ne_true_of_eq_false h1)).trans (if_pos hf)).symm
  ·refine Yg F.slot_str_split (typeIs_str _ _ _) F.entry_str_split (F.args_str_split_2 _ _) (meets_str_split_cannot_occur ⟨⟨l⟩⟩ ⟨#[c]⟩ t t' h1) ?_
   exact fin [(⟨⟨l⟩⟩, t)] s.toks (if_pos h1).symm
 ·exact h.elim
def Gs : List Nat -> List Nat -> Bool
 | _, [] => true
 | [], _ :: _ => false
 | a :: l, b :: r => decide (a = b) && Gs l r
def Fu : R2
 | .ref l, .ref b, H, Q => ∃ xs zs, H l = some (.lst xs) /\ H b = some (.lst zs) /\ xs.length + zs.length <= sizeLine /\ ∀ p, H p = none -> Q (.ref p) (upd H p (.lst (xs ++ zs)))
 | _, _, _, _ => False
theorem nj : OpR X (binaryOp .Add) Fu := EW.imp fun x y H Q h => by
 unfold Fu at h; split at h
 ·obtain ⟨xs, zs, h1, h2, h3, q⟩ := h
  exact ⟨_, _, xs, zs, rfl, rfl, h1, h2, h3, q⟩
 ·exact h.elim
def FO : R2
 | .ref l, .int k, H, Q => ∃ xs, H l = some (.lst xs) /\ -(2 ^ 63) <= k /\ k < 2 ^ 63 /\ xs.length * k.toNat <= sizeLine /\ ∀ p, H p = none -> Q (.ref p) (upd H p (.lst (vd k.toNat xs).flatten))
 | _, _, _, _ => False
theorem ww : OpR X (binaryOp .Mult) FO := Gb.imp fun x y H Q h => by
 unfold FO at h; split at h
 ·obtain ⟨xs, h1, h2, h3, h4, q⟩ := h
  exact ⟨_, _, xs, rfl, rfl, h1, h2, h3, h4, q⟩
 ·exact h.elim
theorem fj (K : W.Frag) (h : X.K = K := by rfl) : SlR X (G6 K) := h ▸ Dv
def Cl (K : W.Frag) : List V -> Hp -> VK -> Prop
 | [.ref p], H, Q => ∃ ys, (SqL K H p ys \/ SqT K H p ys) /\ ∀ l, H l = none -> Q (.ref l) (upd H l (.lst ys))
 | _, _, _ => False
theorem oV (K : W.Frag) (hK : X.K = K := by rfl) : CallR X (.type "list") (Cl K) := by
 subst hK
 refine wC.imp fun xs H Q h => ?_
 unfold Cl at h; split at h
 ·obtain ⟨ys, h1, q⟩ := h
  exact ⟨_, ys, rfl, h1, q⟩
 ·exact h.elim
def yi (K : W.Frag) : List V -> Hp -> VK -> Prop
 | [.ref p], H, Q => ∃ ys, (SqL K H p ys /\ ∀ l, H l = none -> Q (.ref l) (upd H l (.tup ys))) \/ (SqT K H p ys /\ Q (.ref p) H)
 | _, _, _ => False
theorem sU (K : W.Frag) (hK : X.K = K := by rfl) : CallR X (.type "tuple") (yi K) := by
 subst hK
 refine tM.imp fun xs H Q h => ?_
 unfold yi at h; split at h
 ·obtain ⟨ys, h1⟩ := h
  exact ⟨_, ys, rfl, h1⟩
 ·exact h.elim
inductive EqH (K : W.Frag) (H : Hp) : Nat -> V -> V -> Bool -> Prop
 | flat {n x y} : cj x = true -> cj y = true -> EqH K H n x y (eqV x y)
 | same {n p} : EqH K H n (.ref p) (.ref p) true
 | lst {n p q xs ys} {e : Nat -> Bool} : p ≠ q -> SqL K H p xs -> SqL K H q ys -> xs.length = ys.length -> (∀ j x y, xs[j]? = some x -> ys[j]? = some y -> EqH K H n x y (e j)) -> EqH K H (n + 1) (.ref p) (.ref q) ((uF xs.length).all e)
 | len {n p q xs ys} : p ≠ q -> SqL K H p xs -> SqL K H q ys -> xs.length ≠ ys.length -> EqH K H (n + 1) (.ref p) (.ref q) false
 | tup {n p q xs ys} {e : Nat -> Bool} : p ≠ q -> SqT K H p xs -> SqT K H q ys -> (∀ j x y, xs[j]? = some x -> ys[j]? = some y -> EqH K H n x y (e j)) -> EqH K H (n + 1) (.ref p) (.ref q) ((uF (min xs.length ys.length)).all e && xs.length == ys.length)
 | lt {n p q xs ys} : SqL K H p xs -> SqT K H q ys -> EqH K H (n + 1) (.ref p) (.ref q) false
 | tl {n p q xs ys} : SqT K H p xs -> SqL K H q ys -> EqH K H (n + 1) (.ref p) (.ref q) false
theorem h7 {P : Value -> Value -> Bool -> Prop} {xs ys : List V} {its its' : List Value} {e : Nat -> Bool} (r : Vals xs its) (r' : Vals ys its') (h : ∀ j x y u v, xs[j]? = some x -> ys[j]? = some y -> RelV x u -> RelV y v -> P u v (e j)) :
 ∀ j (h1 : j < its.toArray.size) (h2 : j < its'.toArray.size), P its.toArray[j] its'.toArray[j] (e j) := fun j g1 g2 => by
 have h1 : xs.length = its.length := r.length
 have h2 : ys.length = its'.length := r'.length
 have g1' : j < its.length := by simpa using g1
 have g2' : j < its'.length := by simpa using g2
 have l1 : j < xs.length := by omega
 have l2 : j < ys.length := by omega
 obtain ⟨w1, e1, r1⟩ := r.get (List.getElem?_eq_getElem l1)
 obtain ⟨w2, e2, r2⟩ := r'.get (List.getElem?_eq_getElem l2)
 have z1 : its.toArray[j] = w1 := by
  have : its[j]? = some its[j] := List.getElem?_eq_getElem g1'
  rw [this] at e1; simpa using Zm e1
 have z2 : its'.toArray[j] = w2 := by
  have : its'[j]? = some its'[j] := List.getElem?_eq_getElem g2'
  rw [this] at e2; simpa using Zm e2
 rw [z1, z2]
 exact h j _ _ _ _ (List.getElem?_eq_getElem l1) (List.getElem?_eq_getElem l2) r1 r2
theorem EqH.at {K : W.Frag} {H : Hp} {n : Nat} {x y : V} {b : Bool} (h : EqH K H n x y b) : ∀ {X : Cx} {pins : List (Addr × Obj)} {σ : St} {s : Shared} {A : Around} {u v : Value}, X.K = K -> Inv X pins σ H s -> A.units + n < cLine -> RelV x u -> RelV y v -> SeqAt.EqAt A s u v b := by
 induction h with
 | flat fx fy =>
  intro X pins σ s A u v hK I hu rx ry
  exact Bz rx ry fx fy
 | same =>
  intro X pins σ s A u v hK I hu rx ry
  cases rx; cases ry
  exact SeqAt.EqAt.same _
 | @lst n p q xs ys e hpq hx hy hl _ ih =>
  intro X pins σ s A u v hK I hu rx ry
  cases rx; cases ry
  subst hK
  obtain ⟨its, r, pl, hz⟩ := I.list hx
  obtain ⟨its', r', pl', hz'⟩ := I.list hy
  have h1 : xs.length = its.length := r.length
  have h2 : ys.length = its'.length := r'.length
  have := SeqAt.RcAt.lists (A := A) (e := e) pl.isList pl'.isList (by simp; omega) (by omega) (h7 r r' fun j x y u v g1 g2 r1 r2 => ih j x y g1 g2 rfl I (by show A.units + 1 + n < cLine; omega) r1 r2)
  rw [zj, <- h1] at this
  exact .of_refs hpq this
 | @len n p q xs ys hpq hx hy hl =>
  intro X pins σ s A u v hK I hu rx ry
  cases rx; cases ry
  subst hK
  obtain ⟨its, r, pl, hz⟩ := I.list hx
  obtain ⟨its', r', pl', hz'⟩ := I.list hy
  have h1 : xs.length = its.length := r.length
  have h2 : ys.length = its'.length := r'.length
  exact .of_refs hpq (SeqAt.RcAt.lists_lengths pl.isList pl'.isList (by simp; omega) (by omega))
 | @tup n p q xs ys e hpq hx hy _ ih =>
  intro X pins σ s A u v hK I hu rx ry
  cases rx; cases ry
  subst hK
  obtain ⟨its, r, pl, hz⟩ := I.tuple hx
  obtain ⟨its', r', pl', hz'⟩ := I.tuple hy
  have h1 : xs.length = its.length := r.length
  have h2 : ys.length = its'.length := r'.length
  have := SeqAt.RcAt.tuples (A := A) (e := e) pl pl' (by omega) (h7 r r' fun j x y u v g1 g2 r1 r2 => ih j x y g1 g2 rfl I (by show A.units + 1 + n < cLine; omega) r1 r2)
  rw [zj, zj, <- h1, <- h2] at this
  exact .of_refs hpq this
 | lt hx hy =>
  intro X pins σ s A u v hK I hu rx ry
  cases rx; cases ry
  subst hK
  obtain ⟨its, r, pl, hz⟩ := I.list hx
  obtain ⟨its', r', pl', hz'⟩ := I.tuple hy
  exact SeqAt.EqAt.list_tuple pl.isList pl' (by omega)
 | tl hx hy =>
  intro X pins σ s A u v hK I hu rx ry
  cases rx; cases ry
  subst hK
  obtain ⟨its, r, pl, hz⟩ := I.tuple hx
  obtain ⟨its', r', pl', hz'⟩ := I.list hy
  exact SeqAt.EqAt.tuple_list pl pl'.isList (by omega)
inductive EqR (K : W.Frag) (H : Hp) (p q : Addr) : Bool -> Prop
 | lst {xs ys} {e : Nat -> Bool} : SqL K H p xs -> SqL K H q ys -> xs.length = ys.length -> (∀ j x y, xs[j]? = some x -> ys[j]? = some y -> EqH K H 50 x y (e j)) -> EqR K H p q ((uF xs.length).all e)
 | len {xs ys} : SqL K H p xs -> SqL K H q ys -> xs.length ≠ ys.length -> EqR K H p q false
 | tup {xs ys} {e : Nat -> Bool} : SqT K H p xs -> SqT K H q ys -> (∀ j x y, xs[j]? = some x -> ys[j]? = some y -> EqH K H 50 x y (e j)) -> EqR K H p q ((uF (min xs.length ys.length)).all e && xs.length == ys.length)
def Bv (K : W.Frag) (neg : Bool) : R2
 | .ref p, .ref q, H, Q => ∃ b, EqR K H p q b /\ Q (.bl (neg ^^ b)) H
 | _, _, _, _ => False
theorem EY (K : W.Frag) (hu : X.A.units + 100 < cLine) (hK : X.K = K := by rfl) : OpR X (Zo .Eq) (Bv K false) := by
 subst hK
 intro pins s σ H x y v u Q I rx ry h
 unfold Bv at h
 split at h
 ·rename_i p q
  obtain ⟨b, hb, q⟩ := h
  cases rx; cases ry
  cases hb with
  | @lst xs ys e hx hy hl he =>
   obtain ⟨its, r, pl, hz⟩ := I.list hx
   obtain ⟨its', r', pl', hz'⟩ := I.list hy
   have h1 : xs.length = its.length := r.length
   have h2 : ys.length = its'.length := r'.length
   refine SeqAt.eq_listAt (e := e) pl.isList pl'.isList (by simp; omega) (by omega) (h7 r r' fun j x y u v g1 g2 r1 r2 => (he j x y g1 g2).at rfl I (by show X.A.units + 1 + 50 < cLine; omega) r1 r2) ⟨.bl _, H, I, rfl, ?_⟩
   rw [zj, <- h1]; simpa using q
  | @len xs ys hx hy hl =>
   obtain ⟨its, r, pl, hz⟩ := I.list hx
   obtain ⟨its', r', pl', hz'⟩ := I.list hy
   have h1 : xs.length = its.length := r.length
   have h2 : ys.length = its'.length := r'.length
   exact SeqAt.eq_list_lengthsAt pl.isList pl'.isList (by simp; omega) (by omega) ⟨.bl false, H, I, rfl, by simpa using q⟩
  | @tup xs ys e hx hy he =>
   obtain ⟨its, r, pl, hz⟩ := I.tuple hx
   obtain ⟨its', r', pl', hz'⟩ := I.tuple hy
   have h1 : xs.length = its.length := r.length
   have h2 : ys.length = its'.length := r'.length
   refine SeqAt.eq_tupleAt (e := e) pl pl' (by omega) (h7 r r' fun j x y u v g1 g2 r1 r2 => (he j x y g1 g2).at rfl I (by show X.A.units + 1 + 50 < cLine; omega) r1 r2) ⟨.bl _, H, I, rfl, ?_⟩
   rw [zj, zj, <- h1, <- h2]; simpa using q
 ·exact h.elim
theorem E1 (K : W.Frag) (hu : X.A.units + 100 < cLine) (hK : X.K = K := by rfl) : OpR X (Zo .NotEq) (Bv K true) := by
 subst hK
 intro pins s σ H x y v u Q I rx ry h
 unfold Bv at h
 split at h
 ·rename_i p q
  obtain ⟨b, hb, q⟩ := h
  cases rx; cases ry
  cases hb with
  | @lst xs ys e hx hy hl he =>
   obtain ⟨its, r, pl, hz⟩ := I.list hx
   obtain ⟨its', r', pl', hz'⟩ := I.list hy
   have h1 : xs.length = its.length := r.length
   have h2 : ys.length = its'.length := r'.length
   refine SeqAt.RcNeAt.lists (e := e) pl.isList pl'.isList (by simp; omega) (by omega) (h7 r r' fun j x y u v g1 g2 r1 r2 => (he j x y g1 g2).at rfl I (by show X.A.units + 1 + 50 < cLine; omega) r1 r2) X.prog X.w X.xe _ ⟨.bl _, H, I, rfl, ?_⟩
   rw [zj, <- h1]; simpa using q
  | @len xs ys hx hy hl =>
   obtain ⟨its, r, pl, hz⟩ := I.list hx
   obtain ⟨its', r', pl', hz'⟩ := I.list hy
   have h1 : xs.length = its.length := r.length
   have h2 : ys.length = its'.length := r'.length
   exact SeqAt.RcNeAt.lists_lengths pl.isList pl'.isList (by simp; omega) (by omega) X.prog X.w X.xe _ ⟨.bl true, H, I, rfl, by simpa using q⟩
  | @tup xs ys e hx hy he =>
   obtain ⟨its, r, pl, hz⟩ := I.tuple hx
   obtain ⟨its', r', pl', hz'⟩ := I.tuple hy
   have h1 : xs.length = its.length := r.length
   have h2 : ys.length = its'.length := r'.length
   refine SeqAt.RcNeAt.tuples (e := e) pl pl' (by omega) (h7 r r' fun j x y u v g1 g2 r1 r2 => (he j x y g1 g2).at rfl I (by show X.A.units + 1 + 50 < cLine; omega) r1 r2) X.prog X.w X.xe _ ⟨.bl _, H, I, rfl, ?_⟩
   rw [zj, zj, <- h1, <- h2]; simpa using q
 ·exact h.elim
theorem EqR.flatL {K : W.Frag} {H : Hp} {p q : Addr} {xs : List V} (hx : SqL K H p xs) (hy : SqL K H q xs) (f : xs.all cj = true) : EqR K H p q true := by
 have h := EqR.lst (K := K) (H := H) (e := fun j => eqV (xs.getD j .non) (xs.getD j .non)) hx hy rfl fun j x y gx gy => by
  have e1 : xs.getD j .non = x := by simp [List.getD, gx]
  rw [e1]
  rw [gx] at gy
  cases gy
  exact .flat (u9.mp f _ (qh gx)) (u9.mp f _ (qh gx))
 have e : (uF xs.length).all (fun j => eqV (xs.getD j .non) (xs.getD j .non)) = true := by
  rw [u9]
  intro j hj
  have hf : cj (xs.getD j .non) = true := by
   have hj' : j < xs.length := by simpa using hj
   have : xs.getD j .non ∈ xs := by
    have e1 : xs.getD j .non = xs[j] := by simp [List.getD, hj']
    rw [e1]; exact ZP hj'
   exact u9.mp f _ this
  generalize xs.getD j .non = z at hf
  cases z <;> simp [eqV] at hf |- <;> simp [cj] at hf
 rw [e] at h; exact h
end
end L2
namespace PySem
open Sem (wp)
open Builtin
end PySem
namespace L2
open PySem PySem.Spec PyProof.Rows Builtin Builtin.Str
section
variable {X : Cx} {e a b c : Expr} {pos : Pos}
def pR (K : W.Frag) (neg : Bool) : R2 := fun x y H Q => match eqS x y with
 | some k => Q (.bl (neg ^^ k)) H
 | none => Bv K neg x y H Q
theorem bf (K : W.Frag) (hu : X.A.units + 100 < cLine) (hK : X.K = K := by rfl) : OpR X (Zo .Eq) (pR K false) := ((FU (by omega)).or (EY K hu hK)).imp fun x y H Q h => by
 unfold pR at h
 split at h
 ·rename_i k hk
  obtain ⟨h1, h2⟩ := xt hk
  exact .inl (.inl ⟨h1, by rw [h2]; simpa using h⟩)
 ·exact .inr h
theorem ii (K : W.Frag) (hu : X.A.units + 100 < cLine) (hK : X.K = K := by rfl) : OpR X (Zo .NotEq) (pR K true) := ((EN (by omega)).or (E1 K hu hK)).imp fun x y H Q h => by
 unfold pR at h
 split at h
 ·rename_i k hk
  obtain ⟨h1, h2⟩ := xt hk
  exact .inl (.inl ⟨h1, by rw [h2]; simpa using h⟩)
 ·exact .inr h
variable {K : W.Frag} {neg : Bool} {H : Hp} {Q : VK}
theorem zG {i j : Int} : pR K neg (.int i) (.int j) H Q = Q (.bl (neg ^^ decide (i = j))) H := rfl
theorem BC {i j : Bool} : pR K neg (.bl i) (.bl j) H Q = Q (.bl (neg ^^ decide (i = j))) H := rfl
theorem zZ {i j : Str} : pR K neg (.str i) (.str j) H Q = Q (.bl (neg ^^ decide (i.cps.toList = j.cps.toList))) H := rfl
theorem zI {p q : Addr} : pR K neg (.ref p) (.ref q) H Q = ∃ b, EqR K H p q b /\ Q (.bl (neg ^^ b)) H := rfl
theorem Bi : pR K neg .non .non H Q = Q (.bl (neg ^^ true)) H := rfl
theorem Bb {i : Int} : pR K neg .non (.int i) H Q = Q (.bl (neg ^^ false)) H := rfl
theorem CP {i : Int} : pR K neg (.int i) .non H Q = Q (.bl (neg ^^ false)) H := rfl
theorem BI {i : Int} {s : Str} : pR K neg (.int i) (.str s) H Q = Q (.bl (neg ^^ false)) H := rfl
theorem Cr {i : Int} {s : Str} : pR K neg (.str s) (.int i) H Q = Q (.bl (neg ^^ false)) H := rfl
end
theorem Br {K : W.Frag} {tl : TE} {g : TG} {tb : TS} {D : fA} {σ : St} {H : Hp} (h : tl σ H fun v H1 => rZ (Cz K (tC v)) g tb D σ H1) : rZ (Cz K tl) g tb D σ H := h
theorem rR {K : W.Frag} {tl : TE} {g : TG} {tb : TS} {D : fA} {σ : St} {H : Hp} (h : tl σ H fun v H1 => rZ (uG K (tC v)) g tb D σ H1) : rZ (uG K tl) g tb D σ H := h
theorem BS {K : W.Frag} {a : Addr} {xs : List V} {g : TG} {tb : TS} {D : fA} {σ : St} {H : Hp} (hq : SqT K H a xs) (h : ∃ W : Nat -> Nat -> St -> Hp -> Prop, (∃ m, W 0 m σ H) /\ ∀ i m σ H, W i m σ H ->
 ((Itt K a).stop i H /\ D.nx σ H) \/ ((Itt K a).go i H /\ ∃ N : St -> Hp -> Prop, (∀ σ' H', N σ' H' -> ∃ m', m' < m /\ W (i + 1) m' σ' H') /\ ∀ x H', (Itt K a).yld i H x H' -> g x σ H' fun σ2 H2 => tb { D with nx := N, ct := N, bk := D.nx } σ2 H2)) : rZ (Cz K (tC (.ref a))) g tb D σ H := ⟨a, rfl, ⟨xs, hq⟩, h⟩
theorem nX {K : W.Frag} {a : Addr} {xs : List V} {g : TG} {tb : TS} {D : fA} {σ : St} {H : Hp} (hq : SqL K H a xs) (h : ∃ W : Nat -> Nat -> St -> Hp -> Prop, (∃ m, W 0 m σ H) /\ ∀ i m σ H, W i m σ H ->
 ((Itl K a).stop i H /\ D.nx σ H) \/ ((Itl K a).go i H /\ ∃ N : St -> Hp -> Prop, (∀ σ' H', N σ' H' -> ∃ m', m' < m /\ W (i + 1) m' σ' H') /\ ∀ x H', (Itl K a).yld i H x H' -> g x σ H' fun σ2 H2 => tb { D with nx := N, ct := N, bk := D.nx } σ2 H2)) : rZ (uG K (tC (.ref a))) g tb D σ H := ⟨a, rfl, ⟨xs, hq⟩, h⟩
theorem dC {H H' : Hp} {x : V} {t : String} (s : Same H H') (h : aZ H x = some t) : aZ H' x = some t := by
 cases x with
 | ref p =>
  unfold aZ at h |-
  dsimp only at h |-
  cases e : H p with
  | none => rw [e] at h; cases h
  | some o => rw [e] at h; rw [s _ _ e]; exact h
 | _ => exact h
theorem xI {n j : Nat} (h : j < n) : ixN n (j : Int) = some j := by
 unfold ixN
 rw [if_pos (by omega)]
 simp [h]
theorem xZ {xs : List V} {H H1 : Hp} {Q : VK} {i : Int} {q : Addr} {o : HO} (h : atI xs i = some (.ref q)) (hq : H q = none) (ho : H1 q = some o) (po : pf o = true) (k : Q (.ref q) (upd H q o)) : mf xs H H1 Q (.int i) := by
 unfold mf
 simp only [h, ho]
 exact ⟨hq, po, k⟩
end L2
namespace L2
theorem bA {k : Nat} {A : PySem.Around} (r : Room k A) : A.units + 100 < PySem.cLine := by have := r.un; omega
end L2
namespace L2
open PySem PySem.Spec PyProof.Rows
section
variable {κ : Type} [DecidableEq κ]
def jB (kvs : List (κ × V)) (k : κ) : Option V := (kvs.find? fun kv => decide (kv.1 = k)).map (·.2)
def fG (kvs : List (κ × V)) (k : κ) (v : V) : List (κ × V) :=
 if (kvs.any fun kv => decide (kv.1 = k)) = true then kvs.map (fun kv => if kv.1 = k then (kv.1, v) else kv) else kvs ++ [(k, v)]
def k7 (kvs : List (κ × V)) (k : κ) : List (κ × V) := kvs.filter fun kv => decide (kv.1 ≠ k)
theorem kM {p : κ × V} {r : List (κ × V)} {k : κ} (e : p.1 = k) : jB (p :: r) k = some p.2 := by simp [jB, List.find?_cons, e]
theorem jP {p : κ × V} {r : List (κ × V)} {k : κ} (e : ¬ p.1 = k) : jB (p :: r) k = jB r k := by simp [jB, List.find?_cons, e]
theorem sq (k : κ) : ∀ kvs : List (κ × V), (kvs.any fun kv => decide (kv.1 = k)) = (jB kvs k).isSome
 | [] => rfl
 | p :: r => by
  rw [List.any_cons]
  by_cases e : p.1 = k
  ·simp only [kM e, decide_eq_true e, Bool.true_or, Option.isSome_some]
  ·rw [jP e, decide_eq_false e, Bool.false_or]; exact sq k r
theorem qi (kvs : List (κ × V)) (k : κ) (v : V) : (fG kvs k v).length <= kvs.length + 1 := by
 unfold fG
 split
 ·rw [zl]; omega
 ·rw [uf, ql, Y2]; omega
theorem xl {kvs : List (κ × V)} {k : κ} (v : V) (h : jB kvs k = none) : fG kvs k v = kvs ++ [(k, v)] := by
 unfold fG
 rw [sq, h]
 exact if_neg (by decide)
theorem RelO.isSome_eq {o : Option V} {u : Option Value} (r : RelO o u) : o.isSome = u.isSome := by
 cases o with
 | none => cases u with
  | none => rfl
  | some _ => exact (show False from r).elim
 | some _ => cases u with
  | none => exact (show False from r).elim
  | some _ => rfl
theorem KV.val {kvs : List (κ × V)} {vs : List (κ × Value)} (r : KV kvs vs) (k : κ) : RelO (jB kvs k) (valueAt vs k) := by
 unfold KV at r
 induction r with
 | nil => exact Z1
 | @cons p q ps qs h t ih =>
  obtain ⟨h1, h2⟩ := h
  by_cases e : p.1 = k
  ·have e' : q.1 = k := h1.symm.trans e
   have b : valueAt (q :: qs) k = some q.2 := by simp [valueAt, List.find?_cons, e']
   rw [kM e, b]; exact h2
  ·have e' : ¬ q.1 = k := fun z => e (h1.trans z)
   have b : valueAt (q :: qs) k = valueAt qs k := by simp [valueAt, List.find?_cons, e']
   rw [jP e, b]; exact ih
theorem KV.any {kvs : List (κ × V)} {vs : List (κ × Value)} (r : KV kvs vs) (k : κ) : (kvs.any fun kv => decide (kv.1 = k)) = vs.any fun kv => decide (kv.1 = k) := by
 unfold KV at r
 induction r with
 | nil => rfl
 | cons h t ih => rw [List.any_cons, List.any_cons, ih, h.1]
theorem KV.repl {kvs : List (κ × V)} {vs : List (κ × Value)} (r : KV kvs vs) (k : κ) {y : V} {u : Value} (ry : RelV y u) :
 KV (kvs.map fun kv => if kv.1 = k then (kv.1, y) else kv) (vs.map fun kv => if kv.1 = k then (kv.1, u) else kv) := by
 unfold KV at r |-
 induction r with
 | nil => exact .nil
 | @cons p q ps qs h t ih =>
  rw [ud, ud]
  refine .cons ?_ ih
  obtain ⟨h1, h2⟩ := h
  by_cases e : p.1 = k
  ·rw [if_pos e, if_pos (h1.symm.trans e)]; exact ⟨h1, ry⟩
  ·rw [if_neg e, if_neg (fun z => e (h1.trans z))]; exact ⟨h1, h2⟩
theorem KV.put {kvs : List (κ × V)} {vs : List (κ × Value)} (r : KV kvs vs) (k : κ) {y : V} {u : Value} (ry : RelV y u) : KV (fG kvs k y) (stored vs k u) := by
 unfold fG stored
 rw [r.any k]
 by_cases e : (vs.any fun kv => decide (kv.1 = k)) = true
 ·rw [if_pos e, if_pos e]; exact r.repl k ry
 ·rw [if_neg e, if_neg e]; exact Paired.snoc r ⟨rfl, ry⟩
theorem KV.drop {kvs : List (κ × V)} {vs : List (κ × Value)} (r : KV kvs vs) (k : κ) : KV (k7 kvs k) (without vs k) := by
 unfold KV at r |-
 unfold k7 without
 induction r with
 | nil => exact .nil
 | @cons p q ps qs h t ih =>
  obtain ⟨h1, h2⟩ := h
  rw [List.filter_cons, List.filter_cons]
  by_cases e : p.1 = k
  ·have a : ¬ decide (p.1 ≠ k) = true := by simp [e]
   have b : ¬ decide (q.1 ≠ k) = true := by simp [h1.symm.trans e]
   rw [if_neg a, if_neg b]; exact ih
  ·have e' : ¬ q.1 = k := fun z => e (h1.trans z)
   have a : decide (p.1 ≠ k) = true := by simp [e]
   have b : decide (q.1 ≠ k) = true := by simp [e']
   rw [if_pos a, if_pos b]; exact .cons ⟨h1, h2⟩ ih
theorem KV.keys {kvs : List (κ × V)} {vs : List (κ × Value)} (r : KV kvs vs) : kvs.map (·.1) = vs.map (·.1) := by
 unfold KV at r
 induction r with
 | nil => rfl
 | cons h t ih => rw [ud, ud, ih, h.1]
theorem KV.length {kvs : List (κ × V)} {vs : List (κ × Value)} (r : KV kvs vs) : kvs.length = vs.length := Paired.length r
theorem xq (kvs : List (κ × V)) (k : κ) : (k7 kvs k).length <= kvs.length := ZS _ _
end
theorem rB {P : Program} {w : World} {k : Key} {u : Value} (r : RelV (kV k) u) : (bN P w).is k u = true := by
 cases k with
 | inl i => obtain ⟨t, e⟩ := (show ∃ t, u = YU i t from r); subst e; exact xr P w i t
 | inr x => obtain ⟨t, e⟩ := (show ∃ t, u = Value.str x t from r); subst e; exact wK P w x t
theorem uh {P : Program} {w : World} : ∀ {ks : List Key} {us : List Value}, Vals (ks.map kV) us -> ItemsAre (bN P w) ks us
 | [], _, r => by rw [List.map_nil] at r; cases r; exact .nil
 | k :: ks, _, r => by
  rw [ud] at r
  cases r with
  | cons h t => exact .cons (rB h) (uh t)
abbrev KT (H : Hp) : List (List Key × V) -> List (List Key × Addr × Value) -> Prop := Paired fun p q => p.1 = q.1 /\ H q.2.1 = some (.tup (p.1.map kV)) /\ RelV p.2 q.2.2
theorem KT.val {H : Hp} {kvs : List (List Key × V)} {xs : List (List Key × Addr × Value)} (r : KT H kvs xs) (k : List Key) : RelO (jB kvs k) ((atKey xs k).map (·.2)) := by
 induction r with
 | nil => exact Z1
 | @cons p q ps qs h t ih =>
  obtain ⟨h1, _, h2⟩ := h
  by_cases e : p.1 = k
  ·have e' : q.1 = k := h1.symm.trans e
   have b : atKey (q :: qs) k = some q.2 := by simp [atKey, List.find?_cons, e']
   rw [kM e, b]; exact h2
  ·have e' : ¬ q.1 = k := fun z => e (h1.trans z)
   have b : atKey (q :: qs) k = atKey qs k := by simp [atKey, List.find?_cons, e']
   rw [jP e, b]; exact ih
theorem KT.repl {H : Hp} {kvs : List (List Key × V)} {xs : List (List Key × Addr × Value)} (r : KT H kvs xs) (k : List Key) {y : V} {u : Value} (ry : RelV y u) :
 KT H (kvs.map fun kv => if kv.1 = k then (kv.1, y) else kv) (xs.map (putAt k u)) := by
 induction r with
 | nil => exact .nil
 | @cons p q ps qs h t ih =>
  rw [ud, ud]
  refine .cons ?_ ih
  obtain ⟨h1, h2, h3⟩ := h
  unfold putAt
  by_cases e : p.1 = k
  ·rw [if_pos e, if_pos (h1.symm.trans e)]; exact ⟨h1, h2, ry⟩
  ·rw [if_neg e, if_neg (fun z => e (h1.trans z))]; exact ⟨h1, h2, h3⟩
theorem KT.put {H : Hp} {kvs : List (List Key × V)} {xs : List (List Key × Addr × Value)} (r : KT H kvs xs) (k : List Key) {b : Addr} {y : V} {u : Value} (hb : H b = some (.tup (k.map kV))) (ry : RelV y u) :
 KT H (fG kvs k y) (storedH xs k b u) := by
 have e : (kvs.any fun kv => decide (kv.1 = k)) = (atKey xs k).isSome := by
  rw [sq, (r.val k).isSome_eq, ZA]
 unfold fG storedH
 rw [e]
 by_cases q : (atKey xs k).isSome = true
 ·rw [if_pos q, if_pos q]; exact r.repl k ry
 ·rw [if_neg q, if_neg q]; exact Paired.snoc r ⟨rfl, hb, ry⟩
theorem KT.keeps {H H' : Hp} {kvs : List (List Key × V)} {xs : List (List Key × Addr × Value)} (r : KT H kvs xs) (ht : ∀ b ys, H b = some (.tup ys) -> H' b = some (.tup ys)) : KT H' kvs xs :=
 Paired.mapP r fun _ _ z => ⟨z.1, ht _ _ z.2.1, z.2.2⟩
section
variable {P : Program} {w : World} {H : Hp} {h : Heap} {a : Addr}
theorem Eu {u : HO} (ok : HOk P w H h) (e : Rd H a u) : ObjOk P w H h a u := e.ok ok
theorem uS {kvs : List (Key × V)} (ok : HOk P w H h) (e : Rd H a (.dK kvs)) : kvs.length <= sizeLine /\ (a == Yn) = false /\ ∃ vs, KV kvs vs /\ h.DictOf (bN P w) a vs :=
 show ObjOk P w H h a (.dK kvs) from Eu ok e
theorem ye {kvs : List (Key × V)} (ok : HOk P w H h) (e : H a = some (.dK kvs)) : kvs.length <= sizeLine /\ (a == Yn) = false /\ ∃ vs, KV kvs vs /\ h.DictOf (bN P w) a vs := uS ok (.inl e)
theorem rl {ks : List Key} (ok : HOk P w H h) (e : H a = some (.tup (ks.map kV))) : (tupleKind (bN P w)).is h ks a := by
 obtain ⟨_, its, r, o, h1, h2, n, h3⟩ := (show ObjOk P w H h a (.tup (ks.map kV)) from ok a _ e)
 exact ⟨o, its.toArray, n, h1, h2, h3, by simpa using uh r⟩
theorem uQ {kvs : List (List Key × V)} (ok : HOk P w H h) (e : Rd H a (.dT kvs)) : kvs.length <= sizeLine /\ (a == Yn) = false /\
 ∃ xs, KT H kvs xs /\ h.DictOfH (tupleKind (bN P w)) a xs := by
 obtain ⟨z, y, xs, r, o, es, ep, h1, h2, h3, h4, h5⟩ := (show ObjOk P w H h a (.dT kvs) from Eu ok e)
 refine ⟨z, y, xs, r, o, es, ep, h1, h2, h3, h4, fun x hx => ?_, h5⟩
 have all : ∀ {l : List (List Key × V)} {m : List (List Key × Addr × Value)}, KT H l m -> ∀ x ∈ m, (tupleKind (bN P w)).is h x.1 x.2.1 := by
  intro l m q
  induction q with
  | nil => intro x hx; exact nomatch hx
  | @cons p q ps qs hq t ih =>
   intro x hx
   rcases ve.mp hx with e | hx
   ·subst e
    exact rl ok (by rw [<- hq.1]; exact hq.2.1)
   ·exact ih x hx
 exact all r x hx
theorem Gz {kvs : List (List Key × V)} (ok : HOk P w H h) (e : H a = some (.dT kvs)) : kvs.length <= sizeLine /\ (a == Yn) = false /\
 ∃ xs, KT H kvs xs /\ h.DictOfH (tupleKind (bN P w)) a xs := uQ ok (.inl e)
end
def DGet (H : Hp) (a : Addr) (y : V) (r : Option V) : Prop :=
 (∃ kvs k, Rd H a (.dK kvs) /\ y = kV k /\ r = jB kvs k) \/ ∃ kvs k b, Rd H a (.dT kvs) /\ y = .ref b /\ H b = some (.tup (k.map kV)) /\ r = jB kvs k
def DPut (H : Hp) (a : Addr) (y v : V) (H' : Hp) : Prop :=
 (∃ kvs k, H a = some (.dK kvs) /\ y = kV k /\ kvs.length < sizeLine /\ H' = upd H a (.dK (fG kvs k v))) \/
 ∃ kvs k b, H a = some (.dT kvs) /\ y = .ref b /\ H b = some (.tup (k.map kV)) /\ kvs.length < sizeLine /\ H' = upd H a (.dT (fG kvs k v))
theorem DGet.k {H : Hp} {a : Addr} {kvs : List (Key × V)} {k : Key} (e : H a = some (.dK kvs)) : DGet H a (kV k) (jB kvs k) := .inl ⟨kvs, k, .inl e, rfl, rfl⟩
theorem DPut.k {H : Hp} {a : Addr} {kvs : List (Key × V)} {k : Key} {v : V} (e : H a = some (.dK kvs)) (hl : kvs.length < sizeLine) : DPut H a (kV k) v (upd H a (.dK (fG kvs k v))) := .inl ⟨kvs, k, e, rfl, hl, rfl⟩
section
variable {X : Cx} {pins : List (Addr × Obj)} {σ : St} {H : Hp} {s : Shared} {a : Addr} {y v : V} {u r : Value} {o : Option V} {A : Around} {E : Value -> Shared -> Prop}
theorem Am {Q : Value -> Shared -> Prop} (hu : A.units + 1 < cLine) (I : Inv X pins σ H s) (g : DGet H a y (some v)) (ry : RelV y u) (h : ∀ w' s', Inv X pins σ H s' -> RelV v w' -> Q w' s') :
 wpAny (model X.prog X.w) A (getItem (.ref a) u) Q E s := by
 rcases g with ⟨kvs, k, e, ey, l⟩ | ⟨kvs, k, b, e, ey, eb, l⟩
 ·subst ey
  obtain ⟨z, hd, vs, rel, dd⟩ := uS I.hok e
  obtain ⟨w', hw, rw'⟩ := RelO.some_of (v := v) (o := valueAt vs k) (by rw [l]; exact rel.val k)
  exact wpAny_getItem_of (rB ry) dd.mapOf hw (h w' _ (I.tok _) rw')
 ·subst ey
  cases (show u = xL b from ry)
  obtain ⟨z, hd, xs, rel, dd⟩ := uQ I.hok e
  obtain ⟨w', hw, rw'⟩ := RelO.some_of (v := v) (o := (atKey xs k).map (·.2)) (by rw [l]; exact rel.val k)
  obtain ⟨p, hp, hp2⟩ := ZW.mp hw
  refine wpAny_getItem_heap (Y4 hu) (rl I.hok eb) dd hp ?_
  rw [hp2]
  exact h w' _ (I.tok _) rw'
theorem HA {Q : Value -> Shared -> Prop} (hu : A.units + 1 < cLine) (I : Inv X pins σ H s) (g : DGet H a y o) (ry : RelV y u) (h : ∀ s', Inv X pins σ H s' -> Q (.bool o.isSome) s') :
 wpAny (model X.prog X.w) A (Zo .In u (.ref a)) Q E s := by
 rcases g with ⟨kvs, k, e, ey, l⟩ | ⟨kvs, k, b, e, ey, eb, l⟩
 ·subst ey
  obtain ⟨z, hd, vs, rel, dd⟩ := uS I.hok e
  refine wpAny_in_of (rB ry) hd dd.mapOf ?_
  rw [<- (rel.val k).isSome_eq, <- l]
  exact h _ (I.tok _)
 ·subst ey
  cases (show u = xL b from ry)
  obtain ⟨z, hd, xs, rel, dd⟩ := uQ I.hok e
  refine wpAny_in_heap (Y4 hu) (rl I.hok eb) hd dd ?_
  have q := (rel.val k).isSome_eq
  rw [ZA] at q
  rw [<- q, <- l]
  exact h _ (I.tok _)
theorem DZ {Q : Value -> Shared -> Prop} (hu : A.units + 1 < cLine) (I : Inv X pins σ H s) (g : DGet H a y o) (ry : RelV y u) (h : ∀ s', Inv X pins σ H s' -> Q (.bool (!o.isSome)) s') :
 wpAny (model X.prog X.w) A (Zo .NotIn u (.ref a)) Q E s := by
 rcases g with ⟨kvs, k, e, ey, l⟩ | ⟨kvs, k, b, e, ey, eb, l⟩
 ·subst ey
  obtain ⟨z, hd, vs, rel, dd⟩ := uS I.hok e
  refine wpAny_notIn_of (rB ry) hd dd.mapOf ?_
  rw [<- (rel.val k).isSome_eq, <- l]
  exact h _ (I.tok _)
 ·subst ey
  cases (show u = xL b from ry)
  obtain ⟨z, hd, xs, rel, dd⟩ := uQ I.hok e
  refine wpAny_notIn_heap (Y4 hu) (rl I.hok eb) hd dd ?_
  have q := (rel.val k).isSome_eq
  rw [ZA] at q
  rw [<- q, <- l]
  exact h _ (I.tok _)
theorem qY {h' : Heap} {t' : Nat} {ob : HO} (I : Inv X pins σ H s) (mu : Mut (H a)) (hs : ZQ a s.heap h') (he : ∃ q, h'.get? a = some q) (new : ObjOk X.prog X.w (upd H a ob) h' a ob) :
 Inv X pins σ (upd H a ob) { s with heap := h', toks := t' } :=
 I.write (x := a) (e := a) mu (.inl rfl) (fun b q hb z => (hs.2 b hb).trans z) he new
theorem zc {P : Program} {w : World} {H' : Hp} {h' : Heap} {kvs : List (Key × V)} {vs : List (Key × Value)} (z : kvs.length <= sizeLine) (hd : (a == Yn) = false) (rel : KV kvs vs) (dd : h'.DictOf (bN P w) a vs) :
 ObjOk P w H' h' a (.dK kvs) := ⟨z, hd, vs, rel, dd⟩
theorem AK {H' : Hp} {Q : Unit -> Shared -> Prop} (hu : A.units + 1 < cLine) (I : Inv X pins σ H s) (g : DPut H a y v H') (ry : RelV y u) (rv : RelV v r) (h : ∀ s', Inv X pins σ H' s' -> Q () s') :
 wpAny (model X.prog X.w) A (setItem (.ref a) u r) Q E s := by
 rcases g with ⟨kvs, k, e, ey, l, eH⟩ | ⟨kvs, k, b, e, ey, eb, l, eH⟩
 ·subst ey eH
  obtain ⟨z, hd, vs, rel, dd⟩ := ye I.hok e
  have hz : vs.length <= sizeLine := by rw [<- rel.length]; exact z
  have hl : (fG kvs k v).length <= sizeLine := by have := qi kvs k v; omega
  refine wpAny_setItem_pairs (hsz := hz) (rB ry) dd fun h' dd' hs => h _ ?_
  have he : ∃ q, h'.get? a = some q := let ⟨q, _, _, hq, _⟩ := dd'; ⟨q, hq⟩
  exact qY I (by rw [e]; exact Z1) hs he (zc hl hd (rel.put k rv) dd')
 ·subst ey eH
  cases (show u = xL b from ry)
  obtain ⟨z, hd, xs, rel, dd⟩ := Gz I.hok e
  have hz : xs.length <= sizeLine := by rw [<- Paired.length rel]; exact z
  have hl : (fG kvs k v).length <= sizeLine := by have := qi kvs k v; omega
  refine wpAny_setItem_heap (hsz := hz) (Y4 hu) (rl I.hok eb) dd fun h' dd' hs => h _ ?_
  obtain ⟨q, es, ep, hq, h2, h3, h4, _, h5⟩ := dd'
  refine qY I (by rw [e]; exact Z1) hs ⟨q, hq⟩ ⟨hl, hd, _, (rel.put k eb rv).keeps fun c ys ec => ?_, q, es, ep, hq, h2, h3, h4, h5⟩
  rw [ay (GX ec e (fun z => nomatch z))]
  exact ec
end
section
variable {X : Cx} {pins : List (Addr × Obj)} {σ : St} {H : Hp} {s : Shared} {a : Addr} {kvs : List (Key × V)} {k : Key} {u : Value} {A : Around} {E : Value -> Shared -> Prop}
theorem Gi {Q : Unit -> Shared -> Prop} (I : Inv X pins σ H s) (e : H a = some (.dK kvs)) (ry : RelV (kV k) u) (l : (jB kvs k).isSome = true) (h : ∀ s', Inv X pins σ (upd H a (.dK (k7 kvs k))) s' -> Q () s') :
 wpAny (model X.prog X.w) A (delItem (.ref a) u) Q E s := by
 obtain ⟨z, hd, vs, rel, dd⟩ := ye I.hok e
 refine wpAny_delItem_slot dd.typeIs (by decide) PySem.F.slot_dict_delitem
  (call_meetsIn PySem.F.slot_dict_delitem dd.typeIs PySem.F.entry_dict_delitem (PySem.F.args_dict_delitem_2 _ _) (meets_dict_delitem_pairs (bN X.prog X.w) a (rB ry)) ⟨vs, dd, by rw [<- rel.length]; exact z, by rw [<- (rel.val k).isSome_eq]; exact l, fun h' dd' hs => h _ ?_⟩)
 have he : ∃ q, h'.get? a = some q := let ⟨q, _, _, hq, _⟩ := dd'; ⟨q, hq⟩
 exact qY I (by rw [e]; exact Z1) hs he (zc (sC (xq kvs k) z) hd (rel.drop k) dd')
theorem GW {v : V} {more : List Value} {Q : Value -> Shared -> Prop} (I : Inv X pins σ H s) (e : H a = some (.dK kvs)) (ry : RelV (kV k) u) (l : jB kvs k = some v) (hm : more = [] \/ ∃ x, more = [x])
 (h : ∀ w' s', Inv X pins σ (upd H a (.dK (k7 kvs k))) s' -> RelV v w' -> Q w' s') : wpAny (model X.prog X.w) A (call (.builtin "dict.pop") (.ref a :: u :: more)) Q E s := by
 obtain ⟨z, hd, vs, rel, dd⟩ := ye I.hok e
 obtain ⟨w', hw, rw'⟩ := RelO.some_of (v := v) (o := valueAt vs k) (by rw [<- l]; exact rel.val k)
 have hp : (keyPart u).isSome = true := by
  cases k with
  | inl i => obtain ⟨t, q⟩ := (show ∃ t, u = YU i t from ry); subst q; rfl
  | inr x => obtain ⟨t, q⟩ := (show ∃ t, u = Value.str x t from ry); subst q; rfl
 have ha : argsOk "dict.pop" ⟨.ref a :: u :: more, []⟩ := by
  rcases hm with q | ⟨x, q⟩
  ·subst q; exact PySem.F.args_dict_pop_2 _ _
  ·subst q; exact PySem.F.args_dict_pop_3 _ _ _
 refine call_meetsIn PySem.F.slot_dict_pop dd.typeIs PySem.F.entry_dict_pop ha (meets_dict_pop_there (bN X.prog X.w) a (rB ry) more hm hp)
  ⟨vs, w', dd, by rw [<- rel.length]; exact z, hw, fun h' dd' hs => h w' _ ?_ rw'⟩
 have he : ∃ q, h'.get? a = some q := let ⟨q, _, _, hq, _⟩ := dd'; ⟨q, hq⟩
 exact qY I (by rw [e]; exact Z1) hs he (zc (sC (xq kvs k) z) hd (rel.drop k) dd')
end
def GG (i : Expr) : Prop := ∀ ov iv, subscripted i false ov iv = operate [ov, iv] (getItem ov iv)
theorem Ei {prog : Program} {w : World} {A : Around} {E : Value -> Shared -> Prop} {s : Shared} {env : Env} {value slice : Expr} {pos : Pos} {T id : String} {Q : Value -> Shared -> Prop}
 (hl : typeLookup (.type T) "__getitem__" = pure (some (.builtin id))) (hs : GG slice)
 (h : wpAny (model prog w) A (eval value env) (fun o s₁ => wpAny (model prog w) A (eval slice env) (fun i s₂ => s₂.TypeIs o T /\ wpAny (model prog w) A (getItem o i) Q E s₂) E s₁) E s) :
 wpAny (model prog w) A (eval (.Subscript value slice pos) env) Q E s := by
 refine Subscript_ (Zr h (fun o s₁ h₁ => Zr h₁ (fun i s₂ h₂ => ?_) fun _ _ x => x) fun _ _ x => x)
 obtain ⟨hT, h₂⟩ := h₂
 unfold subscriptTail
 refine zu ?_
 rw [getitemInPython_of_ne hT.not_modules]
 refine zu (wpAny_specialOf hT hl ?_)
 have fin : wpAny (model prog w) A (subscripted slice false o i) (fun r s₃ => wpAny (model prog w) A (letTemporaryGo value o r >>= fun _ => pure r) Q E s₃) E s₂ := by
  rw [hs o i]
  exact wpAny_operating (Zr h₂ (fun r s₃ h₃ => zu (wpAny_letTemporaryGo (wG h₃))) fun _ _ x => x)
 first
  | exact wG (zu fin)
  | exact zu (wG (zu fin))
  | exact zu fin
theorem wV {X : Cx} {pins : List (Addr × Obj)} {σ : St} {H : Hp} {s : Shared} {a : Addr} {y : V} {o : Option V} (I : Inv X pins σ H s) (g : DGet H a y o) : s.TypeIs (.ref a) "dict" := by
 rcases g with ⟨kvs, k, e, _, _⟩ | ⟨kvs, k, b, e, _, _, _⟩
 ·obtain ⟨_, _, vs, _, dd⟩ := uS I.hok e
  exact dd.typeIs
 ·obtain ⟨_, _, xs, _, dd⟩ := uQ I.hok e
  exact dd.typeIs
def EI (td ty : TE) : TE := fun σ H Q => td σ H fun x H1 => ty σ H1 fun y H2 => ∃ a v, x = .ref a /\ DGet H2 a y (some v) /\ Q v H2
def GQ (ty td : TE) : TE := fun σ H Q => ty σ H fun y H1 => td σ H1 fun x H2 => ∃ a o, x = .ref a /\ DGet H2 a y o /\ Q (.bl o.isSome) H2
def zU (ty td : TE) : TE := fun σ H Q => ty σ H fun y H1 => td σ H1 fun x H2 => ∃ a o, x = .ref a /\ DGet H2 a y o /\ Q (.bl (!o.isSome)) H2
def EJ (td ty tv : TE) : TS := fun D σ H => tv σ H fun v H1 => td σ H1 fun x H2 => ty σ H2 fun y H3 => ∃ a H4, x = .ref a /\ DPut H3 a y v H4 /\ D.nx σ H4
section
variable {X : Cx} {o i e value : Expr} {pos pos' tpos : Pos} {td ty tv : TE}
theorem Ai (hu : X.A.units + 1 < cLine) (ho : PE X o td) (hi : PE X i ty) (hs : GG i) : PE X (.Subscript o i pos) (EI td ty) := by
 intro pins s σ H Q I h
 refine Ei PySem.F.slot_dict_getitem.lookup hs (thn (ho pins s σ H _ I h) fun u s1 ⟨x, H1, I1, rx, q1⟩ => thn (hi pins s1 σ H1 _ I1 q1) fun iv s2 ⟨y, H2, I2, ry, a, v, ex, g, q2⟩ => ?_)
 subst ex
 obtain rfl : u = xL a := rx
 exact ⟨wV I2 g, Am hu I2 g ry fun w' s3 I3 rw' => ⟨v, H2, I3, rw', q2⟩⟩
theorem yS (hu : X.A.units + 1 < cLine) (hi : PE X i ty) (ho : PE X o td) : PC X .In i o (GQ ty td) := by
 intro pins s σ H Q I h
 refine thn (hi pins s σ H _ I h) fun iv s1 ⟨y, H1, I1, ry, q1⟩ => thn (ho pins s1 σ H1 _ I1 q1) fun u s2 ⟨x, H2, I2, rx, a, ov, ex, g, q2⟩ => ?_
 subst ex
 obtain rfl : u = xL a := rx
 exact HA hu I2 g ry fun s3 I3 => ⟨.bl ov.isSome, H2, I3, rfl, q2⟩
theorem qb (hu : X.A.units + 1 < cLine) (hi : PE X i ty) (ho : PE X o td) : PC X .NotIn i o (zU ty td) := by
 intro pins s σ H Q I h
 refine thn (hi pins s σ H _ I h) fun iv s1 ⟨y, H1, I1, ry, q1⟩ => thn (ho pins s1 σ H1 _ I1 q1) fun u s2 ⟨x, H2, I2, rx, a, ov, ex, g, q2⟩ => ?_
 subst ex
 obtain rfl : u = xL a := rx
 exact DZ hu I2 g ry fun s3 I3 => ⟨.bl (!ov.isSome), H2, I3, rfl, q2⟩
theorem qU (hu : X.A.units + 1 < cLine) (ho : PE X o td) (hi : PE X i ty) (hv : PE X value tv) (hs : swapsWith value (some (.Subscript o i pos')) pos.line X.env = pure false) :
 PS X (.Assign [.Subscript o i pos'] value pos) (EJ td ty tv) := by
 intro pins s σ H D I h
 refine wpAny_Assign_Subscript (thn (hv pins s σ H _ I h) fun r s1 ⟨v, H1, I1, rv, q1⟩ => thn (ho pins s1 σ H1 _ I1 q1) fun u s2 ⟨x, H2, I2, rx, q2⟩ => thn (hi pins s2 σ H2 _ I2 q2) fun iv s3 ⟨y, H3, I3, ry, a, H4, ex, g, q3⟩ => ?_) hs
 subst ex
 obtain rfl : u = xL a := rx
 exact AK hu I3 g ry rv fun s4 I4 => ⟨σ, H4, I4, q3⟩
end
section
variable {X : Cx} {pos : Pos}
end
structure M1 (X : Cx) (o : Expr) (m : Str) (apos : Pos) (e : Expr) (cpos : Pos) : Prop where
 base : Z6 o m X.env (eval o X.env) = eval o X.env
 few : ((backTo cpos (starEach [e] X.env)).all (fun x => !x.1) && (backToKw cpos (keywordEach [] X.env)).all (fun x => x.1.isSome)
  && decide (([e] : List Expr).length + ([] : List Keyword).length + (if ([] : List Keyword).isEmpty then 0 else 1) < 30)) = true
 line : (apos.endLine == cpos.line) = true
 trees : backTo cpos (starEach [e] X.env) = [(false, eval e X.env)]
structure M2 (X : Cx) (o : Expr) (m : Str) (apos : Pos) (e f : Expr) (cpos : Pos) : Prop where
 base : Z6 o m X.env (eval o X.env) = eval o X.env
 few : ((backTo cpos (starEach [e, f] X.env)).all (fun x => !x.1) && (backToKw cpos (keywordEach [] X.env)).all (fun x => x.1.isSome)
  && decide (([e, f] : List Expr).length + ([] : List Keyword).length + (if ([] : List Keyword).isEmpty then 0 else 1) < 30)) = true
 line : (apos.endLine == cpos.line) = true
 trees : backTo cpos (starEach [e, f] X.env) = [(false, eval e X.env), (false, eval f X.env)]
def IsD (H : Hp) (a : Addr) : Prop := (∃ kvs, Rd H a (.dK kvs)) \/ ∃ kvs, Rd H a (.dT kvs)
theorem B6 {X : Cx} {pins : List (Addr × Obj)} {σ : St} {H : Hp} {s : Shared} {a : Addr} (I : Inv X pins σ H s) (d : IsD H a) :
 s.TypeIs (.ref a) "dict" /\ (∀ b, xL a = .ref b -> ∃ ob, s.heap.get? b = some ob /\ ob.dict = none) /\ (a == Yn) = false := by
 rcases d with ⟨kvs, e⟩ | ⟨kvs, e⟩
 ·obtain ⟨_, hd, vs, _, dd⟩ := uS I.hok e
  refine ⟨dd.typeIs, fun b q => ?_, hd⟩
  cases q
  obtain ⟨ob, _, _, h1, h2, _⟩ := dd
  exact ⟨ob, h1, h2.2.1⟩
 ·obtain ⟨_, hd, xs, _, dd⟩ := uQ I.hok e
  refine ⟨dd.typeIs, fun b q => ?_, hd⟩
  cases q
  obtain ⟨ob, _, _, h1, h2, _⟩ := dd
  exact ⟨ob, h1, h2.2.1⟩
section
variable {X : Cx} {pins : List (Addr × Obj)} {σ : St} {H : Hp} {s : Shared} {a : Addr} {y d : V} {u r : Value} {o : Option V} {A : Around} {E : Value -> Shared -> Prop}
end
def y0 (td ty : TE) : TE := fun σ H Q => td σ H fun x H1 => ∃ a, x = .ref a /\ IsD H1 a /\ ty σ H1 fun y H2 => ∃ kvs k v, H2 a = some (.dK kvs) /\ y = kV k /\ jB kvs k = some v /\ Q v (upd H2 a (.dK (k7 kvs k)))
section
variable {X : Cx} {o e f : Expr} {apos cpos : Pos} {td ty tx : TE}
theorem xk (ho : PE X o td) (he : PE X e ty) (m : M1 X o "pop" apos e cpos) : PE X (.Call (.Attribute o "pop" apos) [e] [] cpos) (y0 td ty) := by
 intro pins s σ H Q I h
 refine wpAny_Call_method m.base m.few m.line PySem.F.plainAttrs_dict PySem.F.slot_dict_pop PySem.F.type_dict_pop (thn (ho pins s σ H _ I h) fun u s1 ⟨x, H1, I1, rx, a, ex, d, q1⟩ => ?_)
 subst ex
 obtain rfl : u = xL a := rx
 obtain ⟨t1, t2, _⟩ := B6 I1 d
 refine ⟨t1, t2, ?_⟩
 rw [m.trees]
 refine YX rfl (YF (Y7 (thn (he pins s1 σ H1 _ I1 q1) fun iv s2 ⟨y, H2, I2, ry, kvs, k, v, ea, ey, l, q2⟩ => Calls.spliced_nil ?_)))
 subst ey
 exact GW I2 ea ry l (.inl rfl) fun w' s3 I3 rw' => ⟨v, _, I3, rw', q2⟩
end
section
variable {X : Cx} {pins : List (Addr × Obj)} {σ : St} {H : Hp} {s : Shared} {a : Addr} {kvs : List (Key × V)} {A : Around} {E : Value -> Shared -> Prop}
end
section
variable {X : Cx} {pins : List (Addr × Obj)} {σ : St} {H : Hp} {s : Shared} {a : Addr} {y : V} {u : Value} {A : Around} {E : Value -> Shared -> Prop}
end
end L2
namespace L2
open PySem PySem.Spec PyProof.Rows
section
variable {X : Cx} {e o value : Expr} {f : Str} {ta tv : TE} {pos pos' : Pos}
def Fs (K : W.Frag) (f : Str) : V -> Hp -> VK -> Prop
 | .ref p, H, Q => ∃ C dx fs v, H p = some (.ins C dx fs) /\ Cls K C /\ NoAttr K C f /\ fs.lookup f = some v /\ Q v H
 | _, _, _ => False
def EA (K : W.Frag) (ta : TE) (f : Str) : TE := fun σ H Q => ta σ H fun x H1 => Fs K f x H1 Q
theorem eV (K : W.Frag) (he : PE X e ta) (hK : X.K = K := by rfl) (hb : Z6 e f X.env (eval e X.env) = eval e X.env := by rfl) : PE X (.Attribute e f pos) (EA K ta f) := by
 subst hK
 intro pins s σ H Q I h
 refine Ea hb (thn (he pins s σ H _ I h) fun u s1 ⟨x, H1, I1, rx, q⟩ => ?_)
 dsimp only at q
 unfold Fs at q
 split at q
 ·rename_i a
  obtain ⟨C, dx, fs, v, ea, c, n, l, q⟩ := q
  obtain rfl : u = xL a := rx
  exact yD I1 ea c n l fun u' s2 I2 ru => ⟨v, H1, I2, ru, q⟩
 ·exact q.elim
def BR (K : W.Frag) (f : Str) (y : V) : V -> Hp -> (Hp -> Prop) -> Prop
 | .ref p, H, Q => ∃ C dx fs, H p = some (.ins C dx fs) /\ Cls K C /\ NoAttr K C f /\ fs.length < 1000 /\ Q (upd H p (.ins C dx (gM f y fs)))
 | _, _, _ => False
def EB (K : W.Frag) (ta tv : TE) (f : Str) : TS := fun D σ H => tv σ H fun y H1 => ta σ H1 fun x H2 => BR K f y x H2 fun H3 => D.nx σ H3
theorem ra (K : W.Frag) (ha : PE X o ta) (hv : PE X value tv) (hK : X.K = K := by rfl) (hs : swapsWith value (some (.Attribute o f pos')) pos.line X.env = pure false := by rfl) : PS X (.Assign [.Attribute o f pos'] value pos) (EB K ta tv f) := by
 subst hK
 intro pins s σ H D I h
 refine plainObj_wpAny_Assign_Attribute (thn (hv pins s σ H _ I h) fun u s1 ⟨y, H1, I1, ry, q⟩ => thn (ha pins s1 σ H1 _ I1 q) fun ov s2 ⟨x, H2, I2, rx, q2⟩ => ?_) hs
 dsimp only at q2
 unfold BR at q2
 split at q2
 ·rename_i a
  obtain ⟨C, dx, fs, ea, c, n, l, q2⟩ := q2
  obtain rfl : ov = xL a := rx
  exact yM I2 ea c n l ry fun s3 I3 => ⟨σ, _, I3, q2⟩
 ·exact q2.elim
end
section
variable {X : Cx} {CX : CXT} {k : Nat} {f C : Addr} {fd : FuncData} {ps : List Str} {sp : Sp} {dvs : List V} {ds : List Value} {E : XKs} {x m : Str} {p pos apos : Pos} {e o : Expr} {es : List Expr} {ta : TE} {t : TA}
def zS (C : Addr) (m : Str) : V -> Hp -> (V -> Prop) -> Prop
 | .ref p, H, Q => ∃ dx fs, H p = some (.ins C dx fs) /\ fs.lookup m = none /\ Q (.ref p)
 | _, _, _ => False
def ym (C : Addr) (m : Str) (sp : Sp) (dvs : List V) (E : XKs) (ta : TE) (t : TA) : TE := fun σ H Q => ta σ H fun x0 H1 => zS C m x0 H1 (fun x => t σ H1 fun vs H2 => sp (x :: (vs ++ dvs)) H2 Q (E σ))
theorem bX {pl : Sem Bool} (he : PE X o ta) (c : Cls X.K C) (hm : qx X.K C m f) (F : bz X.prog X.w X.K X.mg X.base CX k f fd ps sp) (hr : Room k X.A) (hb : Binds X.K fd ps ds) (hd : Vals dvs ds) (hx : dE CX X E) (ha : PA X (e :: es) t)
 (hst : starEach (e :: es) X.env = (false, eval e X.env) :: starEach es X.env := by rfl) (hpl : (backTo pos (starEach es X.env)).any (·.1) = false := by rfl)
 (ht : eval (.Call (.Attribute o m apos) (e :: es) [] pos) X.env = (do
  let ov <- eval o X.env
  standAt apos.atName
  let (f, first) <- holding [ov] (getMethod ov m pl)
  callWith pos f first (backTo pos (starEach (e :: es) X.env)) (backToKw pos (keywordEach [] X.env))) := by rfl) :
 PE X (.Call (.Attribute o m apos) (e :: es) [] pos) (ym C m sp dvs E ta t) := by
 intro pins s σ H Q I h
 refine PySem.W.methodCall_KW (pl := pl) (thn (he pins s σ H _ I h) fun u s1 ⟨xo, H1, I1, rx, q⟩ => ?_) ht
 dsimp only at q
 unfold zS at q
 split at q
 ·rename_i a
  obtain ⟨dx, fs, ea, l, q⟩ := q
  obtain rfl : u = xL a := rx
  refine rX I1 ea c hm l ?_
  refine Y5 (first := [.ref a]) (h₀ := X.base) I.ok.mod.kin hm.kp (thn (ha pos pins s1 σ _ _ I1 q) fun us s2 ⟨vs, H2, I2, r, q2⟩ => ⟨I2.kIn, ?_⟩) hst hpl
  exact vz (us := .ref a :: us) (vs := .ref a :: vs) F hr hb hd hx I2 (.cons rfl r) q2
 ·exact q.elim
theorem uI {pl : Sem Bool} (he : PE X o ta) (c : Cls X.K C) (hm : qx X.K C m f) (F : bz X.prog X.w X.K X.mg X.base CX k f fd ps sp) (hr : Room k X.A) (hb : Binds X.K fd ps ds) (hd : Vals dvs ds) (hx : dE CX X E)
 (ht : eval (.Call (.Attribute o m apos) [] [] pos) X.env = (do
  let ov <- eval o X.env
  standAt apos.atName
  let (f, first) <- holding [ov] (getMethod ov m pl)
  callWith pos f first (backTo pos (starEach [] X.env)) (backToKw pos (keywordEach [] X.env))) := by rfl) :
 PE X (.Call (.Attribute o m apos) [] [] pos) (ym C m sp dvs E ta AJ) := by
 intro pins s σ H Q I h
 refine PySem.W.methodCall_KW (pl := pl) (thn (he pins s σ H _ I h) fun u s1 ⟨xo, H1, I1, rx, q⟩ => ?_) ht
 dsimp only at q
 unfold zS at q
 split at q
 ·rename_i a
  obtain ⟨dx, fs, ea, l, q⟩ := q
  obtain rfl : u = xL a := rx
  refine rX I1 ea c hm l ?_
  exact PySem.W.callWith_K0 (first := [.ref a]) I1.kIn hm.kp (vz (us := [.ref a]) (vs := [.ref a]) F hr hb hd hx I1 (.cons rfl .nil) q)
 ·exact q.elim
def zd (C : Addr) (sp : Sp) (dvs : List V) (E : XKs) (t : TA) : TE := fun σ H Q => t σ H fun vs H1 => ∀ x dx, H1 x = none -> H1 dx = none -> dx ≠ x ->
 sp (.ref x :: (vs ++ dvs)) (upd (upd H1 dx (.own x)) x (.ins C dx [])) (fun v H2 => v = .non /\ Q (.ref x) H2) (E σ)
theorem uo {pins : List (Addr × Obj)} {σ : St} {H : Hp} {s : Shared} {Q : VK} {us : List Value} {vs : List V} (M : Mk X.K C f) (F : bz X.prog X.w X.K X.mg X.base CX k f fd ps sp) (hr : Room (k + 1) X.A) (hb : Binds X.K fd ps ds) (hd : Vals dvs ds)
 (hx : dE CX X E) (I : Inv X pins σ H s) (r : Vals vs us)
 (h : ∀ x dx, H x = none -> H dx = none -> dx ≠ x -> sp (.ref x :: (vs ++ dvs)) (upd (upd H dx (.own x)) x (.ins C dx [])) (fun v H2 => v = .non /\ Q (.ref x) H2) (E σ)) :
 wpAny (model X.prog X.w) X.A (call (.ref C) us) (EP X pins σ Q) X.xe s := by
 have hq := h (s.heap.objs.size + 1) s.heap.objs.size (I.hok.fresh (ZC _)) (I.hok.fresh (zR _)) (uZ (Nat.lt_succ_self _))
 have I2 := Inv.made (C := C) I
 have r2 : Vals (V.ref (s.heap.objs.size + 1) :: (vs ++ dvs)) (xL (s.heap.objs.size + 1) :: (us ++ ds)) := .cons rfl (r.append hd)
 have hl : (xL (s.heap.objs.size + 1) :: us ++ ds).length = ps.length := by
  have e := r2.length
  rw [F.len _ _ _ _ hq] at e
  exact e.symm
 refine wpAny_call (Bh (f := f) I.kIn M.makes M.init (beq_iff_eq.mp M.fn) (codeAny_mono (F.run _ X.stack _ _ ⟨xL (s.heap.objs.size + 1) :: us, []⟩ (xL (s.heap.objs.size + 1) :: (us ++ ds)) _ _ (E σ) (hr.make C us [])
  (I2.env0.make C us []) (hb _ (xL (s.heap.objs.size + 1) :: us) I2.kIn hl) r2 hq) fun r s' hq' => ?_))
 cases r with
 | error e => exact hx pins σ _ _ e s' I2 hq'
 | ok fl =>
  cases fl with
  | ret u =>
   obtain ⟨v, H', I3, rv, ev, q3⟩ := I2.after hq'
   subst ev
   exact ⟨rv, ⟨V.ref (s.heap.objs.size + 1), H', I3, rfl, q3⟩⟩
  | next => exact ZV hq'
  | brk => exact ZV hq'
  | cont => exact ZV hq'
theorem BJ (M : Mk X.K C f) (F : bz X.prog X.w X.K X.mg X.base CX k f fd ps sp) (hr : Room (k + 1) X.A) (hg : Gl X x) (hm : X.mg x = some (.ref C)) (hb : Binds X.K fd ps ds) (hd : Vals dvs ds) (hx : dE CX X E)
 (ha : PA X (e :: es) t) (hdb : (x == ("__debug__" : Str)) = false := by decide) (he : starEach (e :: es) X.env = (false, eval e X.env) :: starEach es X.env := by rfl) (hpl : (backTo pos (starEach es X.env)).any (·.1) = false := by rfl) :
 PE X (.Call (.Name x p) (e :: es) [] pos) (zd C sp dvs E t) := by
 intro pins s σ H Q I h
 refine ZF (il I hg hm ?_ hdb)
 refine Y5 (h₀ := X.base) I.ok.mod.kin M.kp (thn (ha pos pins s σ H _ I h) fun us s1 ⟨vs, H1, I1, r, q⟩ => ⟨I1.kIn, ?_⟩) he hpl
 exact uo M F hr hb hd hx I1 r q
theorem uM (M : Mk X.K C f) (F : bz X.prog X.w X.K X.mg X.base CX k f fd ps sp) (hr : Room (k + 1) X.A) (hg : Gl X x) (hm : X.mg x = some (.ref C)) (hb : Binds X.K fd ps ds) (hd : Vals dvs ds) (hx : dE CX X E)
 (hdb : (x == ("__debug__" : Str)) = false := by decide) : PE X (.Call (.Name x p) [] [] pos) (zd C sp dvs E AJ) := by
 intro pins s σ H Q I h
 refine ZF (il I hg hm ?_ hdb)
 exact PySem.W.callWith_K0 I.kIn M.kp (uo (us := []) M F hr hb hd hx I .nil h)
end
end L2
namespace L2
open PySem PySem.Spec PyProof.Rows
def fc (wi : TI) (n : Nat) (g : TG) (ks : List Nat) (tt : TT) (te : TE) : TE := fun σ H Q => wi σ H fun J H1 => ∀ D, H1 D = none -> ∃ W : Nat -> Nat -> List V -> Hp -> Prop, (∃ m, W 0 m [] (upd H1 D (.lst []))) /\
 ∀ i m ys H2, W i m ys H2 -> H2 D = some (.lst ys) /\ ((J.stop i H2 /\ Q (.ref D) H2) \/ (J.go i H2 /\ ∀ x H3, J.yld i H2 x H3 -> ∀ zs : St, zs.length = n ->
  g x (zs ++ ks.map fun k => (σ[k]?).join) H3 fun σ4 H4 => (∃ zs4 : St, zs4.length = n /\ σ4 = zs4 ++ ks.map fun k => (σ[k]?).join) /\
   tt σ4 H4 fun b H5 => if b = true then te σ4 H5 fun y H6 => H6 D = some (.lst ys) /\ ys.length < sizeLine /\ ∃ m', m' < m /\ W (i + 1) m' (ys ++ [y]) (upd H6 D (.lst (ys ++ [y])))
    else ∃ m', m' < m /\ W (i + 1) m' ys H5))
structure EL (gd : Cx -> Prop) (P : Program) (w : World) (K : W.Frag) (tg : Expr) (J : It) (fp : List Addr) (it : Addr) (tn : Nat -> Heap -> Prop) : Prop where
 mem : it ∈ fp
 obj : ∀ i h, tn i h -> ∀ b ∈ fp, ∃ o, h.get? b = some o /\ ∀ v, o.data ≠ .cell v
 keep : ∀ i h h', tn i h -> (∀ b ∈ fp, ∀ o, h.get? b = some o -> h'.get? b = some o) -> tn i h'
 item : ∀ (X : Cx), X.prog = P -> X.w = w -> X.K = K -> gd X -> ∀ (i : Nat) (pins : List (Addr × Obj)) (s : Shared) (σ : St) (H : Hp) (E : Value -> Shared -> Prop), Inv X pins σ H s -> (∀ b ∈ fp, oh X pins H b) -> tn i s.heap -> J.go i H ->
  wpAny (model P w) X.A (pyNext (.ref it)) (fun r s1 => ∃ u, r = some u /\
   wpAny (model P w) X.A (Y1 tg (.ref it) u) (fun _ s2 => ∃ x H', Inv X pins σ H' s2 /\ RelV x u /\ J.yld i H x H' /\ tn (i + 1) s2.heap /\ ∀ b ∈ fp, H' b = none) E s1) E s
 done : ∀ (X : Cx), X.prog = P -> X.w = w -> X.K = K -> gd X -> ∀ (i : Nat) (pins : List (Addr × Obj)) (s : Shared) (σ : St) (H : Hp) (E : Value -> Shared -> Prop), Inv X pins σ H s -> (∀ b ∈ fp, oh X pins H b) -> tn i s.heap -> J.stop i H ->
  wpAny (model P w) X.A (pyNext (.ref it)) (fun r s1 => r = none /\ Inv X pins σ H s1) E s
 self : ∀ (A : Around) (i : Nat) (s : Shared) (Q : Value -> Shared -> Prop) (E : Value -> Shared -> Prop), tn i s.heap -> Q (.ref it) s -> wpAny (model P w) A (pyIter (.ref it)) Q E s
def PIG (gd : Cx -> Prop) (X : Cx) (tg iter : Expr) (wi : TI) : Prop :=
 ∀ (pins : List (Addr × Obj)) (s : Shared) (σ : St) (H : Hp) (R : It -> Hp -> Prop), Inv X pins σ H s -> wi σ H R ->
  wpAny (model X.prog X.w) X.A (eval iter X.env) (fun v s1 => wpAny (model X.prog X.w) X.A (pyIter v) (fun itv s2 => ∃ (it : Addr) (fp : List Addr) (tn : Nat -> Heap -> Prop) (J : It) (H' : Hp), itv = .ref it /\ Inv X pins σ H' s2 /\ EL gd X.prog X.w X.K tg J fp it tn /\ tn 0 s2.heap /\ (∀ b ∈ fp, oh X pins H' b) /\ R J H') X.xe s1) X.xe s
theorem DT {X : Cx} {tg iter : Expr} {wi : TI} (h : PI X tg iter wi) : PIG (fun X => X.calm = true) X tg iter wi := fun pins s σ H R I q =>
 Zr (h pins s σ H R I q) (fun v s1 h1 => Zr h1 (fun itv s2 ⟨it, fp, tn, J, H', e, I2, T, r⟩ => ⟨it, fp, tn, J, H', e, I2, ⟨T.mem, T.obj, T.keep, T.item, T.done, T.self⟩, r⟩) fun _ _ z => z) fun _ _ z => z
theorem ua {X : Cx} {elt iter : Expr} {x : Str} {xs : List Str} {tg : Expr} {g : TG} {pos : Pos} {ifs : List Expr} {scope : Scope} {cl : List (Str × Addr)} {fr : List Str} {ks : List Nat} {wi : TI} {tt : TT} {te : TE} {gd : Cx -> Prop} (hc : ∀ C s₂ H₂ ex pn, gd (bH X (xs ++ fr) scope cl C s₂ H₂ ex pn)) (S : CompScope X scope cl x fr)
 (hks : ks.map (fun k => X.N[k]?) = fr.map some) (hi : PIG gd X tg iter wi) (hg : ∀ C s₂ H₂ ex pn, PG (bH X (xs ++ fr) scope cl C s₂ H₂ ex pn) tg g)
 (ht : ∀ C s₂ H₂ ex pn, PTs (bH X (xs ++ fr) scope cl C s₂ H₂ ex pn) ifs tt) (he : ∀ C s₂ H₂ ex pn, PE (bH X (xs ++ fr) scope cl C s₂ H₂ ex pn) elt te)
 (hs : ∀ x, Yo iter X.env x = pure x := by intro _; rfl)
 {pins : List (Addr × Obj)} {s : Shared} {σ : St} {H : Hp} {Q : VK} (I : Inv X pins σ H s) (h : fc wi xs.length g ks tt te σ H Q) (use : Option (Value -> Sem Unit)) (Qp : Value -> Shared -> Prop)
 (hend : ∀ (D C : Addr) (H' : Hp) (s' : Shared) (mC : Str -> Option Value) (f : Flow), Inv X pins σ H' s' -> oh X pins H' C -> s'.heap.Ns C mC -> Q (.ref D) H' -> compPost (model X.prog X.w) X.A X.xe use Qp (.ref D) C (.ok f) s') :
 wpAny (model X.prog X.w) X.A (comprehension (.ListComp elt [⟨tg, iter, ifs, 0⟩] scope pos) scope X.env (firstIterPos [⟨tg, iter, ifs, 0⟩] pos) (newList []) false (firstIter [⟨tg, iter, ifs, 0⟩] X.env) use) Qp X.xe s := by
 refine wpAny_comprehension_free (use := use) rfl hs S.clos S.kind S.names (thn (hi pins s σ H _ I h) fun v s1 h1 => thn h1 fun itv s2 h2 => ?_)
 obtain ⟨it, fp, tn, J, H2, e, I2, T, st2, f2, hW⟩ := h2
 subst e
 refine Yp (wpAny_newFunctionEnv S.nocell (by intro y hy; simp at hy) (fun h₁ hns₁ hsb₁ => ?_) S.kind)
 dsimp only at hns₁ hsb₁ |-
 have hD0 : H2 s2.heap.objs.size = none := I2.hok.fresh (zR _)
 obtain ⟨W, ⟨m0, w0⟩, turn⟩ := hW s2.heap.objs.size hD0
 generalize hs3 : s2.heap.push { cls := .type "list", dict := none, data := .seq ([] : List Value).toArray } = g3 at hns₁ hsb₁ |-
 have hsz3 : g3.objs.size = s2.heap.objs.size + 1 := by rw [<- hs3, Heap.size_push]
 have up3 : ∀ b o, s2.heap.get? b = some o -> g3.get? b = some o := fun b o e => by rw [<- hs3]; exact Heap.get?_push_of_some _ e
 have gD : g3.get? s2.heap.objs.size = some { cls := .type "list", dict := none, data := .seq ([] : List Value).toArray } := by rw [<- hs3]; exact Heap.get?_push_size _ rfl
 have I3 : Inv X pins σ (upd H2 s2.heap.objs.size (.lst [])) { s2 with heap := g3 } := I2.laid (t' := s2.toks) up3 (zR _) ⟨by simp, [], 0, .nil, gD⟩
 have keep4 : ∀ b o, g3.get? b = some o -> h₁.get? b = some o := fun b o e => (hsb₁.2 b (uZ (xw e))).trans (Heap.get?_push_of_some _ e)
 have hCn : (upd H2 s2.heap.objs.size (.lst [])) g3.objs.size = none := I3.hok.fresh (zR _)
 have fpD : ∀ b ∈ fp, b ≠ s2.heap.objs.size := fun b hb z => by
  obtain ⟨o, e, _⟩ := T.obj 0 _ st2 b hb
  exact absurd (xw e) (by rw [z]; exact ZR _)
 have fpC : ∀ b ∈ fp, b ≠ g3.objs.size := fun b hb z => by
  obtain ⟨o, e, _⟩ := T.obj 0 _ st2 b hb
  exact absurd (xw (up3 b o e)) (by rw [z]; exact ZR _)
 have fpN : ∀ b ∈ fp, (upd H2 s2.heap.objs.size (.lst [])) b = none := fun b hb => by rw [ay (fpD b hb)]; exact (f2 b hb).1
 have Ok : (bH X (xs ++ fr) scope cl g3.objs.size { s2 with heap := g3 } (upd H2 s2.heap.objs.size (.lst [])) fp (X.pn ++ pins)).Ok := by
  refine ⟨I.ok.mod, S.kind, I.ok.glob, I.ok.blt, zR _, fun y z c e1 e2 => I.ok.inj y z c (S.sub e1) (S.sub e2), fun y hy => ?_, (fun y c z => nomatch z), I.ok.hd, I.ok.frames, .inl rfl, fun b hb => ⟨fpC b hb, fun y c e => (f2 b hb).2.2.2.2.1 y c (S.sub e)⟩, I3.bs, sC I.ok.bsz I3.sz, fun b o e hb => ?_, fun b hb z => ?_, I3.stack, I3.stkFree⟩
  ·have hy' : y ∈ fr := S.only y hy
   obtain ⟨c, e⟩ := I.ok.has y (S.kinds y hy')
   exact ⟨c, (S.cell hy').trans e⟩
  ·rcases (f2 b hb).2.2.2.1 with q | q
   ·exact I.ok.noex b o e q
   ·exact absurd (xw e) (Nat.not_lt.mpr (sC I.ok.bsz q))
  ·rcases ve.mp (I3.stkSub b z) with q | q
   ·exact (f2 b hb).2.1 q
   ·exact (f2 b hb).2.2.1 q
 have I4 : Inv (bH X (xs ++ fr) scope cl g3.objs.size { s2 with heap := g3 } (upd H2 s2.heap.objs.size (.lst [])) fp (X.pn ++ pins)) [] ((xs.map fun _ => none) ++ ks.map fun k => (σ[k]?).join) (upd H2 s2.heap.objs.size (.lst [])) { s2 with heap := h₁, toks := s2.toks + ([] : List (Str × Value)).length } := by
  refine ⟨Ok, rfl, I3.bare, Un.kept keep4, ⟨_, hns₁, fun i y v e1 e2 e3 => ?_⟩, fun y c e => ?_, hCn, fun y c e => I3.freeC y c (S.sub e), fun p hp => ?_, I3.hok.kept keep4, ?_⟩
  ·have e1' : (xs ++ fr)[i]? = some y := e1
   by_cases hix : i < xs.length
   ·rw [List.getElem?_append_left (by simpa using hix)] at e2
    simp [hix] at e2
   ·obtain ⟨i, rfl⟩ : ∃ i', i = xs.length + i' := ⟨i - xs.length, by omega⟩
    rw [List.getElem?_append_right (by omega)] at e1'
    rw [List.getElem?_append_right (by simp)] at e2
    have e1' : fr[i]? = some y := by simpa using e1'
    have e2 : (ks.map fun k => (σ[k]?).join)[i]? = some (some v) := by simpa using e2
    have hy : y ∈ fr := qh e1'
    have ek : (ks.map (fun k => X.N[k]?))[i]? = (fr.map some)[i]? := by rw [hks]
    rw [List.getElem?_map, List.getElem?_map, e1'] at ek
    have e2' := e2
    rw [List.getElem?_map] at e2'
    cases hk : ks[i]? with
    | none => rw [hk] at ek; cases ek
    | some k =>
     rw [hk] at ek e2'
     have ek' : X.N[k]? = some y := by simpa using ek
     have e2'' : (σ[k]?).join = some v := by simpa using e2'
     have es : σ[k]? = some (some v) := by
      cases q : σ[k]? with
      | none => rw [q] at e2''; cases e2''
      | some z => rw [q] at e2''; rw [show z = some v from e2'']
     obtain ⟨m, hn, hl⟩ := I3.loc
     have hkd := S.kinds y hy
     obtain ⟨u, r, lk⟩ := hl k y v ek' es (by rcases hkd with q | q; exact .inr (.inl q); exact .inr (.inr q))
     refine ⟨u, r, .inr ⟨S.kin y hy, ?_⟩⟩
     rcases lk with ⟨q, _⟩ | ⟨_, c, ec, hcell⟩
     ·rcases hkd with z | z <;> (rw [q] at z; cases z)
     ·obtain ⟨o, ho, hd⟩ := hcell
      exact ⟨c, (S.cell hy).trans ec, o, keep4 _ _ ho, hd⟩
  ·obtain ⟨v, o, ho, hd⟩ := I3.cell y c (S.sub e)
   exact ⟨v, o, keep4 _ _ ho, hd⟩
  ·have hp' : p ∈ X.pn ++ pins := by simpa [bH] using hp
   obtain ⟨a1, a2, a3, a4, a5⟩ := I3.pin p hp'
   refine ⟨keep4 _ _ a1, a2, uZ (xw a1), fun z => ?_, a5⟩
   rcases ve.mp (I3.stkSub p.1 z) with q | q
   ·exact a3 q
   ·exact a4 q
  ·show ((xs.map fun _ => none) ++ ks.map _).length = (xs ++ fr).length
   have := congrArg Yh hks
   simp at this
   simp [this]
 have st4 : tn 0 h₁ := T.keep 0 _ _ st2 fun b hb o e => keep4 _ _ (up3 _ _ e)
 have stat : ∀ {H' : Hp}, (∀ b ∈ fp, H' b = none) -> ∀ b ∈ fp, oh (bH X (xs ++ fr) scope cl g3.objs.size { s2 with heap := g3 } (upd H2 s2.heap.objs.size (.lst [])) fp (X.pn ++ pins)) [] H' b := fun hn b hb =>
  ⟨hn b hb, fpC b hb, Ok.exfs b hb, .inl hb, fun y c e => (f2 b hb).2.2.2.2.1 y c (S.sub e), fun p hp => (f2 b hb).2.2.2.2.2 p (by simpa [bH] using hp)⟩
 have loop : codeAny (model X.prog X.w) X.A (.compLoop (.ListComp elt [⟨tg, iter, ifs, 0⟩] scope pos) 0 (.ref it) (.ref s2.heap.objs.size) (compEnvC scope cl g3.objs.size X.env))
  (compPost (model X.prog X.w) X.A X.xe use Qp (.ref s2.heap.objs.size) g3.objs.size) { s2 with heap := h₁, toks := s2.toks + ([] : List (Str × Value)).length } := by
  refine vh (fun n s' => ∃ i ys σ' H', Inv (bH X (xs ++ fr) scope cl g3.objs.size { s2 with heap := g3 } (upd H2 s2.heap.objs.size (.lst [])) fp (X.pn ++ pins)) [] σ' H' s' /\ (∃ zs, zs.length = xs.length /\ σ' = zs ++ ks.map fun k => (σ[k]?).join) /\ tn i s'.heap /\ (∀ b ∈ fp, H' b = none) /\ W i n ys H') ?_ m0
   ⟨0, [], _, _, I4, ⟨xs.map fun _ => none, by simp, rfl⟩, st4, fpN, w0⟩
  rintro n s' ⟨i, ys, σ', H', I5, ⟨zs, hzs, rfl⟩, st5, fr5, w5⟩
  obtain ⟨hD, hor⟩ := turn i n ys H' w5
  rcases hor with ⟨stop, qn⟩ | ⟨go, step⟩
  ·refine Zr (T.done (bH X (xs ++ fr) scope cl g3.objs.size { s2 with heap := g3 } (upd H2 s2.heap.objs.size (.lst [])) fp (X.pn ++ pins)) rfl rfl rfl (hc _ _ _ _ _) i [] s' _ H' (fun _ _ => False) I5 (stat fr5) st5 stop) (fun r s6 ⟨hr, I6⟩ => ?_) (fun _ _ f => f.elim)
   subst hr
   obtain ⟨mC, hnC, _⟩ := I6.loc
   have tr : ∀ b o, b ≠ g3.objs.size -> s6.heap.get? b = some o -> s6.heap.get? b = some o := fun b o hb e => e
   have U := I6.base
   have neC : ∀ b o, g3.get? b = some o -> b ≠ g3.objs.size := fun b o e => uZ (xw e)
   have U' : Un (frs X.stack) fp (upd H2 s2.heap.objs.size (.lst [])) H' g3 s6.heap := ⟨fun b o q n hb hx => tr b o (neC b o q) (U.keep b o q n hb hx), fun b o q n hb hx => let ⟨sl, e⟩ := U.slot b o q n hb hx; ⟨sl, tr _ _ (neC b o q) e⟩, U.free, fun b o q hx => let ⟨o', e⟩ := U.there b o q hx; ⟨o', tr _ _ (neC b o q) e⟩, U.tups, U.frzs, U.tbls⟩
   have ok' : HOk X.prog X.w H' s6.heap := fun a o e => (I6.hok a o e).stay (fun b u hb q => tr b u (fun z => by
    have fC : H' g3.objs.size = none := I6.free
    rcases hb with r | r
    ·rw [<- z, r, e] at fC; cases fC
    ·rw [<- z, r] at fC; cases fC) q) (fun _ q => q) fun _ _ q => q
   have J6 : Inv X pins σ H' s6 := I3.call' (s' := s6) (ch := fp) I6.os U' ok' I6.bare fun b hb => ⟨(f2 b hb).2.2.2.1, (f2 b hb).2.1, (f2 b hb).2.2.2.2.1, (f2 b hb).2.2.2.2.2⟩
   exact hend s2.heap.objs.size g3.objs.size H' s6 mC _ J6 (I3.fpOk (zR _) I6.free) hnC qn
  ·refine Zr (T.item (bH X (xs ++ fr) scope cl g3.objs.size { s2 with heap := g3 } (upd H2 s2.heap.objs.size (.lst [])) fp (X.pn ++ pins)) rfl rfl rfl (hc _ _ _ _ _) i [] s' _ H' (fun _ _ => False) I5 (stat fr5) st5 go) (fun r s6 ⟨u, hr, h6⟩ => ?_) (fun _ _ f => f.elim)
   subst hr
   refine Zr h6 (fun _ s7 ⟨xv, H7, I7, r7, y7, st7, fr7⟩ => ?_) (fun _ _ f => f.elim)
   have I7' := I7.pinned (stat fr7) (T.obj _ _ st7)
   have pinsTo : ∀ {σ9 : St} {H9 : Hp} {s9 : Shared}, Inv (bH X (xs ++ fr) scope cl g3.objs.size { s2 with heap := g3 } (upd H2 s2.heap.objs.size (.lst [])) fp (X.pn ++ pins)) ([] ++ se fp s7.heap) σ9 H9 s9 -> tn (i + 1) s9.heap /\ ∀ b ∈ fp, H9 b = none := fun {σ9 H9 s9} I9 =>
    ⟨T.keep _ _ _ st7 fun b hb o e => (I9.pin (b, o) (Zu _ (Zu _ (iJ hb e)))).1, fun b hb => by
     obtain ⟨o, e, d⟩ := T.obj _ _ st7 b hb
     exact (I9.pin (b, o) (Zu _ (Zu _ (iJ hb e)))).2.1⟩
   refine Zr (hg _ _ _ _ _ _ s7 _ H7 xv u _ I7' r7 (step xv H7 y7 zs hzs)) (fun _ s8 ⟨σ8, H8, I8, ⟨zs4, hz4, e8⟩, q8⟩ => ?_) (fun _ _ f => f.elim)
   subst e8
   refine Zr (ht _ _ _ _ _ _ s8 _ H8 _ I8 q8) (fun ok s9 ⟨H9, I9, q9⟩ => ?_) (fun _ _ f => f.elim)
   cases ok with
   | false =>
    rw [if_neg xC] at q9 |-
    obtain ⟨m', hm, w9⟩ := q9
    obtain ⟨t9, f9⟩ := pinsTo I9
    exact ⟨m', hm, i + 1, ys, _, H9, I9.unpinned, ⟨zs4, hz4, rfl⟩, t9, f9, w9⟩
   | true =>
    rw [if_pos rfl] at q9 |-
    refine Zr (he _ _ _ _ _ _ s9 _ H9 _ I9 q9) (fun yv s10 ⟨y, H10, I10, r10, hD10, hlen, m', hm, w10⟩ => ?_) (fun _ _ f => f.elim)
    refine Zr (dy (X := bH X (xs ++ fr) scope cl g3.objs.size { s2 with heap := g3 } (upd H2 s2.heap.objs.size (.lst [])) fp (X.pn ++ pins)) _ s10 _ H10 (.ref s2.heap.objs.size) [y] (.ref s2.heap.objs.size) [yv]
     (fun _ H' => H' = upd H10 s2.heap.objs.size (.lst (ys ++ [y]))) I10 rfl (.cons r10 .nil) ⟨_, ys, y, rfl, rfl, hD10, hlen, rfl⟩) (fun _ s11 ⟨_, H11, I11, _, e11⟩ => ?_) (fun _ _ f => f.elim)
    subst e11
    obtain ⟨t11, f11⟩ := pinsTo I11
    exact ⟨m', hm, i + 1, ys ++ [y], _, _, I11.unpinned, ⟨zs4, hz4, rfl⟩, t11, f11, w10⟩
 exact codeAny_compStart_list loop (T.self X.A 0 _ _ _ st4 loop)
theorem uC {X : Cx} {elt iter : Expr} {x : Str} {xs : List Str} {tg : Expr} {g : TG} {pos : Pos} {ifs : List Expr} {scope : Scope} {cl : List (Str × Addr)} {fr : List Str} {ks : List Nat} {wi : TI} {tt : TT} {te : TE} (hc : X.calm = true) (S : CompScope X scope cl x fr)
 (hks : ks.map (fun k => X.N[k]?) = fr.map some) (hi : PI X tg iter wi) (hg : ∀ C s₂ H₂ ex pn, PG (bH X (xs ++ fr) scope cl C s₂ H₂ ex pn) tg g)
 (ht : ∀ C s₂ H₂ ex pn, PTs (bH X (xs ++ fr) scope cl C s₂ H₂ ex pn) ifs tt) (he : ∀ C s₂ H₂ ex pn, PE (bH X (xs ++ fr) scope cl C s₂ H₂ ex pn) elt te)
 (hs : ∀ x, Yo iter X.env x = pure x := by intro _; rfl)
 {pins : List (Addr × Obj)} {s : Shared} {σ : St} {H : Hp} {Q : VK} (I : Inv X pins σ H s) (h : fc wi xs.length g ks tt te σ H Q) (use : Option (Value -> Sem Unit)) (Qp : Value -> Shared -> Prop)
 (hend : ∀ (D C : Addr) (H' : Hp) (s' : Shared) (mC : Str -> Option Value) (f : Flow), Inv X pins σ H' s' -> oh X pins H' C -> s'.heap.Ns C mC -> Q (.ref D) H' -> compPost (model X.prog X.w) X.A X.xe use Qp (.ref D) C (.ok f) s') :
 wpAny (model X.prog X.w) X.A (comprehension (.ListComp elt [⟨tg, iter, ifs, 0⟩] scope pos) scope X.env (firstIterPos [⟨tg, iter, ifs, 0⟩] pos) (newList []) false (firstIter [⟨tg, iter, ifs, 0⟩] X.env) use) Qp X.xe s := ua (gd := fun X => X.calm = true) (fun _ _ _ _ _ => hc) S hks (DT hi) hg ht he hs I h use Qp hend
theorem fL {X : Cx} {elt iter : Expr} {x : Str} {xs : List Str} {tg : Expr} {g : TG} {pos : Pos} {ifs : List Expr} {scope : Scope} {cl : List (Str × Addr)} {fr : List Str} {ks : List Nat} {wi : TI} {tt : TT} {te : TE} (hc : X.calm = true) (S : CompScope X scope cl x fr)
 (hks : ks.map (fun k => X.N[k]?) = fr.map some) (hi : PI X tg iter wi) (hg : ∀ C s₂ H₂ ex pn, PG (bH X (xs ++ fr) scope cl C s₂ H₂ ex pn) tg g)
 (ht : ∀ C s₂ H₂ ex pn, PTs (bH X (xs ++ fr) scope cl C s₂ H₂ ex pn) ifs tt) (he : ∀ C s₂ H₂ ex pn, PE (bH X (xs ++ fr) scope cl C s₂ H₂ ex pn) elt te)
 (hs : ∀ x, Yo iter X.env x = pure x := by intro _; rfl) : PE X (.ListComp elt [⟨tg, iter, ifs, 0⟩] scope pos) (fc wi xs.length g ks tt te) := by
 intro pins s σ H Q I h
 rw [eval_ListComp]
 refine uC hc S hks hi hg ht he hs I h none _ fun D C H' s' mC f J fp hn q => ⟨mC, hn, fun h' sb => ?_⟩
 obtain ⟨f0, f1, f2, f3, f4, f5⟩ := fp
 exact ⟨.ref D, H', J.turned (t' := s'.toks) (fun b o hb e => (sb.2 b hb).trans e) f0 f1 f3 f4 f5, rfl, q⟩
theorem xA {i0 : Nat} {x0 : Str} {px0 pos0 : Pos} {X : Cx} {elt iter : Expr} {x : Str} {xs : List Str} {tg : Expr} {g : TG} {pos : Pos} {ifs : List Expr} {scope : Scope} {cl : List (Str × Addr)} {fr : List Str} {ks : List Nat} {wi : TI} {tt : TT} {te : TE} (hN : X.N.Nodup) (hi0 : X.N[i0]? = some x0) (hx0 : Loc X.env.scope x0) (hc : X.calm = true) (S : CompScope X scope cl x fr)
 (hks : ks.map (fun k => X.N[k]?) = fr.map some) (hi : PI X tg iter wi) (hg : ∀ C s₂ H₂ ex pn, PG (bH X (xs ++ fr) scope cl C s₂ H₂ ex pn) tg g)
 (ht : ∀ C s₂ H₂ ex pn, PTs (bH X (xs ++ fr) scope cl C s₂ H₂ ex pn) ifs tt) (he : ∀ C s₂ H₂ ex pn, PE (bH X (xs ++ fr) scope cl C s₂ H₂ ex pn) elt te)
 (hs : ∀ x, Yo iter X.env x = pure x := by intro _; rfl)
 (hsw : swapsWith (.ListComp elt [⟨tg, iter, ifs, 0⟩] scope pos) (some (.Name x0 px0)) pos0.line X.env = pure true := by rfl) (hf : X.fn x0 = true \/ X.env.scope.names.lookup x0 = some .local := by first | exact .inl rfl | exact .inr rfl | assumption) :
 PS X (.Assign [.Name x0 px0] (.ListComp elt [⟨tg, iter, ifs, 0⟩] scope pos) pos0) (D9 (fc wi xs.length g ks tt te) (j_ i0)) := by
 intro pins s σ H D I h
 rw [exec_Assign_Name_used _ _ _ _ hsw]
 refine zu (wpAny_standAt (zu (zu ?_)))
 refine uC hc S hks hi hg ht he hs I h (some (assign (.Name x0 px0) X.env)) _ fun D' C H' s' mC f J fp hn q => ?_
 obtain ⟨f0, f1, f2, f3, f4, f5⟩ := fp
 refine wpAny_assign_Name (uK J hN hi0 hx0 (v := .ref D') rfl (fun s7 I7 ⟨a, sb, ha⟩ => ?_) hf)
 have hCa : C ≠ a := by
  rcases ha with e | e
  ·rw [e]; exact f1
  ·exact fun z => f4 _ _ e z.symm
 refine ⟨mC, hn.sameBut sb hCa, fun h' sb2 => ?_⟩
 have J2 := I7.turned (t' := s7.toks) (fun b o hb e => (sb2.2 b hb).trans e) f0 f1 f3 f4 f5
 exact wG (wG ⟨_, H', J2, q⟩)
end L2
namespace L2
open PySem PySem.Spec PyProof.Rows Builtin Builtin.Str
section
variable {prog : Program} {w : World} {A : Around} {E : Value -> Shared -> Prop} {s : Shared} {t : Addr}
theorem AY {xs : Array (Int × Tok)} {Q : Value -> Shared -> Prop} (hh : A.handled = none) (ht : s.heap.IsList t (intItems xs))
 (h : ∀ h' tk t', (∀ b o, s.heap.get? b = some o -> h'.get? b = some o) -> Q (.int (preSum (numAt xs) xs.size) t') { s with heap := h', toks := tk }) :
 wpAny (model prog w) A (call (.builtin "sum") [.ref t]) Q E s := by
 obtain ⟨o, ho, hc, n, hd⟩ := id ht
 have hne : t ≠ s.heap.objs.size := uZ (xw ho)
 have hsz : (intItems xs).size = xs.size := by simp [intItems]
 have W := (Walks.list (prog := prog) (w := w) (A := A.in1) hh s.heap.objs.size t hne (intItems xs)).toS
 rw [hsz] at W
 refine call_sum_walkAnyS (wpAny_pyIter_list ht ?_)
 refine ⟨s.heap.objs.size, _, _, _, _, _, _, numAt xs, rfl, W, ⟨⟨_, Heap.get?_push_size _ rfl, rfl, rfl⟩, ht.at fun o e => Heap.get?_push_of_some _ e⟩, fun b hb => ?_, fun i v hP => intItems_at hP, fun s' t' hm => ?_⟩
 ·rcases ve.mp hb with rfl | hb
  ·exact xw (Heap.get?_push_size _ rfl)
  ·obtain rfl := zY.mp hb
   exact xw (Heap.get?_push_of_some _ ho)
 ·obtain ⟨h', g', d', tk', os'⟩ := s'
  have e1 : g' = s.gens := hm.gens
  have e2 : d' = s.drawn := hm.drawn
  have e3 : os' = s.os := hm.os
  subst e1 e2 e3
  exact h h' tk' t' fun b o e => hm.heap b o (fun hb => absurd (xw e) ((zY.mp hb) ▸ ZR _)) (Heap.get?_push_of_some _ e)
end
section
variable {X : Cx} {e a b c : Expr} {pos : Pos}
def E9 (K : W.Frag) : List V -> Hp -> VK -> Prop
 | [.ref p], H, Q => ∃ ns : List Int, (SqL K H p (ns.map V.int) \/ SqT K H p (ns.map V.int)) /\ Q (.int ns.sum) H
 | _, _, _ => False
theorem ow (K : W.Frag) (hc : X.calm = true) (hK : X.K = K := by rfl) : CallR X (.builtin "sum") (E9 K) := by
 subst hK
 intro pins s σ H xs us Q I r h
 unfold E9 at h
 split at h
 ·rename_i p
  obtain ⟨ns, hq, q⟩ := h
  rcases hq with hq | hq
  ·obtain ⟨u, rfl, rx⟩ := iQ r
   cases (show u = xL p from rx)
   obtain ⟨its, r', pl, hz⟩ := I.list hq
   have hi := mT r'
   obtain ⟨ys, hy⟩ := hi.allInts.items
   have hn : numsOf its.toArray.toList = ns := by rw [show its.toArray.toList = its from rfl, hi.numsOf]
   have pl' := pl.isList
   rw [hy] at pl' hn
   rw [nums_intItems] at hn
   refine AY (I.ok.hd hc) pl' fun h' tk t' hk => ?_
   rw [preSum_eq, oF (by simp), hn]
   exact ⟨.int ns.sum, H, I.kept hk, ⟨_, rfl⟩, q⟩
  ·exact vt hc pins s σ H _ us Q I r ⟨p, ns, rfl, hq, q⟩
 ·exact h.elim
def Bo : R2
 | .str x, .int n, H, Q => ((cs x).length <= 1000 /\ 0 <= n /\ n <= 100) /\ Q (T ((vd n.toNat (cs x)).flatten)) H
 | _, _, _, _ => False
theorem Di : OpR X (binaryOp .Mult) Bo := by
 intro pins s σ H x y v u Q I rx ry h
 unfold Bo at h
 split at h
 ·rename_i x n
  obtain ⟨⟨h1, h2, h3⟩, q⟩ := h
  obtain ⟨t, rfl⟩ := rx
  obtain ⟨t', rfl⟩ := ry
  have hl : x.length <= 1000 := by simpa [cs, YK] using h1
  refine PySem.SB.mul ⟨?_, fun hn _ => ?_, fun hn _ => ?_⟩ fun t2 k => ⟨.str (Txt.mul x n), H, I.tok _, ⟨_, rfl⟩, by rw [Fy]; exact q⟩
  ·rw [decide_eq_false (by omega), decide_eq_false (by omega)]; rfl
  ·have h5 : (1000 : Int) <= (2 ^ 63 - 1) / n := by
    rw [Int.le_ediv_iff_mul_le (by omega)]; omega
   omega
  ·have h4 : x.length * n.toNat <= 1000 * 100 := Nat.mul_le_mul hl (show n.toNat <= 100 by omega)
   unfold tooLong
   exact decide_eq_false (by rw [uT]; omega)
 ·exact h.elim
section
variable {T name id : String} {r : V -> List V -> Hp -> VK -> Prop} {o : Expr} {to : TE} {apos cpos : Pos}
theorem DM (K : W.Frag) (pa : PlainAttrs T) (slot : Slot T name id) (hty : typeOf (.builtin id) = pure (.type "method_descriptor")) (hm : MtR X id r) (ho : PE X o to) (hK : X.K = K := by rfl)
 (hbase : Z6 o name X.env (eval o X.env) = eval o X.env := by rfl) (hline : (apos.endLine == cpos.line) = true := by rfl) : PE X (.Call (.Attribute o name apos) [] [] cpos) (FY K T r to) := by
 subst hK; exact EZ pa slot hty hm ho hbase hline
end
end
end L2
namespace L2
theorem kK {l : List PySem.Str} (h : l.Nodup) : l.Nodup := h
end L2
namespace L2
def sp5 (f : V -> V -> V -> V -> V -> Hp -> VK -> XK -> Prop) : Sp := fun vs H Q E => match vs with
 | [x, y, z, u, v] => f x y z u v H Q E
 | _ => False
theorem vE {n : PySem.Str} {v : V} {l : List (PySem.Str × V)} : Zk n ((n, v) :: l) = some v := by simp [Zk]
theorem oB {n m : PySem.Str} {v : V} {l : List (PySem.Str × V)} (h : (n == m) = false) : Zk n ((m, v) :: l) = Zk n l := by simp [Zk, h]
end L2
set_option maxHeartbeats 1000000
namespace L2
open PySem PySem.Spec PyProof.Rows
structure RoomC (k : Nat) (A : Around) : Prop where
 dp : A.depth + 3 * k + 5 < recursionLimit
 un : A.units + 16 * k + 200 < cLine
theorem RoomC.deeper {k : Nat} {A : Around} (r : RoomC (k + 1) A) (env : Env) : RoomC k (A.deeper env) :=
 ⟨by have := r.dp; show A.depth + 1 + 3 * k + 5 < _; omega, by have := r.un; show A.units + 3 + 16 * k + 200 < _; omega⟩
theorem Room.toC {j k : Nat} {A : Around} {v : Option Value} (r : Room k A) (h : j <= k) : RoomC j (A.mark v) := ⟨by have := r.dp; show A.depth + 3 * j + 5 < _; omega, by have := r.un; show A.units + 16 * j + 200 < _; omega⟩
abbrev uU (CX : CXT) (P : Program) (w : World) (K : W.Frag) (mg : Str -> Option Value) (base : Heap) (N : List Str) (qual : Str) (scope : Scope) (f : Addr) (cd : Value) (A : Around) (outer : List Env) (s : Shared) (H : Hp) (E : XK) : Cx :=
 { cO CX P w K mg base N qual scope f cd A outer s H E with calm := false }
section
variable {X : Cx} {CX : CXT} {k : Nat} {f : Addr} {fd : FuncData} {ps : List Str} {sp : Sp} {dvs : List V} {ds : List Value} {E : XKs} {x : Str} {p pos : Pos} {e : Expr} {es : List Expr} {t : TA}
end
end L2
set_option maxHeartbeats 1000000
namespace L2
open PySem PySem.Spec PyProof.Rows
section
variable {X : Cx} {tg : Expr}
end
end L2
namespace L2
theorem ex1 {α : Type} {us : List α} (hl : us.length = 1) : ∃ a0, us = [a0] := by
 match us, hl with
 | [a0], _ => exact ⟨a0, rfl⟩
theorem ex2 {α : Type} {us : List α} (hl : us.length = 2) : ∃ a0 a1, us = [a0, a1] := by
 match us, hl with
 | [a0, a1], _ => exact ⟨a0, a1, rfl⟩
theorem ex3 {α : Type} {us : List α} (hl : us.length = 3) : ∃ a0 a1 a2, us = [a0, a1, a2] := by
 match us, hl with
 | [a0, a1, a2], _ => exact ⟨a0, a1, a2, rfl⟩
theorem ex4 {α : Type} {us : List α} (hl : us.length = 4) : ∃ a0 a1 a2 a3, us = [a0, a1, a2, a3] := by
 match us, hl with
 | [a0, a1, a2, a3], _ => exact ⟨a0, a1, a2, a3, rfl⟩
end L2
namespace L2
open Lean Meta Simp
def FZ : List Name := [`L2.BY, `L2.tC, `L2.tOp, `L2.tUn, `L2.gEqN, `L2.wI, `L2.yP, `L2.Gw, `L2.fOr, `L2.GT, `L2.By, `L2.fPickT, `L2.Gr, `L2.G_, `L2.G8, `L2.tRetN, `L2.Ey, `L2.Ez, `L2.D9, `L2.j_, `L2.tIf, `L2.GD, `L2.tOr, `L2.GP, `L2.wX, `L2.AJ, `L2.tCB, `L2.BZ, `L2.E5, `L2.GV, `L2.tIsN, `L2.EM, `L2.tIsB, `L2.Es, `L2.zr, `L2.tSl, `L2.cs, `L2.EQ, `L2.CMul, `L2.E7, `L2.Ch, `L2.tTry, `L2.gcE, `L2.GF, `L2.tGc, `L2.tBM, `L2.Et, `L2.fJoinRev, `L2.CB, `L2.zC, `L2.D7, `L2.zz, `L2.Fc, `L2.Gq, `L2.EK, `L2.EA, `L2.EB, `L2.ym, `L2.zd, `L2.tDGet1, `L2.tDGet2, `L2.EJ, `L2.FY, `L2.BV]
def F0 : List Name := [`L2.E2, `L2.gI, `L2.gIC, `L2.Ds, `L2.gLe, `L2.gLt, `L2.eqS, `L2.kB, `L2.Ht, `L2.F6, `L2.E6, `L2.Dz, `L2.CZ, `L2.gInt, `L2.gIx, `L2.sp0, `L2.sp1, `L2.sp2, `L2.sp3, `L2.sp4, `L2.asI, `L2.asT, `L2.asB, `L2.asR, `L2.tyV, `L2.gSt, `L2.gEn, `L2.gZf, `L2.gStr, `L2.gInt2, `L2.gIn, `L2.gSl, `L2.Hz, `L2.gMulS, `L2.Fu, `L2.FO, `L2.gRepT, `L2.gIsiT, `L2.Cl, `L2.yi, `L2.ES, `L2.gStM, `L2.Fs, `L2.BR, `L2.zS, `L2.E9, `L2.Bo]
def rdI := zA @L2.DL (zA @L2.Hk (zA @L2.V.bl.injEq (zA @L2.V.str.injEq (zA @L2.Aq (zA @L2.Gx (zA @L2.Gg (zA @L2.Fe (zA @L2.Fb (zA @L2.FR (zA @L2.qz (zA @L2.xN (zA @L2.yk (zA @L2.yO (zA @L2.wY (zA @L2.vP (zA @L2.yf (zA @L2.D4 (zA @L2.pk (zA @L2.vv (zA @L2.xH (zA @L2.xM (zA @L2.wA (zA @L2.tY (zA @L2.vY (zA @L2.F9 (zA @L2.qv (zA @L2.yc (zA @L2.yq (zA @L2.yY (zA @L2.w4 (zA @L2.vM (zA @L2.wH (zA @L2.DP (zA @L2.pz (zA @L2.wg (zA @L2.xO (zA @L2.xa (zA @L2.v0 (zA @L2.t7 (zA @L2.vk (zA @L2.B_ (zA @L2.oq (zA @L2.tW (zA @L2.wl (zA @L2.vC (zA @L2.t6 (zA @L2.sH (zA @L2.tF (zA @L2.DS (zA @L2.pQ (zA @L2.vF (zA @L2.wM (zA @L2.xQ (zA @L2.vA (zA @L2.tz (zA @L2.wx (zA @L2.Gy (zA @L2.E_ (zA @L2.Gf (zA @L2.Ga (zA @L2.Df (zA @L2.ET (zA @L2.Dj (zA @L2.DC (zA @L2.DI (zA @L2.DJ (zA @L2.FG (zA @L2.DF (zA @L2.Eg (zA @L2.Ek (zA @true_and (zA @and_true (zA @and_self (zA @true_or (zA @or_true (zA @decide_eq_true_eq (zA @Bool.true_eq_false (zA @Bool.false_xor (zA @Bool.true_xor (zA @Bool.not_true (zA @Bool.not_false (zA @Zh (zA @Bool.not_eq_true' (zA @decide_eq_false_iff_not @Classical.not_not))))))))))))))))))))))))))))))))))))))))))))))))))))))))))))))))))))))))))))))))))))
end L2
namespace L2
namespace Srt
open PySem PyProof.Rows
def kv (κ : Keyed -> Int) (xs : Array Keyed) (i : Nat) : Int := (xs[i]?.map κ).getD 0
def Up (κ : Keyed -> Int) (xs : Array Keyed) (k : Nat) : Prop := ∀ i j, i <= j -> j < k -> kv κ xs i <= kv κ xs j
def Dn (κ : Keyed -> Int) (xs : Array Keyed) (k : Nat) : Prop := ∀ i j, i <= j -> j < k -> kv κ xs j <= kv κ xs i
structure SB (kd : SortKind) (z : Array Keyed) (t : SortSt) : Prop where
 pm : (arrOf t).Perm z
 kn : kindOf t = kd
 fl : failedOf t = none
 pn : pendingOf t = #[]
theorem SB.sz {kd : SortKind} {z : Array Keyed} {t : SortSt} (b : SB kd z t) : (arrOf t).size = z.size := b.pm.size_eq
theorem SB.put {kd : SortKind} {z : Array Keyed} {t : SortSt} {xs : Array Keyed} (b : SB kd z t) (p : xs.Perm (arrOf t)) : SB kd z (setArr t xs) :=
 ⟨p.trans b.pm, b.kn, b.fl, b.pn⟩
theorem u0 {κ : Keyed -> Int} {xs : Array Keyed} {i : Nat} (h : i < xs.size) : kv κ xs i = κ xs[i] := by
 unfold kv; rw [Array.getElem?_eq_getElem h]; rfl
theorem zX {κ : Keyed -> Int} {xs ys : Array Keyed} {i j : Nat} (h : xs[i]? = ys[j]?) : kv κ xs i = kv κ ys j := by unfold kv; rw [h]
theorem B9 {κ : Keyed -> Int} {xs : Array Keyed} {u d : Nat} (hs : u < xs.size) (hd : d <= u) (k : Nat) :
 kv κ (bubble xs u d) k = if k = u - d then kv κ xs u else if u - d < k /\ k <= u then kv κ xs (k - 1) else kv κ xs k := by
 have e := getElem?_bubble hs d hd k
 by_cases h1 : k = u - d
 ·rw [if_pos h1] at e |-
  exact zX e
 ·rw [if_neg h1] at e |-
  by_cases h2 : u - d < k /\ k <= u
  ·rw [if_pos h2] at e |-
   exact zX e
  ·rw [if_neg h2] at e |-
   exact zX e
theorem Bg {κ : Keyed -> Int} {xs : Array Keyed} {n : Nat} (hj : n <= xs.size) {k : Nat} (hk : k < n) :
 kv κ (mirror xs 0 n ((n - 0) / 2)) k = kv κ xs (n - 1 - k) := by
 have e := getElem?_mirror_all (i := 0) hj k
 rw [if_pos ⟨Zb _, hk⟩, Nat.zero_add] at e
 exact zX e
section
variable {prog : Program} {w : World} {A : Around} {E : Value -> Shared -> Prop} {s : Shared} {z : Array Keyed} {κ : Keyed -> Int} {kd : SortKind} {t : SortSt}
def Lts (prog : Program) (w : World) (A : Around) (s : Shared) (kd : SortKind) (κ : Keyed -> Int) (z : Array Keyed) : Prop :=
 ∀ (E : Value -> Shared -> Prop) (p q : Keyed) (Q : Bool -> Shared -> Prop), p ∈ z.toList -> q ∈ z.toList -> Q (decide (κ p < κ q)) s -> wpAny (model prog w) A (keyLt' kd p.1 q.1) Q E s
theorem SB.mem (b : SB kd z t) {i : Nat} (h : i < (arrOf t).size) : (arrOf t)[i] ∈ z.toList :=
 (Yw.mp b.pm).mem_iff.mp (by simp)
theorem wF {i j : Nat} {Q : Option Bool -> SortSt -> Prop} (L : Lts prog w A s kd κ z) (b : SB kd z t) (hi : i < z.size) (hj : j < z.size)
 (h : Q (some (decide (kv κ (arrOf t) i < kv κ (arrOf t) j))) t) : wpS (model prog w) A E s (ltAt' i j) Q t := by
 have i' : i < (arrOf t).size := b.sz ▸ hi
 have j' : j < (arrOf t).size := b.sz ▸ hj
 rw [u0 i', u0 j'] at h
 rw [ltAt'_eq]
 refine wpS_bind (wpS_get ?_)
 show wpS (model prog w) A E s (elem' (arrOf t) i >>= fun p => elem' (arrOf t) j >>= fun q => lt' p q) Q t
 rw [elem'_eq, elem'_eq, Array.getElem?_eq_getElem i', Array.getElem?_eq_getElem j']
 refine wpS_bind (wpS_pure (wpS_bind (wpS_pure ?_)))
 rw [lt'_eq]
 refine wpS_bind (wpS_get ?_)
 rw [b.kn]
 exact wpS_bind (wpS_lift (wpAny_attempt (L _ _ _ _ (b.mem i') (b.mem j') ⟨rfl, wpS_pure h⟩)))
def uB (κ : Keyed -> Int) (z : Array Keyed) : Prop := (z.toList.map κ).Nodup
theorem apart (b : SB kd z t) (D : uB κ z) {i j : Nat} (hj : j < z.size) (h : i < j) : kv κ (arrOf t) i ≠ kv κ (arrOf t) j := by
 have j' : j < (arrOf t).size := b.sz ▸ hj
 have i' : i < (arrOf t).size := Nat.lt_trans h j'
 have d : ((arrOf t).toList.map κ).Nodup := ((Yw.mp b.pm).map κ).nodup_iff.mpr D
 rw [u0 i', u0 j']
 intro e
 have := Yu.mp d i j (by simpa using i') (by simpa using j') h
 simp at this
 exact this e
theorem DV {xs : Array Keyed} {n : Nat} (u : Up κ xs n) (h : n = 0 \/ kv κ xs (n - 1) <= kv κ xs n) : Up κ xs (n + 1) := by
 intro i j a c
 by_cases e : j < n
 ·exact u i j a e
 ·have : j = n := by omega
  subst this
  by_cases e2 : i = j
  ·subst e2; exact Y8 _
  ·exact Int.le_trans (u i (j - 1) (by omega) (by omega)) (h.resolve_left (by omega))
theorem zp {xs : Array Keyed} {n : Nat} (u : Dn κ xs n) (h : n = 0 \/ kv κ xs n <= kv κ xs (n - 1)) : Dn κ xs (n + 1) := by
 intro i j a c
 by_cases e : j < n
 ·exact u i j a e
 ·have : j = n := by omega
  subst this
  by_cases e2 : i = j
  ·subst e2; exact Y8 _
  ·exact Int.le_trans (h.resolve_left (by omega)) (u i (j - 1) (by omega) (by omega))
theorem asc {a r : Nat} {Q : AscSt -> SortSt -> Prop} (L : Lts prog w A s kd κ z) (hr : r <= z.size) (ha : 1 <= a) (har : a <= r) (b : SB kd z t) (u : Up κ (arrOf t) a)
 (h : ∀ n, a <= n -> n <= r -> Up κ (arrOf t) n -> (n = r \/ kv κ (arrOf t) n < kv κ (arrOf t) (n - 1)) -> Q (none, n) t) : wpS (model prog w) A E s (ascLoop a r) Q t := by
 unfold ascLoop
 refine wpS_forRange (fun x c t' => t' = t /\ c = (none, x) /\ Up κ (arrOf t) x) ?_ ?_ ⟨rfl, rfl, u⟩
 ·rintro x c t' x1 x2 ⟨rfl, rfl, u'⟩
  refine wpS_bind (wF L b (by omega) (by omega) ?_)
  by_cases l : kv κ (arrOf t') x < kv κ (arrOf t') (x - 1)
  ·simp only [decide_eq_true l, if_true]
   exact wpS_pure (h x x1 (by omega) u' (.inr l))
  ·simp only [decide_eq_false l, Zh, if_false]
   exact wpS_pure ⟨rfl, rfl, DV u' (.inr (by omega))⟩
 ·rintro c t' ⟨rfl, rfl, u'⟩
  rw [Nat.max_eq_right har] at u' |-
  exact h r har (zR _) u' (.inl rfl)
theorem t3 {n r : Nat} {Q : Option Nat -> SortSt -> Prop} (L : Lts prog w A s kd κ z) (hr : r <= z.size) (h1 : 1 <= n) (hn : n <= r) (b : SB kd z t) (u : Dn κ (arrOf t) n)
 (h : ∀ m t', SB kd z t' -> 1 <= m -> m <= r -> Up κ (arrOf t') m -> Q (some m) t') : wpS (model prog w) A E s (tail3 n r) Q t := by
 unfold tail3
 refine wpS_bind (wpS_reverse ?_)
 have b' := b.put (mirror_perm (arrOf t) 0 n ((n - 0) / 2))
 refine wpS_bind (asc L hr h1 hn b' ?_ fun m m1 m2 u' _ => wpS_pure (h m _ b' (by omega) m2 u'))
 intro i j a c
 have g : n <= (arrOf t).size := by rw [b.sz]; omega
 show kv κ (mirror (arrOf t) 0 n ((n - 0) / 2)) i <= kv κ (mirror (arrOf t) 0 n ((n - 0) / 2)) j
 rw [Bg g (by omega), Bg g c]
 exact u _ _ (by omega) (by omega)
theorem Hm {n r : Nat} {Q : DescSt -> SortSt -> Prop} (L : Lts prog w A s kd κ z) (D : uB κ z) (hr : r <= z.size) (h1 : 1 <= n) (hn : n <= r) (b : SB kd z t) (u : Dn κ (arrOf t) n)
 (h : ∀ m, n <= m -> m <= r -> Dn κ (arrOf t) m -> Q (none, m, 0) t) : wpS (model prog w) A E s (descLoop n r) Q t := by
 unfold descLoop
 refine wpS_forRange (fun x c t' => t' = t /\ c = (none, x, 0) /\ Dn κ (arrOf t) x) ?_ ?_ ⟨rfl, rfl, u⟩
 ·rintro x c t' x1 x2 ⟨rfl, rfl, u'⟩
  dsimp only
  refine wpS_bind (wF L b (by omega) (by omega) ?_)
  by_cases l : kv κ (arrOf t') x < kv κ (arrOf t') (x - 1)
  ·simp only [decide_eq_true l, if_true]
   rw [if_neg (ZR 0)]
   exact wpS_pure ⟨rfl, rfl, zp u' (.inr (Int.le_of_lt l))⟩
  ·simp only [decide_eq_false l, Zh, if_false]
   refine wpS_bind (wF L b (by omega) (by omega) ?_)
   have d := apart b D (i := x - 1) (j := x) (by omega) (by omega)
   simp only [decide_eq_true (show kv κ (arrOf t') (x - 1) < kv κ (arrOf t') x by omega), if_true]
   exact wpS_pure (h x x1 (by omega) u')
 ·rintro c t' ⟨rfl, rfl, u'⟩
  rw [Nat.max_eq_right hn] at u' |-
  exact h r hn (zR _) u'
theorem count {r : Nat} {Q : Option Nat -> SortSt -> Prop} (L : Lts prog w A s kd κ z) (D : uB κ z) (hr : r <= z.size) (h1 : 1 <= r) (b : SB kd z t)
 (h : ∀ m t', SB kd z t' -> 1 <= m -> m <= r -> Up κ (arrOf t') m -> Q (some m) t') : wpS (model prog w) A E s (countRun' 0 r) Q t := by
 rw [countRun0_eq]
 refine wpS_bind (asc L hr (zR 1) h1 b (fun i j a c => by have : i = j := (by omega); subst this; exact Y8 _) fun n n1 n2 u o => ?_)
 dsimp only
 by_cases e : n = r
 ·rw [if_pos (by simpa using e)]
  exact wpS_pure (h n t b n1 n2 u)
 rw [if_neg (by simpa using e)]
 by_cases g : n > 1
 ·rw [if_pos g]
  refine wpS_bind (wF L b (by omega) (by omega) ?_)
  have d := apart b D (i := 0) (j := n - 1) (by omega) (by omega)
  have l := u 0 (n - 1) (by omega) (by omega)
  simp only [decide_eq_true (show kv κ (arrOf t) 0 < kv κ (arrOf t) (n - 1) by omega), if_true]
  exact wpS_pure (h n t b n1 n2 u)
 ·rw [if_neg g]
  have : n = 1 := by omega
  subst this
  unfold descPart
  refine wpS_bind (wpS_lift (wpAny_rule ⟨rfl, ?_⟩))
  refine wpS_bind (Hm L D hr (by omega) (by omega) b ?_ fun m m1 m2 u' => ?_)
  ·refine zp (fun i j a c => by have : i = j := (by omega); subst this; exact Y8 _) (.inr ?_)
   have := o.resolve_left e
   omega
  ·dsimp only
   rw [if_neg (ZR 0)]
   exact t3 L hr (by omega) m2 b u' h
theorem FF {n k₀ : Nat} {Q : Bool -> SortSt -> Prop} (L : Lts prog w A s kd κ z) (hn : n <= z.size) (hk : k₀ <= n) (h0 : 1 <= k₀) (b : SB kd z t) (u : Up κ (arrOf t) k₀)
 (h : ∀ t', SB kd z t' -> Up κ (arrOf t') n -> Q true t') : wpS (model prog w) A E s (binarySort' 0 n k₀) Q t := by
 rw [binarySort'_eq]
 simp only [Nat.zero_add]
 rw [Nat.max_eq_left h0]
 refine wpS_bind (wpS_mono (wpS_forRange (fun k c t' => c = (none, ()) /\ SB kd z t' /\ Up κ (arrOf t') k) (Q := fun c t' => c = (none, ()) /\ SB kd z t' /\ Up κ (arrOf t') n) ?_ ?_ ⟨rfl, b, u⟩) ?_)
 ·rintro k c t' k1 k2 ⟨rfl, b', u'⟩
  refine wpS_bind (wpS_mono (wpS_forRange (fun x c t2 => t2 = t' /\ ∃ l r, c = (none, l, r) /\ l <= r /\ r <= k /\ r - l <= k - x /\
   (∀ i, i < l -> kv κ (arrOf t') i <= kv κ (arrOf t') k) /\ ∀ i, r <= i -> i < k -> kv κ (arrOf t') k <= kv κ (arrOf t') i)
   (Q := fun c t2 => t2 = t' /\ ∃ l r, c = (none, l, r) /\ l <= k /\ (∀ i, i < l -> kv κ (arrOf t') i <= kv κ (arrOf t') k) /\ ∀ i, l <= i -> i < k -> kv κ (arrOf t') k <= kv κ (arrOf t') i) ?_ ?_
    ⟨rfl, 0, k, rfl, Zb _, zR _, zR _, fun i q => absurd q (Nat.not_lt_zero _), fun i q q' => absurd q' (Nat.not_lt.mpr q)⟩) ?_)
  ·rintro x c t2 _ x2 ⟨rfl, l, r, rfl, lr, rk, m, lo, hi⟩
   dsimp only
   by_cases g : l ≥ r
   ·rw [if_pos g]
    have : l = r := by omega
    subst this
    exact wpS_pure ⟨rfl, l, l, rfl, rk, lo, hi⟩
   rw [if_neg g]
   refine wpS_bind (wF L b' (by omega) (by omega) ?_)
   by_cases q : kv κ (arrOf t2) k < kv κ (arrOf t2) ((l + r) / 2)
   ·simp only [decide_eq_true q, if_true]
    exact wpS_pure ⟨rfl, l, (l + r) / 2, rfl, by omega, by omega, by omega, lo, fun i a c => Int.le_trans (Int.le_of_lt q) (u' _ _ a c)⟩
   ·simp only [decide_eq_false q, Zh, if_false]
    exact wpS_pure ⟨rfl, (l + r) / 2 + 1, r, rfl, by omega, by omega, by omega, fun i a => Int.le_trans (u' i ((l + r) / 2) (by omega) (by omega)) (by omega), hi⟩
  ·rintro c t2 ⟨rfl, l, r, rfl, lr, rk, m, lo, hi⟩
   have : l = r := by omega
   subst this
   exact ⟨rfl, l, l, rfl, rk, lo, hi⟩
  ·rintro c t2 ⟨rfl, l, r, rfl, lk, lo, hi⟩
   show wpS (model prog w) A E s (moveDown' k l >>= fun _ => pure (ForInStep.yield (none, ()))) _ t2
   rw [moveDown'_eq]
   refine wpS_bind (wpS_modify (wpS_pure ⟨rfl, b'.put (bubble_perm _ _ _), ?_⟩))
   have g : k < (arrOf t2).size := by rw [b'.sz]; omega
   intro i j a c
   show kv κ (bubble (arrOf t2) k (k - l)) i <= kv κ (bubble (arrOf t2) k (k - l)) j
   rw [B9 g (by omega), B9 g (by omega), Nat.sub_sub_self lk]
   by_cases e1 : i = l
   ·rw [if_pos e1]
    by_cases e2 : j = l
    ·rw [if_pos e2]; exact Y8 _
    ·rw [if_neg e2, if_pos (by omega)]; exact hi _ (by omega) (by omega)
   ·rw [if_neg e1]
    by_cases e3 : l < i /\ i <= k
    ·rw [if_pos e3, if_neg (by omega), if_pos (by omega)]; exact u' _ _ (by omega) (by omega)
    ·rw [if_neg e3]
     by_cases e2 : j = l
     ·rw [if_pos e2]; exact lo _ (by omega)
     ·rw [if_neg e2]
      by_cases e4 : l < j /\ j <= k
      ·rw [if_pos e4]; exact u' _ _ (by omega) (by omega)
      ·rw [if_neg e4]; exact u' _ _ a (by omega)
 ·rintro c t' ⟨e, b', u'⟩
  rw [Nat.max_eq_right hk] at u'
  exact ⟨e, b', u'⟩
 ·rintro c t' ⟨rfl, b', u'⟩
  exact wpS_pure (h t' b' u')
theorem Hl {Q : Unit -> SortSt -> Prop} (L : Lts prog w A s kd κ z) (D : uB κ z) (b : SB kd z t) (h2 : 2 <= z.size) (h64 : z.size < 64)
 (h : ∀ t', (arrOf t').Perm z -> failedOf t' = none -> Up κ (arrOf t') z.size -> Q () t') : wpS (model prog w) A E s sortRuns' Q t := by
 rw [sortRuns'_eq]
 refine wpS_bind (wpS_get ?_)
 dsimp only
 have mr : minRun' z.size z.size 0 = z.size := by
  obtain ⟨f, e⟩ : ∃ f, z.size = f + 1 := ⟨z.size - 1, by omega⟩
  rw [e, minRun'_succ, if_pos (by omega), Nat.add_zero]
 simp only [b.sz, mr]
 refine wpS_bind (wpS_mono (wpS_forRange
  (fun x c t' => (x = 0 /\ c = (none, 0) /\ SB kd z t') \/ (1 <= x /\ c = (none, z.size) /\ (arrOf t').Perm z /\ failedOf t' = none /\ pendingOf t' = #[(0, z.size, 0)] /\ Up κ (arrOf t') z.size))
  (Q := fun c t' => c = (none, z.size) /\ (arrOf t').Perm z /\ failedOf t' = none /\ pendingOf t' = #[(0, z.size, 0)] /\ Up κ (arrOf t') z.size) ?_ ?_ (.inl ⟨rfl, rfl, b⟩)) ?_)
 ·rintro x c t' _ x2 (⟨rfl, rfl, b'⟩ | ⟨x1, rfl, d⟩)
  ·dsimp only
   rw [if_neg (by omega)]
   simp only [Nat.sub_zero, Nat.min_self, Nat.zero_add]
   refine wpS_bind (count L D (zR _) (by omega) b' fun m t2 b2 m1 m2 u2 => ?_)
   dsimp only
   by_cases g : m < z.size
   ·rw [if_pos g]
    refine wpS_bind (wpS_lift (wpAny_rule ⟨rfl, ?_⟩))
    refine wpS_bind (FF L (zR _) m2 m1 b2 u2 fun t3 b3 u3 => ?_)
    simp only [Bool.not_true, Zh, if_false]
    refine wpS_bind (wpS_get ?_)
    rw [show (pendingOf t3).back? = none by rw [b3.pn]; rfl]
    exact wpS_bind (wpS_modify (wpS_pure (.inr ⟨by omega, rfl, b3.pm, b3.fl, by show (pendingOf t3).push _ = _; rw [b3.pn]; rfl, u3⟩)))
   ·rw [if_neg g]
    have : m = z.size := by omega
    subst this
    refine wpS_bind (wpS_get ?_)
    rw [show (pendingOf t2).back? = none by rw [b2.pn]; rfl]
    exact wpS_bind (wpS_modify (wpS_pure (.inr ⟨by omega, rfl, b2.pm, b2.fl, by show (pendingOf t2).push _ = _; rw [b2.pn]; rfl, u2⟩)))
  ·dsimp only
   rw [if_pos (zR _)]
   exact wpS_pure ⟨rfl, d⟩
 ·rintro c t' (⟨x, _, _⟩ | ⟨_, e, d⟩)
  ·omega
  ·exact ⟨e, d⟩
 ·rintro c t' ⟨rfl, p1, p2, p3, p4⟩
  dsimp only
  refine wpS_bind (wpS_mono (wpS_forRange (fun _ c t2 => t2 = t' /\ c = (none, ())) (Q := fun c t2 => t2 = t' /\ c = (none, ())) ?_ (fun _ _ q => q) ⟨rfl, rfl⟩) ?_)
  ·rintro x c t2 _ _ ⟨rfl, rfl⟩
   refine wpS_bind (wpS_get ?_)
   rw [if_pos (by rw [p3]; exact zR 1)]
   exact wpS_pure ⟨rfl, rfl⟩
  ·rintro c t2 ⟨rfl, rfl⟩
   exact wpS_pure (h _ p1 p2 p4)
end
section
variable {prog : Program} {w : World} {A : Around} {E : Value -> Shared -> Prop} {s : Shared}
structure Cmp (prog : Program) (w : World) (h : Heap) (os : OsState) (kd : SortKind) (κ : Value -> Int) (vs : List Value) : Prop where
 kind : ∀ (A : Around) (E : Value -> Shared -> Prop) (s : Shared) (Q : SortKind -> Shared -> Prop), s.heap = h -> Q kd s -> wpAny (model prog w) A (keyKind' vs.toArray) Q E s
 lt : ∀ (A : Around) (E : Value -> Shared -> Prop) (s : Shared) (p q : Value) (Q : Bool -> Shared -> Prop), s.heap = h -> p ∈ vs -> q ∈ vs -> Q (decide (κ p < κ q)) s -> wpAny (model prog w) A (keyLt' kd p q) Q E s
theorem pairs_mem {vs : List Value} {p : Keyed} (h : p ∈ (vs.toArray.zip vs.toArray).toList) : p.1 ∈ vs /\ p.2 = p.1 := by
 rw [Array.toList_zip] at h
 simp at h
 rw [List.zip_eq_zipWith, List.zipWith_self] at h
 obtain ⟨a, ha, e⟩ := Zp.mp h
 subst e
 exact ⟨ha, rfl⟩
theorem pairs_fst (vs : List Value) : (vs.toArray.zip vs.toArray).toList.map (·.1) = vs := by
 rw [Array.toList_zip]
 exact List.map_fst_zip (zR _)
theorem DK {a : Addr} {vs : List Value} {n : Nat} {kd : SortKind} {κ : Value -> Int} {P : Fin -> Shared -> Prop} (ho : s.heap.get? a = some (seqObj "list" vs.toArray n)) (h64 : vs.length < 64) (hd : (vs.map κ).Nodup)
 (hC : 2 <= vs.length -> Cmp prog w (((s.heap.update a (Zc fun _ => #[])).push (seqObj "tuple" vs.toArray 0)).push (seqObj "list" #[] 0)) s.os kd κ vs)
 (h : ∀ out : List Value, out.Perm vs -> out.Pairwise (fun x y => κ x < κ y) -> P (.done (.ret .none)) { s with heap := sortedHeap s.heap a vs out.toArray }) :
 wpAny (model prog w) A (Builtin.«list.sort» ⟨[.ref a], []⟩) P E s := by
 rw [list_sort_plain]
 have la : a < s.heap.objs.size := xw ho
 refine zu (listItems_at ho rfl (zu (listUpdate_at ho rfl ?_ (hsz := by rw [zj, uT]; omega))))
 obtain ⟨e1, ho1⟩ : ∃ e, (s.heap.update a (Zc fun _ => #[])).get? a = some (seqObj "list" #[] e) := ⟨_, get?_update_seq ho fun _ => #[]⟩
 refine zu (seqEpoch_at ho1 rfl (zu (wpAny_newTuple (zu (wpAny_newList (Z5 ?_))) (by show vs.length <= _; rw [uT]; omega))))
 have ho3 : (((s.heap.update a (Zc fun _ => #[])).push (seqObj "tuple" vs.toArray 0)).push (seqObj "list" #[] 0)).get? a = some (seqObj "list" #[] e1) :=
  Heap.get?_push_of_some _ (Heap.get?_push_of_some _ ho1)
 show wpAny (model prog w) A _ P E { s with heap := ((s.heap.update a (Zc fun _ => #[])).push (seqObj "tuple" vs.toArray 0)).push (seqObj "list" #[] 0) }
 dsimp only
 have fin : ∀ t : SortSt, (arrOf t).Perm (vs.toArray.zip vs.toArray) -> failedOf t = none -> Up (fun p => κ p.1) (arrOf t) (vs.toArray.zip vs.toArray).size ->
  (((arrOf t).map (·.2)).toList.Perm vs /\ ((arrOf t).map (·.2)).toList.Pairwise fun x y => κ x < κ y) := fun t pm _ u => by
  have pl := Yw.mp pm
  have e2 : ((arrOf t).map (·.2)).toList = (arrOf t).toList.map (·.1) := by
   rw [Array.toList_map]
   exact Zs fun p hp => (pairs_mem (pl.mem_iff.mp hp)).2
  have p1 : ((arrOf t).map (·.2)).toList.Perm vs := by
   rw [e2]
   have := pl.map (·.1)
   rwa [pairs_fst] at this
  refine ⟨p1, ?_⟩
  have nd : (((arrOf t).map (·.2)).toList.map κ).Nodup := (p1.map κ).nodup_iff.mpr hd
  rw [e2] at nd |-
  have sz : (arrOf t).size = (vs.toArray.zip vs.toArray).size := pm.size_eq
  refine Yu.mpr fun i j hi hj hij => ?_
  have hi' : i < (arrOf t).size := by simpa using hi
  have hj' : j < (arrOf t).size := by simpa using hj
  have l := u i j (Nat.le_of_lt hij) (by omega)
  rw [u0 hi', u0 hj'] at l
  have d := Yu.mp nd i j (by simpa using hi) (by simpa using hj) hij
  simp at d l |-
  omega
 by_cases c2 : vs.toArray.size < 2
 ·rw [if_pos c2, if_pos c2]
  refine zu (wG ?_)
  rw [StateT.run_pure]
  refine zu (wG ?_)
  dsimp only
  refine zu (seqEpoch_at ho3 rfl ?_)
  obtain ⟨f1, f2⟩ := fin (SortSt.mk' general' (vs.toArray.zip vs.toArray) #[] 7 none) (Array.Perm.refl _) rfl fun i j hij hj => by
   have : i = j := by simp at hj c2; omega
   subst this; exact Y8 _
  have sz2 : ((vs.toArray.zip vs.toArray).map (·.2)).size <= sizeLine + 1 := by simp; rw [uT]; omega
  refine zu (listUpdate_at ho3 rfl ?_ (hsz := by rw [uT]; decide) (hsz2 := sz2))
  simp only [bne_self_eq_false, Zh, if_false]
  exact wG (h _ f1 f2)
 ·rw [if_neg c2, if_neg c2]
  have C := hC (by simp at c2; omega)
  refine zu (C.kind _ _ _ _ rfl ?_)
  have zs : (vs.toArray.zip vs.toArray).size = vs.length := by simp
  have L : Lts prog w A { s with heap := ((s.heap.update a (Zc fun _ => #[])).push (seqObj "tuple" vs.toArray 0)).push (seqObj "list" #[] 0) } kd (fun p => κ p.1) (vs.toArray.zip vs.toArray) :=
   fun E p q Q hp hq k => C.lt _ _ _ _ _ _ rfl (pairs_mem hp).1 (pairs_mem hq).1 k
  have D : uB (fun p => κ p.1) (vs.toArray.zip vs.toArray) := by
   unfold uB
   rw [show (vs.toArray.zip vs.toArray).toList.map (fun p => κ p.1) = ((vs.toArray.zip vs.toArray).toList.map (·.1)).map κ by rw [uY]; rfl, pairs_fst]
   exact hd
  refine zu (Zr (Hl (z := vs.toArray.zip vs.toArray) (t := SortSt.mk' kd (vs.toArray.zip vs.toArray) #[] 7 none) (Q := fun _ t' => (arrOf t').Perm (vs.toArray.zip vs.toArray) /\ failedOf t' = none /\ Up (fun p => κ p.1) (arrOf t') (vs.toArray.zip vs.toArray).size)
   L D ⟨Array.Perm.refl _, rfl, rfl, rfl⟩ (by rw [zs]; simp at c2; omega) (by omega) fun t' a1 a2 a3 => ⟨a1, a2, a3⟩) ?_ fun _ _ e => e)
  rintro ⟨⟨⟩, t'⟩ s' ⟨rfl, a1, a2, a3⟩
  dsimp only
  refine zu (seqEpoch_at ho3 rfl ?_)
  obtain ⟨f1, f2⟩ := fin t' a1 a2 a3
  have sz2 : ((arrOf t').map (·.2)).size <= sizeLine + 1 := by
   have := f1.length_eq
   rw [Z4] at this
   rw [this, uT]; omega
  refine zu (listUpdate_at ho3 rfl ?_ (hsz := by rw [uT]; decide) (hsz2 := sz2))
  rw [a2]
  simp only [bne_self_eq_false, Zh, if_false]
  exact wG (h _ f1 f2)
theorem sorted_by {l : Addr} {vs : List Value} {kd : SortKind} {κ : Value -> Int} {Q : Value -> Shared -> Prop} (hl : s.heap.IsList l vs.toArray) (h64 : vs.length < 64) (hd : (vs.map κ).Nodup)
 (hC : 2 <= vs.length -> ∀ h', (∀ b o, s.heap.get? b = some o -> h'.get? b = some o) -> Cmp prog w h' s.os kd κ vs)
 (h : ∀ (out : List Value) (h' : Heap) (c : Nat), out.Perm vs -> out.Pairwise (fun x y => κ x < κ y) -> (∀ b o, s.heap.get? b = some o -> h'.get? b = some o) ->
  h'.get? (s.heap.objs.size + 1) = some (seqObj "list" out.toArray c) -> Q (.ref (s.heap.objs.size + 1)) { s with heap := h' }) :
 wpAny (model prog w) A (call (.builtin "sorted") [.ref l]) Q E s := by
 refine YD kind_sorted plain_sorted entry_sorted (args_sorted1 _) ?_
 unfold Builtin.«sorted»
 refine zu (m := checkCount "sorted" 1 1 _) (wG (zu (collect_list hl (zu (wpAny_newList ?_ (by rw [uT]; omega))) (by rw [uT]; omega))))
 have z : ((s.heap.push (seqObj "list" #[] 0)).update s.heap.objs.size (Zc (· ++ vs.toArray))).objs.size = s.heap.objs.size + 1 := (Heap.size_update ..).trans (size_push' _ _)
 have kp : ∀ b o, s.heap.get? b = some o -> (((s.heap.push (seqObj "list" #[] 0)).update s.heap.objs.size (Zc (· ++ vs.toArray))).push (seqObj "list" vs.toArray 0)).get? b = some o := fun b o e => by
  have lt : b < s.heap.objs.size := xw e
  refine Heap.get?_push_of_some _ ?_
  rw [Heap.get?_update_ne _ _ _ _ (uZ lt)]
  exact Heap.get?_push_of_some _ e
 have at1 : (((s.heap.push (seqObj "list" #[] 0)).update s.heap.objs.size (Zc (· ++ vs.toArray))).push (seqObj "list" vs.toArray 0)).get? (s.heap.objs.size + 1) = some (seqObj "list" vs.toArray 0) := by
  rw [<- z]; exact Heap.get?_push_size _ rfl
 show wpAny (model prog w) _ _ _ _ { s with heap := ((s.heap.push (seqObj "list" #[] 0)).update s.heap.objs.size (Zc (· ++ vs.toArray))).push (seqObj "list" vs.toArray 0) }
 rw [z]
 generalize hh : ((s.heap.push (seqObj "list" #[] 0)).update s.heap.objs.size (Zc (· ++ vs.toArray))).push (seqObj "list" vs.toArray 0) = h1 at at1 kp |-
 have kp2 : ∀ b o, s.heap.get? b = some o -> (((h1.update (s.heap.objs.size + 1) (Zc fun _ => #[])).push (seqObj "tuple" vs.toArray 0)).push (seqObj "list" #[] 0)).get? b = some o := fun b o e => by
  have lt : b < s.heap.objs.size := xw e
  refine Heap.get?_push_of_some _ (Heap.get?_push_of_some _ ?_)
  rw [Heap.get?_update_ne _ _ _ _ (uZ (Nat.lt_succ_of_lt lt))]
  exact kp b o e
 refine zu (Z5 (ZX slot_list_sort ⟨_, at1, rfl⟩ entry_list_sort (DK (s := { s with heap := h1 }) at1 h64 hd (fun c => hC c _ kp2) fun out p1 p2 => ⟨_, rfl, ?_⟩) (args_list_sort _)))
 have at2 : (((h1.update (s.heap.objs.size + 1) (Zc fun _ => #[])).push (seqObj "tuple" vs.toArray 0)).push (seqObj "list" #[] 0)).get? (s.heap.objs.size + 1) = some (seqObj "list" #[] _) :=
  Heap.get?_push_of_some _ (Heap.get?_push_of_some _ (get?_update_seq at1 fun _ => #[]))
 refine wG ⟨_, rfl, h out _ _ p1 p2 (fun b o e => ?_) (get?_update_seq at2 fun _ => out.toArray)⟩
 have lt : b < s.heap.objs.size := xw e
 show (Heap.update _ _ _).get? b = _
 rw [Heap.get?_update_ne _ _ _ _ (uZ (Nat.lt_succ_of_lt lt))]
 exact kp2 b o e
end
end Srt
end L2
namespace L2
namespace Srt
open PySem PyProof.Rows
def Two (h : Heap) (p : Addr) (x y : Int) : Prop := ∃ (o : Obj) (t u : Tok) (n : Nat), h.get? p = some o /\ o.cls = .type "tuple" /\ o.data = .seq #[.int x t, .int y u] n
section
variable {prog : Program} {w : World} {A : Around} {E : Value -> Shared -> Prop} {s : Shared}
theorem Two.ty {h : Heap} {p : Addr} {x y : Int} (t : Two h p x y) {s : Shared} (e : s.heap = h) : s.TypeIs (.ref p) "tuple" := by
 obtain ⟨o, _, _, _, ho, hc, _⟩ := t
 subst e
 exact ⟨o, ho, hc⟩
theorem sR : ∀ (vs : List Value), (∀ v ∈ vs, ∃ p x y, v = .ref p /\ Two s.heap p x y) -> ∀ {Q : List (Option Value) -> Shared -> Prop}, (∀ fs ns, IntsAre fs ns -> fs.length = vs.length -> Q (fs.map some) s) ->
 wpAny (model prog w) A (vs.mapM firstOfTuple') Q E s
 | [], _, Q, h => by rw [List.mapM_nil]; exact wG (h [] [] .nil rfl)
 | v :: vs, hv, Q, h => by
  obtain ⟨p, x, y, rfl, hp⟩ := hv v (Zt ..)
  have t1 := hp.ty rfl
  obtain ⟨o, t, u, n, ho, hc, hd⟩ := hp
  rw [List.mapM_cons]
  refine zu ?_
  show wpAny _ _ (typeOf (.ref p) >>= _) _ _ s
  refine zu (wpAny_typeOf t1 ?_)
  rw [if_neg (by decide)]
  refine zu (listItems_at ho hd (wG ?_))
  show wpAny _ _ (vs.mapM firstOfTuple' >>= fun bs => pure (some (YU x t) :: bs)) Q E s
  exact zu (sR vs (fun v hv' => hv v (ue _ hv')) fun fs ns hI hl => wG (h (.int x t :: fs) (x :: ns) (.cons x t hI) (by simp [hl])))
theorem BU {vs : List Value} (hv : ∀ v ∈ vs, ∃ p x y, v = .ref p /\ Two s.heap p x y) (h2 : 2 <= vs.length) {Q : SortKind -> Shared -> Prop} (h : Q (tuples' true) s) : wpAny (model prog w) A (keyKind' vs.toArray) Q E s := by
 rw [keyKind'_eq, List.mapM_toArray, map_eq_pure_bind]
 refine zu (zu (sR vs hv fun fs ns hI hl => wG ?_))
 rw [if_pos (by simp)]
 refine zu (wpAny_rule ?_)
 have e : (fs.map some).toArray.filterMap id = fs.toArray := by simp
 rw [e, oneTypeOnly'_eq, List.mapM_toArray, mapM_typeOf_ints hI]
 simp only [map_pure, pure_bind]
 have all : ((fs.map fun _ => Ye "int").toArray.all fun x => x == Ye "int") = true := by
  simp only [List.all_toArray, Yq, u9]
  exact fun _ _ => rfl
 have at0 : (fs.map fun _ => Ye "int").toArray[0]? = some (Ye "int") := by
  have : 0 < fs.length := by omega
  simp [this]
 rw [at0]
 simp only [all, if_true, pure_bind]
 exact wG h
theorem Fk {p q : Addr} {x y x' y' : Int} {Q : Bool -> Shared -> Prop} (hp : Two s.heap p x y) (hq : Two s.heap q x' y') (h : Q (decide (x < x' \/ (x = x' /\ y < y'))) s) :
 wpAny (model prog w) A (keyLt' (tuples' true) (.ref p) (.ref q)) Q E s := by
 obtain ⟨o, t, u, n, ho, hc, hd⟩ := hp
 obtain ⟨o', t', u', n', ho', hc', hd'⟩ := hq
 show wpAny _ _ (Builtin.List.listItems (.ref p) >>= fun xs => Builtin.List.listItems (.ref q) >>= fun ys => _) _ _ s
 refine zu (listItems_at ho hd (zu (listItems_at ho' hd' ?_)))
 show wpAny _ _ (forIn [((YU x t, YU x' t'), 0), ((YU y u, YU y' u'), 1)] (none, ()) _ >>= _) _ _ s
 rw [List.forIn_cons]
 refine zu (zu (zu (wpAny_eqBool_int ?_)))
 by_cases e : x = x'
 ·subst e
  simp only [beq_self_eq_true, Bool.not_true, Zh, if_false]
  refine wG ?_
  simp only [List.forIn_cons]
  refine zu (zu (wpAny_eqBool_int ?_))
  by_cases e2 : y = y'
  ·subst e2
   simp only [beq_self_eq_true, Bool.not_true, Zh, if_false]
   refine wG ?_
   simp only [List.forIn_nil]
   refine wG (wG ?_)
   rw [decide_eq_false (by omega)] at h
   exact h
  ·simp only [beq_eq_false_iff_ne.mpr e2, Bool.not_false, if_true]
   refine zu ?_
   show wpAny _ _ (oneLt' false (.int y u) (.int y' u')) _ _ s
   rw [oneLt'_eq]
   simp only [Zh, if_false]
   refine zu (lt_int (Zl (wG (wG (wG ?_)))))
   rw [show decide (y < y') = decide (x < x \/ (x = x /\ y < y')) by by_cases c : y < y' <;> simp [c] <;> omega]
   exact h
 ·simp only [beq_eq_false_iff_ne.mpr e, Bool.not_false, if_true]
  refine zu ?_
  show wpAny _ _ (oneLt' true (.int x t) (.int x' t')) _ _ s
  refine oneLt_int (wG (wG (wG ?_)))
  rw [show decide (x < x') = decide (x < x' \/ (x = x' /\ y < y')) by by_cases c : x < x' <;> simp [c] <;> omega]
  exact h
theorem cmp_two {h : Heap} {os : OsState} {vs : List Value} {κ : Value -> Int} (h2 : 2 <= vs.length) (hv : ∀ v ∈ vs, ∃ p x y, v = .ref p /\ Two h p x y /\ κ v = x * 64 + y /\ 0 <= y /\ y < 64) : Cmp prog w h os (tuples' true) κ vs where
 kind A E s Q e q := by
  subst e
  exact BU (fun v m => let ⟨p, x, y, a, b, _⟩ := hv v m; ⟨p, x, y, a, b⟩) h2 q
 lt A E s u v Q e mu mv q := by
  subst e
  obtain ⟨p, x, y, rfl, b, k, l0, l1⟩ := hv u mu
  obtain ⟨p', x', y', rfl, b', k', l0', l1'⟩ := hv v mv
  refine Fk b b' ?_
  rw [k, k'] at q
  rw [show decide (x < x' \/ (x = x' /\ y < y')) = decide (x * 64 + y < x' * 64 + y') by
   by_cases c : x * 64 + y < x' * 64 + y'
   ·rw [decide_eq_true c, decide_eq_true (by omega)]
   ·rw [decide_eq_false c, decide_eq_false (by omega)]]
  exact q
end
end Srt
end L2
namespace L2
namespace Srt
open PySem PyProof.Rows
section
variable {prog : Program} {w : World} {A : Around} {E : Value -> Shared -> Prop} {R : Result -> Shared -> Prop} {s : Shared} {I S ax : Addr} {items : Array Value} {h₀ : Heap} {κ : Value -> Int}
def Prs (h : Heap) (κ : Value -> Int) (lo : Int) (v : Value) : Prop := ∃ p x y, v = .ref p /\ Two h p x y /\ κ v = x * 64 + y /\ lo <= y /\ y < lo + 64
theorem Two.keep {h h' : Heap} {p : Addr} {x y : Int} (t : Two h p x y) (k : ∀ b o, h.get? b = some o -> h'.get? b = some o) : Two h' p x y := by
 obtain ⟨o, t, u, n, ho, r⟩ := t
 exact ⟨o, t, u, n, k _ _ ho, r⟩
end
end Srt
end L2
namespace L2
open PySem PyProof.Rows
section
variable {X : Cx} {pins : List (Addr × Obj)} {σ : St} {H : Hp} {s : Shared}
abbrev Pr := Addr × Int × Int
def PrL (K : W.Frag) (H : Hp) (ps : List Pr) : Prop := ∀ e ∈ ps, SqT K H e.1 [.int e.2.1, .int e.2.2]
abbrev cod (e : Pr) : Int := e.2.1 * 64 + e.2.2
theorem Inv.two (I : Inv X pins σ H s) {p : Addr} {x y : Int} (h : SqT X.K H p [.int x, .int y]) : Srt.Two s.heap p x y := by
 obtain ⟨its, r, ⟨o, ho, hc, n, hd⟩, _⟩ := I.tuple h
 match its, r with
 | [a, b], .cons r1 (.cons r2 .nil) =>
  obtain ⟨t, rfl⟩ := r1
  obtain ⟨u, rfl⟩ := r2
  exact ⟨o, t, u, n, ho, hc, hd⟩
theorem Do {h : Heap} {p : Addr} {x y x' y' : Int} (a : Srt.Two h p x y) (b : Srt.Two h p x' y') : x = x' /\ y = y' := by
 obtain ⟨o, t, u, n, ho, hc, hd⟩ := a
 obtain ⟨o', t', u', n', ho', hc', hd'⟩ := b
 rw [ho] at ho'; cases ho'
 rw [hd] at hd'
 injection hd' with z _
 have z2 := congrArg Array.toList z
 simp at z2
 exact ⟨z2.1.1, z2.2.1⟩
def oH (ps : List Pr) : Value -> Pr
 | .ref a => (ps.find? fun e => e.1 == a).getD (0, 0, 0)
 | _ => (0, 0, 0)
theorem DN (I : Inv X pins σ H s) {ps : List Pr} (hp : PrL X.K H ps) {e : Pr} (m : e ∈ ps) : oH ps (.ref e.1) = e := by
 show (ps.find? fun z => z.1 == e.1).getD (0, 0, 0) = e
 cases f : ps.find? fun z => z.1 == e.1 with
 | none => exact absurd (List.find?_eq_none.mp f e m) (by simp)
 | some z =>
  have m' := List.mem_of_find?_eq_some f
  have e1 : z.1 = e.1 := by simpa using List.find?_some f
  have t1 := I.two (hp z m')
  have t2 := I.two (hp e m)
  rw [e1] at t1
  obtain ⟨a, b⟩ := Do t1 t2
  show z = e
  obtain ⟨z1, z2, z3⟩ := z
  obtain ⟨y1, y2, y3⟩ := e
  simp at e1 a b
  subst e1; subst a; subst b; rfl
theorem Da {ps : List Pr} {its : List Value} (r : Vals (ps.map fun e => V.ref e.1) its) : its = ps.map fun e => xL e.1 := by
 induction ps generalizing its with
 | nil => cases r; rfl
 | cons e ps ih =>
  cases r with
  | cons r1 r2 => rw [ih r2]; cases (show _ = xL e.1 from r1); rfl
theorem xh : ∀ ps : List Pr, Vals (ps.map fun e => V.ref e.1) (ps.map fun e => xL e.1)
 | [] => .nil
 | e :: ps => .cons rfl (xh ps)
def BK (K : W.Frag) : List V -> Hp -> VK -> Prop
 | [.ref p], H, Q => ∃ ps : List Pr, SqL K H p (ps.map fun e => .ref e.1) /\ PrL K H ps /\ ps.length < 64 /\ (∀ e ∈ ps, 0 <= e.2.2 /\ e.2.2 < 64) /\ (ps.map cod).Nodup /\
  ∀ out : List Pr, out.Perm ps -> out.Pairwise (fun a b => cod a < cod b) -> ∀ l, H l = none -> Q (.ref l) (upd H l (.lst (out.map fun e => .ref e.1)))
 | _, _, _ => False
theorem Cs (K : W.Frag) (hK : X.K = K := by rfl) : CallR X (.builtin "sorted") (BK K) := by
 subst hK
 intro pins s σ H xs us Q I r h
 unfold BK at h
 split at h
 ·rename_i p
  obtain ⟨ps, hq, hp, h64, hb, nd, q⟩ := h
  obtain ⟨u, rfl, rx⟩ := iQ r
  cases (show u = xL p from rx)
  obtain ⟨its, r', pl, hz⟩ := I.list hq
  have ei := Da r'
  subst ei
  have inv : ∀ e ∈ ps, oH ps (.ref e.1) = e := fun e m => DN I hp m
  have em : (ps.map fun e => xL e.1).map (oH ps) = ps := by
   rw [uY]
   exact (Zs fun e m => inv e m).trans (List.map_id _)
  refine Srt.sorted_by (kd := tuples' true) (κ := fun v => cod (oH ps v)) pl.isList (by simpa using h64) ?_ (fun h2 h' kp => Srt.cmp_two (by simpa using h2) fun v m => ?_) fun out h' c pm sr kp e => ?_
  ·rw [show (ps.map fun e => xL e.1).map (fun v => cod (oH ps v)) = ((ps.map fun e => xL e.1).map (oH ps)).map cod by simp only [uY]; rfl, em]
   exact nd
  ·obtain ⟨e, me, rfl⟩ := Zp.mp m
   refine ⟨e.1, e.2.1, e.2.2, rfl, (I.two (hp e me)).keep kp, ?_, (hb e me).1, (hb e me).2⟩
   show cod (oH ps (.ref e.1)) = _
   rw [inv e me]
  ·have pm' : (out.map (oH ps)).Perm ps := by
    have := pm.map (oH ps)
    rwa [em] at this
   have eo : out = (out.map (oH ps)).map fun e => xL e.1 := by
    rw [uY]
    refine ((Zs fun v m => ?_).trans (List.map_id _)).symm
    obtain ⟨e, m', rfl⟩ := Zp.mp (pm.mem_iff.mp m)
    show xL (oH ps (.ref e.1)).1 = _
    rw [inv e m']; rfl
   have so : (out.map (oH ps)).Pairwise fun a b => cod a < cod b := List.pairwise_map.mpr sr
   refine ⟨.ref (s.heap.objs.size + 1), _, I.laid (t' := s.toks) (a := s.heap.objs.size + 1) kp (ZC _) (show ObjOk X.prog X.w _ h' _ (.lst ((out.map (oH ps)).map fun e => .ref e.1)) from ⟨?_, out, c, ?_, e⟩), rfl, q _ pm' so _ (I.hok.fresh (ZC _))⟩
   ·rw [zl, pm'.length_eq, uT]; omega
   ·have := xh (out.map (oH ps))
    rwa [<- eo] at this
 ·exact h.elim
def Ite (K : W.Frag) (a : Addr) : It :=
 ⟨fun i H => ∃ xs x, SqL K H a xs /\ xs[i]? = some x, fun i H x H' => ∃ p y, H p = none /\ x = .ref p /\ H' = upd H p (.tup [.int i, y]) /\ ∀ xs, SqL K H a xs -> xs[i]? = some y, fun i H => ∃ xs, SqL K H a xs /\ xs.length <= i⟩
theorem Inv.turned2 {h' : Heap} {t' : Nat} {e it : Addr} {oe oi : Obj} (I : Inv X pins σ H s) (ge : s.heap.get? e = some oe) (gi : s.heap.get? it = some oi) (ne : e ≠ it) (he : ∃ o, h'.get? e = some o /\ o.isFreed = false) (hi : ∃ o, h'.get? it = some o /\ o.isFreed = false)
 (k : ∀ b o, b ≠ e -> b ≠ it -> s.heap.get? b = some o -> h'.get? b = some o) (fe : oh X pins H e) (fi : oh X pins H it) : ∃ h2 : Heap, h2.objs.size = s.heap.objs.size /\ Inv X pins σ H { s with heap := h2, toks := t' } /\ ∀ b o, h2.get? b = some o -> h'.get? b = some o := by
 obtain ⟨o1, g1, z1⟩ := he
 obtain ⟨o2, g2, z2⟩ := hi
 refine ⟨(s.heap.update it fun _ => o2).update e fun _ => o1, by rw [Heap.size_update, Heap.size_update], ?_, ?_⟩
 ·have I1 : Inv X pins σ H { s with heap := s.heap.update it fun _ => o2, toks := t' } := I.turned (fun b o hb q => (Heap.get?_update_other _ _ (Ne.symm hb)).trans q) fi.1 fi.2.1 fi.2.2.2.1 fi.2.2.2.2.1 fi.2.2.2.2.2
  exact I1.turned (t' := t') (fun b o hb q => (Heap.get?_update_other _ _ (Ne.symm hb)).trans q) fe.1 fe.2.1 fe.2.2.2.1 fe.2.2.2.2.1 fe.2.2.2.2.2
 ·intro b o q
  by_cases b1 : b = e
  ·subst b1
   have ge' : (s.heap.update it fun _ => o2).get? b = some oe := (Heap.get?_update_other _ _ (Ne.symm ne)).trans ge
   rw [Heap.get?_update_self _ ge' z1] at q
   cases q; exact g1
  ·rw [Heap.get?_update_other _ _ (Ne.symm b1)] at q
   by_cases b2 : b = it
   ·subst b2
    rw [Heap.get?_update_self _ gi z2] at q
    cases q; exact g2
   ·rw [Heap.get?_update_other _ _ (Ne.symm b2)] at q
    exact k b o b1 b2 q
theorem AS {P : Program} {w : World} {K : W.Frag} {elts : List Expr} {cx : _} {pos : Pos} (a e it : Addr) (ne : e ≠ it) :
 zf P w K (.Tuple elts cx pos) (Ite K a) [e, it] e (fun i h => ∃ old, IsEnum h e it (i : Nat) old /\ h.IsListIter it a i) where
 mem := by simp
 obj := fun i h st b hb => by
  obtain ⟨old, h1, o, h2, c, d⟩ := st
  rcases ve.mp hb with rfl | hb
  ·exact ⟨_, h1, fun v z => by
    have z' : Y9 _ = Data.cell v := z
    cases z'⟩
  ·have z := zY.mp hb
   subst z
   exact ⟨o, h2, fun v z => by rw [d] at z; cases z⟩
 keep := fun i h h' st k => by
  obtain ⟨old, h1, h2⟩ := st
  exact ⟨old, k e (by simp) _ h1, h2.at fun o q => k it (by simp) o q⟩
 item := by
  intro X hP hw hK hc i pins s σ H E I hf st hg
  subst hP hw hK
  obtain ⟨xs, x, hq, hx⟩ := hg
  obtain ⟨its, rv, p, hz⟩ := I.list hq
  obtain ⟨u, hu, ru⟩ := rv.get hx
  have fe := hf e (by simp)
  have fi := hf it (by simp)
  obtain ⟨old, h1, h2⟩ := st
  obtain ⟨oi, gi, ci, di⟩ := id h2
  refine wpAny_pyNext_enum_item h1 h2 p.isList (x := u) (by simpa using hu) ne fun h' e1 i1 t1 z1 k1 => ?_
  obtain ⟨oi', gi', ci', di'⟩ := id i1
  obtain ⟨h3, z3, I3, k3⟩ := I.turned2 (t' := s.toks + 1) (h' := h') h1 gi ne ⟨_, e1, rfl⟩ ⟨_, gi', Yv di'⟩ k1 fe fi
  have hn := I.hok.fresh (zR s.heap.objs.size)
  have I4 : Inv X pins σ (upd H s.heap.objs.size (.tup [.int i, x])) { s with heap := h', toks := s.toks + 1 } :=
   I3.laid (t' := s.toks + 1) k3 (Nat.le_of_eq z3) (show ObjOk X.prog X.w _ h' _ (.tup [.int i, x]) from ⟨by show 2 <= sizeLine; rw [uT]; decide, [.int i s.toks, u], .cons ⟨_, rfl⟩ (.cons ru .nil), ⟨_, t1, rfl, 0, rfl⟩⟩)
  have le : e < s.heap.objs.size := xw h1
  have li : it < s.heap.objs.size := xw gi
  have nH : ∀ b, b < s.heap.objs.size -> upd H s.heap.objs.size (.tup [.int i, x]) b = H b := fun b l => ay (uZ l)
  refine ⟨_, rfl, wpAny_letOwnedTupleGo_enum (s := { s with heap := h', toks := s.toks + 1 }) e1 fun h5 e5 s5 => ?_⟩
  have I5 : Inv X pins σ (upd H s.heap.objs.size (.tup [.int i, x])) { s with heap := h5, toks := s.toks + 1 } :=
   I4.turned (t' := s.toks + 1) (fun b o hb q => (s5.2 b hb).trans q) ((nH e le).trans fe.1) fe.2.1 fe.2.2.2.1 fe.2.2.2.2.1 fe.2.2.2.2.2
  refine ⟨.ref s.heap.objs.size, _, I5, rfl, ⟨_, x, hn, rfl, rfl, fun ys hy => by rw [I.list_inj hy hq]; exact hx⟩, ⟨u, e5, i1.at fun o q => (s5.2 it (Ne.symm ne)).trans q⟩, fun b hb => ?_⟩
  rcases ve.mp hb with rfl | hb
  ·exact (nH _ le).trans fe.1
  ·rw [zY.mp hb]; exact (nH _ li).trans fi.1
 done := by
  intro X hP hw hK hc i pins s σ H E I hf st hg
  subst hP hw hK
  obtain ⟨xs, hq, hx⟩ := hg
  obtain ⟨its, rv, p, hz⟩ := I.list hq
  have fi := hf it (by simp)
  have hl := rv.length
  obtain ⟨old, h1, h2⟩ := st
  exact wpAny_pyNext_enum_end (I.ok.hd hc) h1 h2 p.isList (by simp; omega) fun h' eb => ⟨rfl, I.turned (t' := s.toks) (fun b o hb q => eb b o hb q) fi.1 fi.2.1 fi.2.2.2.1 fi.2.2.2.2.1 fi.2.2.2.2.2⟩
 self := fun _ _ _ _ _ ⟨_, st, _⟩ h => wpAny_pyIter_enum st h
def CF (K : W.Frag) (ta : TA) : TI := fun σ H R => ta σ H fun vs H1 => ∃ a, vs = [.ref a] /\ (∃ xs, SqL K H1 a xs) /\ R (Ite K a) H1
theorem zQ {arg : Expr} {ta : TA} {p pos : Pos} {elts : List Expr} {cx : _} {tp : Pos} (K : W.Frag) (hg : Gl X "enumerate") (hm : X.mg "enumerate" = none) (ha : PA X [arg] ta) (hs : starEach [arg] X.env = [(false, eval arg X.env)] := by rfl) (hK : X.K = K := by rfl) :
 PI X (.Tuple elts cx tp) (.Call (.Name "enumerate" p) [arg] [] pos) (CF K ta) := by
 subst hK
 intro pins s σ H R I h
 refine Call_ (jK I hg hm PyProof.Rows.boot_enumerate (ZN (thn (ha pos pins s σ H _ I h) fun us s1 ⟨vs, H1, I1, r1, q1⟩ => ?_) hs rfl))
 obtain ⟨a, e, ⟨xs, hq⟩, q⟩ := q1
 subst e
 obtain ⟨u, rfl, ru⟩ := iQ r1
 cases (show u = xL a from ru)
 obtain ⟨its, rv, pl, hz⟩ := I1.list hq
 refine call_enumerate_list pl.isList fun h' e1 i1 z1 k1 => wpAny_pyIter_enum (s := { s1 with heap := h' }) e1 ?_
 refine ⟨_, [s1.heap.objs.size + 1, s1.heap.objs.size], _, _, H1, rfl, I1.kept (t' := s1.toks) k1, AS a _ _ (Nat.succ_ne_self _), ⟨_, e1, i1⟩, fun b hb => ?_, q⟩
 rcases ve.mp hb with rfl | hb
 ·exact I1.fpOk (ZC _) (I1.hok.fresh (ZC _))
 ·rw [zY.mp hb]; exact I1.fpOk (zR _) (I1.hok.fresh (zR _))
end
end L2
namespace L2
open PySem PyProof.Rows
section
variable {X : Cx} {pins : List (Addr × Obj)} {σ : St} {H : Hp} {s : Shared}
def qG : Value -> List Nat
 | .str x _ => x.cps.toList
 | _ => []
def IsS (v : Value) : Prop := ∃ x t, v = .str x t
abbrev InO (ls : List (List Nat)) : Prop := ls.Pairwise fun a b => ¬ b < a
theorem rW : ∀ {a b : List (List Nat)}, a.Perm b -> InO a -> InO b -> a = b
 | [], _, p, _, _ => p.nil_eq
 | x :: r, b, p, ha, hb => by
  cases b with
  | nil => exact absurd p.length_eq (by simp)
  | cons y t =>
   have hx : x ∈ y :: t := p.mem_iff.mp (.head _)
   have hy : y ∈ x :: r := p.mem_iff.mpr (.head _)
   have e : x = y := by
    rcases ve.mp hx with h | h
    ·exact h
    ·rcases ve.mp hy with h' | h'
     ·exact h'.symm
     ·exact List.le_antisymm (List.not_lt.mp ((Yy.mp ha).1 y h')) (List.not_lt.mp ((Yy.mp hb).1 x h))
   subst e
   rw [rW (List.Perm.cons_inv p) (Yy.mp ha).2 (Yy.mp hb).2]
theorem sQ : ∀ {vs : List Value}, (∀ v ∈ vs, IsS v) -> Vals ((vs.map qG).map T) vs
 | [], _ => .nil
 | v :: vs, h => by
  obtain ⟨x, t, rfl⟩ := h v (Zt ..)
  exact .cons ⟨t, rfl⟩ (sQ fun u m => h u (ue _ m))
theorem su : ∀ {ls : List (List Nat)} {vs : List Value}, Vals (ls.map T) vs -> (∀ v ∈ vs, IsS v) /\ vs.map qG = ls
 | [], _, .nil => ⟨(fun _ m => nomatch m), rfl⟩
 | l :: ls, _, .cons e t => by
  obtain ⟨k, rfl⟩ := e
  obtain ⟨a, b⟩ := su t
  refine ⟨fun v m => ?_, by rw [ud, b]; rfl⟩
  rcases ve.mp m with rfl | m
  ·exact ⟨_, _, rfl⟩
  ·exact a v m
theorem sN : ∀ {vs : List Value}, (∀ v ∈ vs, IsS v) -> ∃ ss, StrsAre vs ss
 | [], _ => ⟨[], .nil⟩
 | v :: vs, h => by
  obtain ⟨x, t, rfl⟩ := h v (Zt ..)
  obtain ⟨ss, r⟩ := sN fun u m => h u (ue _ m)
  exact ⟨x :: ss, .cons x t r⟩
theorem zW {vs : List Value} (hv : ∀ v ∈ vs, IsS v) {xs : Array Keyed} (hp : xs.Perm (pairsOf vs)) (hs : SortedToK strKind xs (pairsOf vs).size) :
 (xs.map (·.2)).toList.Perm vs /\ InO ((xs.map (·.2)).toList.map qG) := by
 have pl : xs.toList.Perm (vs.toArray.zip vs.toArray).toList := Yw.mp hp
 have e2 : (xs.map (·.2)).toList = xs.toList.map (·.1) := by
  rw [Array.toList_map]
  exact Zs fun p m => (Srt.pairs_mem (pl.mem_iff.mp m)).2
 have p1 : (xs.map (·.2)).toList.Perm vs := by
  rw [e2]
  have := pl.map (·.1)
  rwa [Srt.pairs_fst] at this
 refine ⟨p1, ?_⟩
 rw [e2, uY]
 have sz : xs.size = (pairsOf vs).size := hp.size_eq
 refine Yu.mpr fun i j hi hj hij => ?_
 have hi' : i < xs.size := by simpa using hi
 have hj' : j < xs.size := by simpa using hj
 have l := hs i j (Nat.le_of_lt hij) (by omega)
 have kk : ∀ k (h : k < xs.size), KK strKind xs k = qG xs[k].1 := fun k h => by
  have m : xs[k] ∈ xs.toList := by simp
  obtain ⟨x, t, e⟩ := hv _ (Srt.pairs_mem (pl.mem_iff.mp m)).1
  unfold KK
  rw [Array.getElem?_eq_getElem h]
  show (strKind.keyOf xs[k].1).getD strKind.dflt = _
  rw [e]; rfl
 rw [kk i hi', kk j hj'] at l
 have l' : decide (qG xs[j].1 < qG xs[i].1) = false := l
 simp only [List.getElem_map, Array.getElem_toList, Function.comp_apply]
 exact of_decide_eq_false l'
def FC (K : W.Frag) : List V -> Hp -> VK -> Prop
 | [.ref p], H, Q => ∃ ls : List (List Nat), SqL K H p (ls.map T) /\ ls.length < 64 /\ ∀ out : List (List Nat), out.Perm ls -> InO out -> ∀ l, H l = none -> Q (.ref l) (upd H l (.lst (out.map T)))
 | _, _, _ => False
theorem pN {P : Program} {w : World} : ∀ {vs : List (Key × Value)} {us : List Value}, us.length = vs.length -> (∀ (j : Nat) (v : Value), us[j]? = some v -> ∃ k x, vs[j]? = some (k, x) /\ (bN P w).is k v = true) -> Vals (vs.map fun e => kV e.1) us
 | [], [], _, _ => .nil
 | e :: vs, u :: us, hl, h => by
  obtain ⟨k, x, e1, r⟩ := h 0 u rfl
  simp at e1
  subst e1
  refine .cons ?_ (pN (by simpa using hl) fun j v q => by simpa using h (j + 1) v (by simpa using q))
  cases k with
  | inl i => obtain ⟨t, z⟩ := Value.isInt_shape r; exact ⟨t, z⟩
  | inr x => obtain ⟨t, z⟩ := Value.isStrOf_shape r; exact ⟨t, z⟩
 | [], _ :: _, hl, _ => by simp at hl
 | _ :: _, [], hl, _ => by simp at hl
def yT : List V -> Hp -> VK -> Prop
 | [.ref d], H, Q => ∃ (kvs : List (Key × V)) (ls : List (List Nat)), H d = some (.dK kvs) /\ kvs.map (fun e => kV e.1) = ls.map T /\ ls.length < 64 /\ ∀ out : List (List Nat), out.Perm ls -> InO out -> ∀ l, H l = none -> Q (.ref l) (upd H l (.lst (out.map T)))
 | _, _, _ => False
theorem BD (hc : X.calm = true) : CallR X (.builtin "sorted") yT := by
 intro pins s σ H xs us Q I r h
 unfold yT at h
 split at h
 ·rename_i d
  obtain ⟨kvs, ls, hd, hks, h64, q⟩ := h
  obtain ⟨u, rfl, rx⟩ := iQ r
  cases (show u = xL d from rx)
  obtain ⟨z, lo, vs, kv, D⟩ := ye I.hok hd
  obtain ⟨ep, hat⟩ := D.dictAt
  have len : vs.length = kvs.length := (KV.length kv).symm
  have ek : kvs.map (fun e => kV e.1) = vs.map fun e => kV e.1 := by
   have := congrArg (List.map kV) (KV.keys kv)
   simpa [uY, Function.comp_def] using this
  refine YD kind_sorted plain_sorted entry_sorted (args_sorted1 _) ?_
  unfold Builtin.«sorted»
  refine zu (m := checkCount "sorted" 1 1 _) (wG ?_)
  refine zu (PySem.W.kdu_collect (PySem.W.kdl_dict (knd := bN X.prog X.w) (kvs := vs) (ep := ep) lo) (I.ok.hd hc) hat (by omega) fun h' tk acc kp it => ?_)
  have rv : Vals (ls.map T) acc.toList := by
   rw [<- hks, ek]
   exact pN (P := X.prog) (w := X.w) (by rw [Z4]; exact it.1) fun j v e => it.2 j v (by rw [<- Array.getElem?_toList]; exact e)
  obtain ⟨hv, em⟩ := su rv
  obtain ⟨ss, hS⟩ := sN hv
  have len2 : acc.toList.length < 64 := by have := rv.length; rw [zl] at this; omega
  refine zu (wpAny_newList ?_)
  have hoL : (h'.push (seqObj "list" acc.toList.toArray 0)).get? h'.objs.size = some (seqObj "list" acc.toList.toArray 0) := Heap.get?_push_size _ rfl
  refine zu (Z5 (ZX slot_list_sort ⟨_, hoL, rfl⟩ entry_list_sort (list_sort_treeK strKind_oneLt hoL hS.keysOf (fun v₁ v₂ rest e => keyKind_strs (by rw [<- e]; exact hS)) len2 fun st' hp hs => ⟨_, rfl, ?_⟩) (args_list_sort _)))
  refine wG ⟨_, rfl, ?_⟩
  obtain ⟨p1, o1⟩ := zW hv hp hs
  generalize hout : (arrOf st').map (·.2) = out at p1 o1
  obtain ⟨c, ea⟩ := sortedHeap_at (out := out) hoL
  have I1 : Inv X pins σ H { s with heap := h', toks := tk } := I.kept kp
  have kp2 : ∀ b o, h'.get? b = some o -> (sortedHeap (h'.push (seqObj "list" acc.toList.toArray 0)) h'.objs.size acc.toList out).get? b = some o := fun b o e => by
   have l1 := xw e
   rw [sortedHeap_old (uZ l1) (by rw [size_push']; exact Nat.lt_succ_of_lt l1), Heap.get?_push_ne _ _ _ (uZ l1)]
   exact e
  have hv2 : ∀ v ∈ out.toList, IsS v := fun v m => hv v (p1.mem_iff.mp m)
  have pm : (out.toList.map qG).Perm ls := by have := p1.map qG; rwa [em] at this
  refine ⟨.ref h'.objs.size, _, I1.laid (t' := tk) (a := h'.objs.size) kp2 (zR _) (show ObjOk X.prog X.w _ _ _ (.lst ((out.toList.map qG).map T)) from ⟨?_, out.toList, c, sQ hv2, by rw [Array.toArray_toList]; exact ea⟩), rfl, q _ pm o1 _ (I1.hok.fresh (zR _))⟩
  rw [zl, pm.length_eq, uT]; omega
 ·exact h.elim
end
section
variable {X : Cx} {tg : Expr}
end
open Lean Meta Simp
def Dc : List Name := FZ ++ [`L2.GQ, `L2.zU, `L2.EI, `L2.tTryN]
def De : List Name := F0 ++ [`L2.FC, `L2.yT, `L2.gListD, `L2.gAny, `L2.gInL, `L2.FK]
end L2
namespace L2
open PySem PyProof.Rows
section
variable {X : Cx} {pins : List (Addr × Obj)} {σ : St} {H : Hp} {s : Shared}
end
namespace Srt
def HH (h : Heap) (p : Addr) (x y z : Int) : Prop := ∃ (o : Obj) (t u r : Tok) (n : Nat), h.get? p = some o /\ o.cls = .type "tuple" /\ o.data = .seq #[.int x t, .int y u, .int z r] n
section
variable {prog : Program} {w : World} {A : Around} {E : Value -> Shared -> Prop} {s : Shared}
end
end Srt
section
variable {X : Cx} {pins : List (Addr × Obj)} {σ : St} {H : Hp} {s : Shared}
end
end L2
namespace L2
namespace Rv
open PySem PyProof.Rows
section
variable {prog : Program} {w : World} {A : Around} {E : Value -> Shared -> Prop} {s : Shared}
theorem enum_item {e it : Addr} {i : Nat} {x old : Value} {T : Heap -> Prop} {Q : Value -> Shared -> Prop} (en : IsEnum s.heap e it i old) (ne : e ≠ it)
 (tk : ∀ h h' : Heap, T h -> ZQ e h h' -> T h') (tp : ∀ (h : Heap) (o : Obj), T h -> T (h.push o))
 (inner : ∀ Q' : Value -> Shared -> Prop, (∀ h', T h' -> ZQ it s.heap h' -> Q' x { s with heap := h' }) -> wpAny (model prog w) A (ZI (.ref it)) Q' E s)
 (k : ∀ h', IsEnumOut h' e it ((i : Int) + 1) x s.heap.objs.size -> T h' -> h'.get? s.heap.objs.size = some { cls := .type "tuple", data := .seq #[.int i s.toks, x] } -> h'.objs.size = s.heap.objs.size + 1 ->
  (∀ b o, b ≠ e -> b ≠ it -> s.heap.get? b = some o -> h'.get? b = some o) -> Q (.ref s.heap.objs.size) { s with heap := h', toks := s.toks + 1 }) :
 wpAny (model prog w) A (Builtin.«enumerate.__next__» ⟨[.ref e], []⟩) (fun fin s' => ∃ v, fin = .done (.ret v) /\ Q v s') E s := by
 obtain ⟨hp, g, d, tn, os⟩ := s
 show wpAny (model prog w) A (field (.ref e) 2 >>= _) _ _ _
 refine zu (ZK en rfl (x := .ref it) rfl (zu (inner _ fun a1 t1 sb1 => ?_)))
 have n1 : IsEnum a1 e it i old := (sb1.2 e ne).trans en
 have z1 : a1.objs.size = hp.objs.size := sb1.1
 have lt : e < hp.objs.size := xw en
 show wpAny (model prog w) A (field (.ref e) 3 >>= _) _ _ ⟨a1, g, d, tn, os⟩
 refine zu (ZK n1 rfl (x := rawInt i) rfl ?_)
 show wpAny (model prog w) A (field (.ref e) 4 >>= _) _ _ ⟨a1, g, d, tn, os⟩
 refine zu (ZK n1 rfl (x := .none) rfl ?_)
 show wpAny (model prog w) A (mkInt i >>= _) _ _ ⟨a1, g, d, tn, os⟩
 refine zu (wpAny_mkInt ?_)
 show wpAny (model prog w) A (setField (.ref e) 3 (rawInt ((i : Int) + 1)) >>= _) _ _ ⟨a1, g, d, tn + 1, os⟩
 refine zu (Yd n1 (by simp) fun a2 n2 sb2 => ?_)
 replace sb2 : ZQ e a1 a2 := sb2
 replace n2 : IsEnum a2 e it ((i : Int) + 1) old := n2
 show wpAny (model prog w) A (setField (.ref e) 4 .none >>= _) _ _ ⟨a2, g, d, tn + 1, os⟩
 refine zu (Yd n2 (by simp) fun a3 n3 sb3 => ?_)
 replace sb3 : ZQ e a2 a3 := sb3
 replace n3 : IsEnum a3 e it ((i : Int) + 1) old := n3
 show wpAny (model prog w) A (newTuple [.int i tn, x] >>= _) _ _ ⟨a3, g, d, tn + 1, os⟩
 refine zu (wpAny_newTuple ?_)
 have z3 : a3.objs.size = hp.objs.size := by rw [sb3.1, sb2.1, z1]
 have t3 := tk _ _ (tk _ _ t1 sb2) sb3
 have k3 : ∀ b o, b ≠ e -> b ≠ it -> hp.get? b = some o -> a3.get? b = some o := fun b o b1 b2 q => sb3.extBut b o b1 (sb2.extBut b o b1 (sb1.extBut b o b2 q))
 have n4 : IsEnum (a3.push { cls := .type "tuple", data := .seq #[.int i tn, x] }) e it ((i : Int) + 1) old := Heap.get?_push_of_some _ n3
 have g4 : (a3.push { cls := .type "tuple", data := .seq #[.int i tn, x] }).get? hp.objs.size = some { cls := .type "tuple", data := .seq #[.int i tn, x] } := by rw [<- z3]; exact Heap.get?_push_size _ rfl
 have z4 : (a3.push { cls := .type "tuple", data := .seq #[.int i tn, x] }).objs.size = hp.objs.size + 1 := by rw [Heap.size_push, z3]
 have t4 := tp _ { cls := .type "tuple", data := .seq #[.int i tn, x] } t3
 have k4 : ∀ b o, b ≠ e -> b ≠ it -> hp.get? b = some o -> (a3.push { cls := .type "tuple", data := .seq #[.int i tn, x] }).get? b = some o := fun b o b1 b2 q => Heap.get?_push_of_some _ (k3 b o b1 b2 q)
 rw [z3]
 generalize a3.push { cls := .type "tuple", data := .seq #[.int i tn, x] } = a4 at n4 g4 z4 t4 k4 |-
 clear k3 t3 n3 sb3 n2 sb2 n1 sb1 t1
 show wpAny (model prog w) A (Builtin.SmallTypes.ownedTupleIsFree (.ref e) >>= _) _ _ ⟨a4, g, d, tn + 1, os⟩
 refine zu ?_
 unfold Builtin.SmallTypes.ownedTupleIsFree
 refine zu (ZK n4 rfl (x := .none) rfl (wG ?_))
 simp only [if_true]
 refine zu (wpAny_rule (zu (ZK n4 rfl (x := old) rfl (zu (Yd n4 (by simp) fun a5 n5 sb5 => ?_)))))
 replace sb5 : ZQ e a4 a5 := sb5
 replace n5 : IsEnum a5 e it ((i : Int) + 1) x := n5
 show wpAny (model prog w) A (Builtin.SmallTypes.ownedTupleHandOut (.ref e) (.ref hp.objs.size) >>= _) _ _ ⟨a5, g, d, tn + 1, os⟩
 refine zu ?_
 unfold Builtin.SmallTypes.ownedTupleHandOut
 refine zu (Yd n5 (by simp) fun a6 n6 sb6 => ?_)
 replace sb6 : ZQ e a5 a6 := sb6
 replace n6 : IsEnumOut a6 e it ((i : Int) + 1) x hp.objs.size := n6
 refine Yd n6 (by simp) fun a7 n7 sb7 => ?_
 replace sb7 : ZQ e a6 a7 := sb7
 replace n7 : IsEnumOut a7 e it ((i : Int) + 1) x hp.objs.size := n7
 have up : ∀ b o, b ≠ e -> a4.get? b = some o -> a7.get? b = some o := fun b o b1 q => sb7.extBut b o b1 (sb6.extBut b o b1 (sb5.extBut b o b1 q))
 exact zu (wpAny_letGo (wG ⟨_, rfl, k a7 n7 (tk _ _ (tk _ _ (tk _ _ t4 sb5) sb6) sb7) (up _ _ (Nat.ne_of_gt lt) g4) (by rw [sb7.1, sb6.1, sb5.1, z4]) fun b o b1 b2 q => up b o b1 (k4 b o b1 b2 q)⟩))
end
end Rv
open PySem PyProof.Rows
section
variable {X : Cx} {pins : List (Addr × Obj)} {σ : St} {H : Hp} {s : Shared}
end
end L2
namespace L2
open PySem PyProof.Rows
def FE (J : It) (g : TG) (tb : TS) (D : fA) (σ : St) (H : Hp) : Prop := ∃ W : Nat -> Nat -> St -> Hp -> Prop, (∃ m, W 0 m σ H) /\ ∀ i m σ H, W i m σ H ->
 (J.stop i H /\ D.nx σ H) \/ (J.go i H /\ ∃ N : St -> Hp -> Prop, (∀ σ' H', N σ' H' -> ∃ m', m' < m /\ W (i + 1) m' σ' H') /\ ∀ x H', J.yld i H x H' -> g x σ H' fun σ2 H2 => tb { D with nx := N, ct := N, bk := D.nx } σ2 H2)
theorem CU {K : W.Frag} {ta : TA} {g : TG} {tb : TS} {D : fA} {σ : St} {H : Hp} (h : ta σ H fun vs H1 => ∃ a, vs = [.ref a] /\ (∃ xs, SqL K H1 a xs) /\ FE (Ite K a) g tb D σ H1) : rZ (CF K ta) g tb D σ H := h
theorem Dw {K : W.Frag} {a : Addr} {xs : List V} {g : TG} {tb : TS} {D : fA} {σ : St} {H : Hp} (Pv : Nat -> St -> Hp -> Prop) (h0 : Pv 0 σ H) (hl : ∀ i σ H, i <= xs.length -> Pv i σ H -> SqL K H a xs)
 (hs : ∀ i x σ H p, xs[i]? = some x -> H p = none -> Pv i σ H -> g (.ref p) σ (upd H p (.tup [.int i, x])) fun σ2 H2 => tb { D with nx := Pv (i + 1), ct := Pv (i + 1), bk := D.nx } σ2 H2) (hd : ∀ σ H, Pv xs.length σ H -> D.nx σ H) : FE (Ite K a) g tb D σ H := by
 refine ⟨fun i m σ H => m = xs.length - i /\ i <= xs.length /\ Pv i σ H, ⟨_, rfl, Zb _, h0⟩, ?_⟩
 rintro i m σ H ⟨rfl, hi, p⟩
 have q := hl i σ H hi p
 rcases Nat.lt_or_ge i xs.length with lt | ge
 ·refine .inr ⟨⟨xs, xs[i], q, by simp [lt]⟩, Pv (i + 1), fun σ' H' p' => ⟨_, by omega, rfl, lt, p'⟩, ?_⟩
  rintro x H' ⟨r, y, hr, rfl, rfl, hy⟩
  exact hs i y σ H r (hy xs q) hr p
 ·obtain rfl : i = xs.length := Nat.le_antisymm hi ge
  exact .inl ⟨⟨xs, q, zR _⟩, hd σ H p⟩
theorem pD {J : It} {H1 : Hp} {D : Addr} {Q : VK} {σr : St} {tt : TT} {te : TE} (h : ∃ W : Nat -> Nat -> List V -> Hp -> Prop, (∃ m, W 0 m [] (upd H1 D (.lst []))) /\
 ∀ i m ys H2, W i m ys H2 -> H2 D = some (.lst ys) /\ ((J.stop i H2 /\ Q (.ref D) H2) \/ (J.go i H2 /\ ∀ x H3, J.yld i H2 x H3 ->
  tt (some x :: σr) H3 fun b H4 => if b = true then te (some x :: σr) H4 fun y H5 => H5 D = some (.lst ys) /\ ys.length < sizeLine /\ ∃ m', m' < m /\ W (i + 1) m' (ys ++ [y]) (upd H5 D (.lst (ys ++ [y])))
   else ∃ m', m' < m /\ W (i + 1) m' ys H4))) :
 ∃ W : Nat -> Nat -> List V -> Hp -> Prop, (∃ m, W 0 m [] (upd H1 D (.lst []))) /\
  ∀ i m ys H2, W i m ys H2 -> H2 D = some (.lst ys) /\ ((J.stop i H2 /\ Q (.ref D) H2) \/ (J.go i H2 /\ ∀ x H3, J.yld i H2 x H3 -> ∀ zs : St, zs.length = 1 ->
   j_ 0 x (zs ++ σr) H3 fun σ4 H4 => (∃ zs4 : St, zs4.length = 1 /\ σ4 = zs4 ++ σr) /\
    tt σ4 H4 fun b H5 => if b = true then te σ4 H5 fun y H6 => H6 D = some (.lst ys) /\ ys.length < sizeLine /\ ∃ m', m' < m /\ W (i + 1) m' (ys ++ [y]) (upd H6 D (.lst (ys ++ [y])))
     else ∃ m', m' < m /\ W (i + 1) m' ys H5)) := by
 obtain ⟨W, h0, h⟩ := h
 refine ⟨W, h0, fun i m ys H2 w => ?_⟩
 obtain ⟨h1, h2⟩ := h i m ys H2 w
 refine ⟨h1, h2.imp id fun ⟨g1, g2⟩ => ⟨g1, fun x H3 y zs hz => ?_⟩⟩
 obtain ⟨z, rfl⟩ := ex1 hz
 exact ⟨⟨[some x], rfl, rfl⟩, g2 x H3 y⟩
theorem cmS {tl : TE} {ks : List Nat} {σ : St} {H : Hp} {Q : VK} {tt : TT} {te : TE} (C : Hp -> Prop) (hC : ∀ D ys, H D = none -> C (upd H D (.lst ys))) (l : List Nat) (p : Nat -> Bool) (f : Nat -> V) (hl : ∀ R : VK, R (T l) H -> tl σ H R) (ha : ∀ c ∈ l, c < 128) (hz : l.length <= sizeLine)
 (hp : ∀ c ∈ l, ∀ H (R : Bool -> Hp -> Prop), C H -> R (p c) H -> tt (some (T [c]) :: ks.map fun k => (σ[k]?).join) H R) (hf : ∀ c ∈ l, p c = true -> ∀ H (R : VK), C H -> R (f c) H -> te (some (T [c]) :: ks.map fun k => (σ[k]?).join) H R)
 (q : ∀ D, H D = none -> Q (.ref D) (upd H D (.lst ((l.filter p).map f)))) : fc (GJ tl) 1 (j_ 0) ks tt te σ H Q := by
 refine hl _ ⟨by simpa [cs] using ha, fun D hD => ?_⟩
 have P : ∀ x ∈ l.map fun c => T [c], ∃ c ∈ l, x = T [c] := fun x hx => by
  obtain ⟨c, hc, rfl⟩ := Zp.mp hx; exact ⟨c, hc, rfl⟩
 let hd : V -> Nat := fun v => match v with | .str y => (cs y).headD 0 | _ => 0
 have hhd : ∀ c, hd (T [c]) = c := fun c => rfl
 refine pD (um (CN l) C (fun v => p (hd v)) (fun v => f (hd v)) (by simpa using hz) (fun x hx H R c r => ?_) (fun x hx hb H R c r => ?_) D hD (fun ys => hC D ys hD) ?_)
 ·obtain ⟨y, hy, rfl⟩ := P x hx
  exact hp y hy H R c r
 ·obtain ⟨y, hy, rfl⟩ := P x hx
  exact hf y hy hb H R c r
 ·have e : ((l.map fun c => T [c]).filter fun v => p (hd v)).map (fun v => f (hd v)) = (l.filter p).map f := by
   rw [YW, uY]
   rfl
  rw [e]; exact q D hD
theorem cmR {ta : TA} {ks : List Nat} {σ : St} {H : Hp} {Q : VK} {tt : TT} {te : TE} (C : Hp -> Prop) (hC : ∀ D ys, H D = none -> C (upd H D (.lst ys))) (n : Nat) (p : Nat -> Bool) (f : Nat -> V) (hl : ∀ R : List V -> Hp -> Prop, R [.int n] H -> ta σ H R) (hz : n <= sizeLine)
 (hp : ∀ k, k < n -> ∀ H (R : Bool -> Hp -> Prop), C H -> R (p k) H -> tt (some (.int k) :: ks.map fun k => (σ[k]?).join) H R) (hf : ∀ k, k < n -> p k = true -> ∀ H (R : VK), C H -> R (f k) H -> te (some (.int k) :: ks.map fun k => (σ[k]?).join) H R)
 (q : ∀ D, H D = none -> Q (.ref D) (upd H D (.lst (((uF n).filter p).map f)))) : fc (Ct ta) 1 (j_ 0) ks tt te σ H Q := by
 have hz' : (n : Int) < 2 ^ 62 := by
  have : sizeLine < 2 ^ 62 := by rw [uT]; decide
  have h2 : n < 2 ^ 62 := by omega
  have e : ((2 ^ 62 : Nat) : Int) = (2 : Int) ^ 62 := by decide
  omega
 refine hl _ ⟨n, rfl, by omega, hz', ?_⟩
 rw [Zi]
 intro D hD
 have P : ∀ x ∈ (uF n).map fun k => V.int (k : Nat), ∃ k, k < n /\ x = .int (k : Nat) := fun x hx => by
  obtain ⟨c, hc, rfl⟩ := Zp.mp hx; exact ⟨c, by simpa using hc, rfl⟩
 let hd : V -> Nat := fun v => match v with | .int i => i.toNat | _ => 0
 have hhd : ∀ c : Nat, hd (.int c) = c := fun c => Zi c
 refine pD (um (Cq n) C (fun v => p (hd v)) (fun v => f (hd v)) (by simpa using hz) (fun x hx H R c' r => ?_) (fun x hx hb H R c' r => ?_) D hD (fun ys => hC D ys hD) ?_)
 ·obtain ⟨c, hc, rfl⟩ := P x hx
  rw [hhd] at r
  exact hp c hc H R c' r
 ·obtain ⟨c, hc, rfl⟩ := P x hx
  rw [hhd] at r hb
  exact hf c hc hb H R c' r
 ·have e : (((uF n).map fun k => V.int (k : Nat)).filter fun v => p (hd v)).map (fun v => f (hd v)) = ((uF n).filter p).map f := by
   rw [YW, uY]
   have e1 : ((fun v => p (hd v)) ∘ fun k : Nat => V.int (k : Nat)) = p := by funext k; simp only [Function.comp, hhd]
   have e2 : ((fun v => f (hd v)) ∘ fun k : Nat => V.int (k : Nat)) = f := by funext k; simp only [Function.comp, hhd]
   rw [e1, e2]
  rw [e]; exact q D hD
theorem cmL {K : W.Frag} {tl : TE} {ks : List Nat} {σ : St} {H H1 : Hp} {Q : VK} {tt : TT} {te : TE} (a : Addr) (vs : List V) (C : Hp -> Prop) (hC : ∀ D ys, H1 D = none -> C (upd H1 D (.lst ys))) (hT : ∀ H, C H -> SqL K H a vs) (p : V -> Bool) (f : V -> V)
 (hl : ∀ R : VK, R (.ref a) H1 -> tl σ H R) (h1 : SqL K H1 a vs) (hz : vs.length <= sizeLine)
 (hp : ∀ x ∈ vs, ∀ H (R : Bool -> Hp -> Prop), C H -> R (p x) H -> tt (some x :: ks.map fun k => (σ[k]?).join) H R) (hf : ∀ x ∈ vs, p x = true -> ∀ H (R : VK), C H -> R (f x) H -> te (some x :: ks.map fun k => (σ[k]?).join) H R)
 (q : ∀ D, H1 D = none -> Q (.ref D) (upd H1 D (.lst ((vs.filter p).map f)))) : fc (uG K tl) 1 (j_ 0) ks tt te σ H Q :=
 hl _ ⟨a, rfl, ⟨vs, h1⟩, fun D hD => pD (yN C (CA hT) p f hz hp hf D hD (fun ys => hC D ys hD) (q D hD))⟩
inductive A2 {α β : Type} (R : α -> β -> Prop) : List α -> List β -> Prop
 | nil : A2 R [] []
 | cons {a : α} {b : β} {as : List α} {bs : List β} : R a b -> A2 R as bs -> A2 R (a :: as) (b :: bs)
namespace A2
variable {α β : Type} {R S : α -> β -> Prop}
end A2
def sp6 (f : V -> V -> V -> V -> V -> V -> Hp -> VK -> XK -> Prop) : Sp := fun vs H Q E => match vs with
 | [x, y, z, u, v, a] => f x y z u v a H Q E
 | _ => False
def sp7 (f : V -> V -> V -> V -> V -> V -> V -> Hp -> VK -> XK -> Prop) : Sp := fun vs H Q E => match vs with
 | [x, y, z, u, v, a, b] => f x y z u v a b H Q E
 | _ => False
open Lean Meta Simp
def Dd : List Name := Dc ++ [`L2.eF, `Option.join]
def Eo : List Name := De ++ [`L2.gCnt, `L2.gSortT, `L2.sp5, `L2.sp6, `L2.sp7]
def FI : Name -> Bool
 | .str _ s => s.startsWith "sp_"
 | _ => false
end L2
namespace L2
open PySem PyProof.Rows Builtin Builtin.Str
section
variable {X : Cx}
end
end L2
namespace L2
open PySem PyProof.Rows
section
variable {prog : Program} {w : World} {A : Around} {E : Value -> Shared -> Prop} {s : Shared} {it d : Addr} {i ep : Nat} {od : Obj} {es : Array DictEntry}
end
abbrev Pt := List Nat × List Nat
def ltP (a b : Pt) : Prop := a.1 < b.1 \/ (a.1 = b.1 /\ a.2 < b.2)
instance (a b : Pt) : Decidable (ltP a b) := by unfold ltP; infer_instance
namespace Srt
def HJ (h : Heap) (p : Addr) (e : Pt) : Prop := ∃ (o : Obj) (t u : Tok) (n : Nat), h.get? p = some o /\ o.cls = .type "tuple" /\ o.data = .seq #[.str ⟨⟨e.1⟩⟩ t, .str ⟨⟨e.2⟩⟩ u] n
section
variable {prog : Program} {w : World} {A : Around} {E : Value -> Shared -> Prop} {s : Shared}
end
end Srt
section
variable {X : Cx} {pins : List (Addr × Obj)} {σ : St} {H : Hp} {s : Shared}
end
def CEl (J : It) (n : Nat) (g : TG) (ks : List Nat) (tt : TT) (te : TE) (σ : St) (H1 : Hp) (Q : VK) : Prop := ∀ D, H1 D = none -> ∃ W : Nat -> Nat -> List V -> Hp -> Prop, (∃ m, W 0 m [] (upd H1 D (.lst []))) /\
 ∀ i m ys H2, W i m ys H2 -> H2 D = some (.lst ys) /\ ((J.stop i H2 /\ Q (.ref D) H2) \/ (J.go i H2 /\ ∀ x H3, J.yld i H2 x H3 -> ∀ zs : St, zs.length = n ->
  g x (zs ++ ks.map fun k => (σ[k]?).join) H3 fun σ4 H4 => (∃ zs4 : St, zs4.length = n /\ σ4 = zs4 ++ ks.map fun k => (σ[k]?).join) /\
   tt σ4 H4 fun b H5 => if b = true then te σ4 H5 fun y H6 => H6 D = some (.lst ys) /\ ys.length < sizeLine /\ ∃ m', m' < m /\ W (i + 1) m' (ys ++ [y]) (upd H6 D (.lst (ys ++ [y])))
    else ∃ m', m' < m /\ W (i + 1) m' ys H5))
section
variable {X : Cx} {pos : Pos}
end
open Lean Meta Simp
def D5 : List Name := Dd ++ [`L2.tDNewT, `L2.rExtT, `L2.tPar3]
def Dr : List Name := Eo ++ [`L2.gSortDT, `L2.gRp]
def D6 (e : Lean.Expr) : MetaM (Option Lean.Expr) := do
 let .const n us := e.getAppFn | return none
 let fr := FI n || D5.contains n
 unless fr || Dr.contains n do return none
 let some (.defnInfo d) := (<- getEnv).find? n | return none
 let v := d.value.instantiateLevelParams d.levelParams us
 if e.getAppNumArgs < v.getNumHeadLambdas then return none
 let b := v.beta e.getAppArgs
 if fr then return some b
 match <- reduceMatcher? b with
 | .reduced r => return some r
 | .notMatcher => return some b
 | _ => return none
dsimproc_decl Cj (_) := fun e => do
 match <- D6 e with
 | some r => return .visit r
 | none => return .continue
end L2
namespace L2
open PySem PyProof.Rows
def isD : HO -> Bool
 | .dK _ => true
 | .dT _ => true
 | _ => false
section
variable {X : Cx} {pins : List (Addr × Obj)} {σ : St} {H : Hp} {s : Shared} {a : Addr}
def Th (H H1 : Hp) (P : Hp -> Prop) : Prop := ∃ a o u, H1 a = some (.frz o u) /\ ((H a = some u /\ isD u = true /\ P (upd H1 a u)) \/ (H a = some (.frz o u) /\ P H1))
end
section
variable {X : Cx} {pos : Pos}
def BA (K : W.Frag) (n : Nat) (t : TGs) : TG := fun v σ H Q => ∃ a xs, v = .ref a /\ SqL K H a xs /\ xs.length = n /\ t xs σ H Q
theorem Ej (K : W.Frag) {es : List Expr} {k : Nat} {t : TGs} {n : Nat} (hc : X.calm = true) (h : PGs X es t) (hK : X.K = K := by rfl)
 (hn : (Ym es X.env).length = n := by rfl) (hst : (Ym es X.env).findIdx? (·.1) = none := by rfl) : PG X (.Tuple es k pos) (BA K n t) := by
 subst hK
 intro pins s σ H v u Q I r hw
 obtain ⟨a, xs, e1, hq, hl, hw⟩ := hw
 subst e1
 cases r
 obtain ⟨its, rv, pl, hz⟩ := I.list hq
 have hl2 := rv.length
 rw [PyProof.Rows.assign_Tuple]
 refine zu (wpAny_standAt ?_)
 have hs : (Ym es X.env).length = its.toArray.size := by rw [hn, zj]; omega
 unfold unpack
 rw [hs, hst]
 refine zu (Z5 (PySem.W.kun_itemsOf (I.ok.hd hc) pl.isList fun h' hx => ?_))
 exact h pins _ σ H xs _ Q (I.kept (t' := s.toks) fun b o e => hx b o (uZ (xw e)) e) (by simpa using rv) hw
end
section
variable {X : Cx}
def C_ : Value -> Bool
 | .bool b => b
 | _ => false
theorem yB {A : Around} {s : Shared} {bs : List Bool} {its : List Value} (r : Vals (bs.map V.bl) its) : ∀ y, y ∈ its.toArray -> SeqAt.EqAt A s y (.bool true) (C_ y) := fun y hy => by
 obtain ⟨j, hj⟩ := List.getElem?_of_mem (by simpa using hy)
 obtain ⟨b, _, rfl⟩ := (rf r).get j y hj
 have := SeqAt.EqAt.bool_bool (A := A) (s := s) b true
 rwa [show (b == true) = C_ (.bool b) by cases b <;> rfl] at this
def Gn (K : W.Frag) : V -> List V -> Hp -> VK -> Prop := fun x vs H Q => ∃ (p : Addr) (bs : List Bool) (j : Nat), x = .ref p /\ vs = [.bl true] /\ SqL K H p (bs.map V.bl) /\ bs[j]? = some true /\ (∀ i, i < j -> bs[i]? = some false) /\ Q (.int j) H
theorem vn : ∀ {bs : List Bool} {its : List Value}, Vals (bs.map V.bl) its -> ∀ {j : Nat} {b : Bool}, bs[j]? = some b -> ∃ h : j < its.length, C_ its[j] = b
 | [], _, .nil, j, b, h => by simp at h
 | c :: r, _, .cons e t, j, b, h => by
  cases (show _ = Value.bool c from e)
  cases j with
  | zero => cases h; exact ⟨by simp, rfl⟩
  | succ j =>
   obtain ⟨h1, h2⟩ := vn t (j := j) (by simpa using h)
   exact ⟨by simp; omega, by simpa using h2⟩
theorem DB (K : W.Frag) (hK : X.K = K := by rfl) : MtM X "list.index" (Gn K) := by
 subst hK
 intro pins s σ H x vs v us Q I rx rv h
 obtain ⟨p, bs, j, rfl, rfl, hq, hj, hi, q⟩ := h
 cases rx
 obtain ⟨u, rfl, ru⟩ := rv.one
 cases (show u = Value.bool true from ru)
 obtain ⟨its, r, pl, hz⟩ := I.list hq
 obtain ⟨⟨oc, od, ot, os⟩, e, c, n, d⟩ := pl.isList
 simp only at c d
 subst c; subst d
 obtain ⟨jl, jt⟩ := vn r hj
 have hl := r.length
 refine Yg F.slot_list_index ⟨_, e, rfl⟩ F.entry_list_index (F.args_list_index_2 _ _) (SeqAt.list_indexAt p its.toArray n od os (.bool true) C_ j (by simpa using jl) (by have : sizeLine < 2 ^ 62 := (by rw [uT]; decide); omega) (by simpa using jt) fun m hm lt => ?_) ⟨e, yB r, ?_⟩
 ·obtain ⟨_, h2⟩ := vn r (hi m lt)
  simpa using h2
 ·exact ⟨.int _, H, I.tok _, ⟨_, rfl⟩, q⟩
end
end L2
namespace L2
open PySem
end L2
namespace L2
open PySem PySem.Spec PyProof.Rows
section
variable {X : Cx}
end
end L2
namespace L2
open PySem PyProof.Rows
section
variable {prog : Program} {w : World} {A : Around} {E : Value -> Shared -> Prop} {s : Shared} {it d : Addr} {i ep : Nat} {od : Obj} {es : Array DictEntry}
end
section
variable {X : Cx} {pins : List (Addr × Obj)} {σ : St} {H : Hp} {s : Shared}
end
end L2
namespace L2
open PySem PyProof.Rows Builtin Builtin.Str
section
variable {X : Cx}
end
end L2
namespace L2
open PySem PySem.Spec PyProof.Rows
def Tp (H : Hp) (xs : List V) (Q : VK) : Prop := ∀ p H', H' p = some (.tup xs) -> Same H H' -> (NoT H -> NoT H') -> Q (.ref p) H'
def Ep : R2
 | .ref x, .ref y, H, Q => ∃ xs ys, H x = some (.tup xs) /\ H y = some (.tup ys) /\ xs.length + ys.length <= sizeLine /\ Tp H (xs ++ ys) Q
 | _, _, _, _ => False
theorem Tp.new {H : Hp} {xs : List V} {Q : VK} (h : Tp H xs Q) {p : Addr} (hp : H p = none) : Q (.ref p) (upd H p (.tup xs)) := h p _ al (aJ _ hp) fun n => aS n rfl
theorem Tp.old {H : Hp} {xs : List V} {Q : VK} (h : Tp H xs Q) {p : Addr} (hp : H p = some (.tup xs)) : Q (.ref p) H := h p _ hp (fun _ _ e => e) id
section
variable {prog : Program} {w : World} {A : Around} {E : Value -> Shared -> Prop} {s : Shared}
theorem DU {t b : Addr} {ws : List Value} {Q : Value -> Shared -> Prop} (ht : IsTup s.heap t (#[] : Array Value)) (hb : IsTup s.heap b ws.toArray) (h : Q (.ref b) s) : wpAny (model prog w) A (binaryOp .Add (.ref t) (.ref b)) Q E s := by
 obtain ⟨⟨cls, dd, data, sl⟩, ho, hc, n, hd⟩ := id ht
 obtain ⟨⟨cls2, dd2, data2, sl2⟩, ho2, hc2, n2, hd2⟩ := id hb
 simp only at hc hd hc2 hd2
 subst hc hd hc2 hd2
 exact concat_meets ⟨_, ho, rfl⟩ ⟨_, ho2, rfl⟩ noFill_tuple_add seq_tuple_add PySem.F.slot_tuple_add Xz (YB _ _)
  (tuple_addW0 t b #[] ws.toArray n n2 dd dd2 sl sl2 rfl) ⟨ho, ho2, h⟩
end
section
variable {X : Cx}
theorem D_ : OpR X (binaryOp .Add) Ep := by
 intro pins s σ H x y v u Q I rx ry h
 unfold Ep at h; split at h
 ·rename_i x y
  obtain ⟨xs, ys, h1, h2, h3, q⟩ := h
  by_cases hx : xs = []
  ·subst hx
   cases rx; cases ry
   obtain ⟨its, r1, p1, _⟩ := I.tuple (SqT.of h1)
   obtain ⟨its2, r2, p2, _⟩ := I.tuple (SqT.of h2)
   cases r1
   exact DU p1 p2 ⟨.ref y, H, I, rfl, q.old h2⟩
  ·exact DY pins s σ H _ _ v u Q I rx ry ⟨_, _, xs, ys, rfl, rfl, SqT.of h1, SqT.of h2, hx, h3, fun z => by subst z; rw [YV] at q; exact q.old h1, fun _ p hp => q.new hp⟩
 ·exact h.elim
end
end L2
namespace L2
open PySem PyProof.Rows
section
variable {prog : Program} {w : World} {A : Around} {E : Value -> Shared -> Prop} {s : Shared} {d : Addr} {od : Obj}
theorem Ed {Q : Value -> Shared -> Prop} (lo : (d == Yn) = false) (ho : s.heap.get? d = some od) (ex : od.cls = .type "dict")
 (q : Q (.ref s.heap.objs.size) { s with heap := s.heap.push { cls := .type "dict_keys", data := .fields #[.ref d] } }) : wpAny (model prog w) A (call (.builtin "dict.keys") [.ref d]) Q E s := by
 have ty : s.TypeIs (.ref d) "dict" := ⟨od, ho, ex⟩
 refine ZX PySem.F.slot_dict_keys ty PySem.F.entry_dict_keys ?_ (PySem.F.args_dict_keys_1 _)
 show wpAny _ _ (Builtin.Dict.noArgs "keys" _ >>= fun d => Builtin.Dict.showsAll d >>= fun _ => newFields "dict_keys" [.ref d] >>= fun v => _) _ _ _
 unfold Builtin.Dict.noArgs
 refine zu (zu (wpAny_notOrdered_dict ty ?_)); show wpAny _ _ (pure d) _ _ s
 refine wG ?_; show wpAny _ _ (Builtin.Dict.showsAll d >>= _) _ _ s
 unfold Builtin.Dict.showsAll; rw [if_neg (by rw [lo]; exact xC)]
 exact zu (wG (zu (Yp (wG ⟨_, rfl, q⟩))))
end
section
variable {X : Cx}
def vO (td : TE) : TE := fun σ H Q => td σ H fun x H1 => ∃ d kvs, ∃ ls : List (List Nat), x = .ref d /\ H1 d = some (.dK kvs) /\ kvs.map (fun e => kV e.1) = ls.map T /\ ls.length < 64 /\ ∀ out : List (List Nat), out.Perm ls -> InO out -> ∀ l, H1 l = none -> Q (.ref l) (upd H1 l (.lst (out.map T)))
theorem As {o : Expr} {td : TE} {x : Str} {p apos cpos pos : Pos} (hc : X.calm = true) (hg : Gl X x) (hm : X.mg x = none) (hv : Zq x = some (.builtin "sorted")) (ho : PE X o td)
 (hn : x ≠ "__name__" := by decide) (hdb : (x == ("__debug__" : Str)) = false := by decide)
 (hbase : Z6 o "keys" X.env (eval o X.env) = eval o X.env := by rfl) (hline : (apos.endLine == cpos.line) = true := by rfl)
 (hs : starEach [.Call (.Attribute o "keys" apos) [] [] cpos] X.env = [(false, eval (.Call (.Attribute o "keys" apos) [] [] cpos) X.env)] := by rfl) :
 PE X (.Call (.Name x p) [.Call (.Attribute o "keys" apos) [] [] cpos] [] pos) (vO td) := by
 intro pins s σ H Q I h
 refine ZF (jK I hg hm hv ?_ hn hdb)
 rw [hs]
 refine PySem.Calls.callWith_builtin rfl (YF (Y7 ?_))
 refine wpAny_Call_method0_late hbase hline (thn (ho pins s σ H _ I h) fun v s1 ⟨x, H1, I1, rx, d, kvs, ls, ex, hd, hks, h64, q⟩ => ?_)
 subst ex
 cases (show v = xL d from rx)
 obtain ⟨t1, t2, _⟩ := B6 I1 (.inl ⟨_, .inl hd⟩)
 obtain ⟨od, hod, cod⟩ := id t1
 have I2 : Inv X pins σ H1 { s1 with heap := s1.heap.push { cls := .type "dict_keys", data := .fields #[.ref d] } } := I1.kept (t' := s1.toks) fun c ob e => Heap.get?_push_of_some _ e
 obtain ⟨z, lo, vs, kv, D⟩ := ye I2.hok hd
 obtain ⟨ep, hat⟩ := D.dictAt
 refine ⟨"dict", "dict.keys", PySem.F.plainAttrs_dict, PySem.F.slot_dict_keys, PySem.F.type_dict_keys, t1, t2, YX rfl (PySem.evalArgs_none (Ed lo hod cod ?_))⟩
 have hview : PySem.W.KdlKeysView (s1.heap.push { cls := .type "dict_keys", data := .fields #[.ref d] }) s1.heap.objs.size d := ⟨_, Heap.get?_push_size _ rfl, rfl, rfl⟩
 generalize s1.heap.objs.size = vw at hview
 generalize s1.heap.push { cls := .type "dict_keys", data := .fields #[.ref d] } = hp at hview hat I2 D
 refine Calls.spliced_nil ?_
 have len : vs.length = kvs.length := (KV.length kv).symm
 have ek : kvs.map (fun e => kV e.1) = vs.map fun e => kV e.1 := by
  have := congrArg (List.map kV) (KV.keys kv)
  simpa [uY, Function.comp_def] using this
 refine YD kind_sorted plain_sorted entry_sorted (args_sorted1 _) ?_
 unfold Builtin.«sorted»
 refine zu (m := checkCount "sorted" 1 1 _) (wG ?_)
 refine zu (PySem.W.kdu_collect (PySem.W.kdl_keys (knd := bN X.prog X.w) (kvs := vs) (ep := ep)) (I1.ok.hd hc) ⟨hview, hat⟩ (by omega) fun h' tk acc kp it => ?_)
 have rv : Vals (ls.map T) acc.toList := by
  rw [<- hks, ek]
  exact pN (P := X.prog) (w := X.w) (by rw [Z4]; exact it.1) fun j v e => it.2 j v (by rw [<- Array.getElem?_toList]; exact e)
 obtain ⟨hv, em⟩ := su rv
 obtain ⟨ss, hS⟩ := sN hv
 have len2 : acc.toList.length < 64 := by have := rv.length; rw [zl] at this; omega
 refine zu (wpAny_newList ?_)
 have hoL : (h'.push (seqObj "list" acc.toList.toArray 0)).get? h'.objs.size = some (seqObj "list" acc.toList.toArray 0) := Heap.get?_push_size _ rfl
 refine zu (Z5 (ZX slot_list_sort ⟨_, hoL, rfl⟩ entry_list_sort (list_sort_treeK strKind_oneLt hoL hS.keysOf (fun v₁ v₂ rest e => keyKind_strs (by rw [<- e]; exact hS)) len2 fun st' hp hs => ⟨_, rfl, ?_⟩) (args_list_sort _)))
 refine wG ⟨_, rfl, ?_⟩
 obtain ⟨p1, o1⟩ := zW hv hp hs
 generalize hout : (arrOf st').map (·.2) = out at p1 o1
 obtain ⟨c, ea⟩ := sortedHeap_at (out := out) hoL
 have I3 : Inv X pins σ H1 { s1 with heap := h', toks := tk } := I2.kept kp
 have kp2 : ∀ b o, h'.get? b = some o -> (sortedHeap (h'.push (seqObj "list" acc.toList.toArray 0)) h'.objs.size acc.toList out).get? b = some o := fun b o e => by
  have l1 := xw e
  rw [sortedHeap_old (uZ l1) (by rw [size_push']; exact Nat.lt_succ_of_lt l1), Heap.get?_push_ne _ _ _ (uZ l1)]
  exact e
 have hv2 : ∀ v ∈ out.toList, IsS v := fun v m => hv v (p1.mem_iff.mp m)
 have pm : (out.toList.map qG).Perm ls := by have := p1.map qG; rwa [em] at this
 refine ⟨.ref h'.objs.size, _, I3.laid (t' := tk) (a := h'.objs.size) kp2 (zR _) (show ObjOk X.prog X.w _ _ _ (.lst ((out.toList.map qG).map T)) from ⟨?_, out.toList, c, sQ hv2, by rw [Array.toArray_toList]; exact ea⟩), rfl, q _ pm o1 _ (I3.hok.fresh (zR _))⟩
 rw [zl, pm.length_eq, uT]; omega
theorem A7 : ∀ {us : List Value} {ns : List Int}, IntsAre us ns -> Vals (ns.map V.int) us := fun h => by
 induction h with
 | nil => exact .nil
 | cons _ _ _ ih => exact .cons ⟨_, rfl⟩ ih
def vD (K : W.Frag) : List V -> Hp -> VK -> Prop
 | [.ref p], H, Q => ∃ ns : List Int, SqL K H p (ns.map V.int) /\ ns.length < 64 /\ ∀ out : List Int, out.Perm ns -> out.Pairwise (· <= ·) -> ∀ l, H l = none -> Q (.ref l) (upd H l (.lst (out.map V.int)))
 | _, _, _ => False
theorem BG (K : W.Frag) (hK : X.K = K := by rfl) : CallR X (.builtin "sorted") (vD K) := by
 subst hK
 intro pins s σ H xs us Q I r h
 unfold vD at h
 split at h
 ·rename_i p
  obtain ⟨ns, hq, h64, q⟩ := h
  obtain ⟨u, rfl, rx⟩ := iQ r
  cases (show u = xL p from rx)
  obtain ⟨its, r', pl, hz⟩ := I.list hq
  have len : its.length < 64 := by have := r'.length; rw [zl] at this; omega
  refine sorted_ints pl.isList (mT r') len fun out ns' hi hp hs => ?_
  obtain ⟨c, ea⟩ := sortedAll_at s.heap its out
  have kp : ∀ b o, s.heap.get? b = some o -> (sortedAll s.heap its out).get? b = some o := fun _ _ e => sortedAll_old e
  refine ⟨.ref (s.heap.objs.size + 1), _, I.laid (t' := s.toks) (a := s.heap.objs.size + 1) kp (ZC _) (show ObjOk X.prog X.w _ (sortedAll s.heap its out) _ (.lst (ns'.map V.int)) from ⟨?_, out.toList, c, A7 hi, by rw [Array.toArray_toList]; exact ea⟩), rfl, q _ hp hs _ (I.hok.fresh (ZC _))⟩
  rw [zl, hp.length_eq, uT]; omega
 ·exact h.elim
def Ck : V -> List V -> Hp -> VK -> Prop := fun x vs H Q => ∃ l b xs zs, x = .ref l /\ vs = [.ref b] /\ H l = some (.lst xs) /\ H b = some (.lst zs) /\ xs.length + zs.length <= sizeLine /\ Q .non (upd H l (.lst (xs ++ zs)))
theorem DQ : MtM X "list.extend" Ck := by
 intro pins s σ H x vs v us Q I rx rv h
 obtain ⟨l, b, xs, zs, rfl, rfl, hH, hB, hz, q⟩ := h
 cases rx
 obtain ⟨u, rfl, ru⟩ := rv.one
 cases ru
 obtain ⟨z, its, n, r, hl, e⟩ := I.lstM hH
 obtain ⟨z2, its2, n2, r2, hl2, e2⟩ := I.lstM hB
 have fin : Inv X pins σ (upd H l (.lst (xs ++ zs))) { s with heap := s.heap.update l (Zc (· ++ its2.toArray)) } := I.lset (its' := its ++ its2) hH e (by simp) (r.append r2) (by rw [uf]; omega)
 refine ZX F.slot_list_extend ⟨_, e, rfl⟩ F.entry_list_extend ?_ (F.args_list_extend_2 _ _)
 show wpAny _ _ (Builtin.List.listExtendWith (.ref l) (.ref b) .none) _ _ s
 unfold Builtin.List.listExtendWith
 refine zu (wpAny_typeOf ⟨_, e2, rfl⟩ ?_)
 rw [if_pos (by rw [show (Ye "list" == Ye "list") = true by decide, Bool.or_true, Bool.true_or])]
 refine zu (listItems_at e2 rfl (zu (listItems_at e rfl ?_)))
 have hsz : its.toArray.size + its2.toArray.size <= sizeLine := by rw [zj, zj]; omega
 rw [if_neg (by rw [rN hsz, YH]; exact xC)]
 refine zu (listUpdate_at e rfl ?_ (hsz := by rw [zj]; omega) (hsz2 := by rw [Array.size_append]; omega))
 exact wG ⟨_, rfl, .non, _, fin, rfl, q⟩
end
def sp8 (f : V -> V -> V -> V -> V -> V -> V -> V -> Hp -> VK -> XK -> Prop) : Sp := fun vs H Q E => match vs with
 | [x, y, z, u, v, a, b, c] => f x y z u v a b c H Q E
 | _ => False
theorem sp8.inv {vs : List V} {H : Hp} {Q : VK} {E : XK} {f} (h : sp8 f vs H Q E) : ∃ x y z u v a b c, vs = [x, y, z, u, v, a, b, c] /\ f x y z u v a b c H Q E := by
 unfold sp8 at h
 split at h
 ·exact ⟨_, _, _, _, _, _, _, _, rfl, h⟩
 ·exact h.elim
theorem sp8.len {vs : List V} {H : Hp} {Q : VK} {E : XK} {f} (h : sp8 f vs H Q E) : vs.length = 8 := by obtain ⟨_, _, _, _, _, _, _, _, rfl, _⟩ := sp8.inv h; rfl
theorem ex8 {α : Type} {us : List α} (hl : us.length = 8) : ∃ a0 a1 a2 a3 a4 a5 a6 a7, us = [a0, a1, a2, a3, a4, a5, a6, a7] := by
 match us, hl with
 | [a0, a1, a2, a3, a4, a5, a6, a7], _ => exact ⟨_, _, _, _, _, _, _, _, rfl⟩
end L2
namespace L2
open PySem PySem.Spec PyProof.Rows
section
variable {prog : Program} {w : World} {A : Around} {E : Value -> Shared -> Prop} {s : Shared}
theorem tN : entryFor table "proto.unchain" = some Builtin.«proto.unchain» := entryFor_of_fast (by kernel_rfl)
theorem xj {α : Type} {a e : Addr} {oa : Obj} {va : Array Value} {Q : α -> Shared -> Prop} (hh : A.handled = some (.ref e)) (ne : e ≠ a) (f2 : F2 s.heap e) (ha : s.heap.get? a = some oa) (hd : oa.data = .fields va) (h2 : 2 < va.size)
 (h : ∀ h', ZQ a s.heap h' -> (∃ o, h'.get? a = some o /\ o.cls = oa.cls) -> E (.ref a) { s with heap := h' }) : wpAny (model prog w) A (raiseNew (.ref a) : Sem α) Q E s := by
 obtain ⟨oe, vs, he, hde, h0⟩ := f2
 simp only [raiseNew]
 refine zu (wpAny_handled ?_)
 rw [hh]
 dsimp only
 rw [if_pos (show (xL e != xL a) = true by simpa using ne)]
 refine zu (Z5 (wpAny_runValue (codeAny_builtin tN ?_)))
 show wpAny _ _ (field (.ref e) 2 >>= _) _ _ s
 refine zu (ZK he hde h0 ?_)
 rw [if_pos (show (Zn == Zn) = true from rfl)]
 refine zu (wG (wG ?_))
 show wpAny _ _ (setField (.ref a) 2 (.ref e) >>= _) _ _ s
 refine zu (wpAny_setField ha hd h2 (wpAny_throw (h _ (ZQ.update ..) ?_)))
 exact ⟨_, Heap.get?_update_self _ ha (Yv (Y6 hd _)), Obj.cls_mapFields ..⟩
theorem pW {it l e : Addr} {i : Nat} {items : Array Value} {Q : Option Value -> Shared -> Prop} (hh : A.handled = some (.ref e)) (f2 : F2 s.heap e) (ni : e ≠ it)
 (hit : s.heap.IsListIter it l i) (hl : s.heap.IsList l items) (hx : items[i]? = none)
 (hQ : ∀ h', Heap.ExtBut it s.heap h' -> Q none { s with heap := h' }) : wpAny (model prog w) A (pyNext (.ref it)) Q E s := by
 obtain ⟨o, ho, hc, hd⟩ := id hit
 obtain ⟨ol, hol, _, nl, hdl⟩ := hl
 unfold pyNext
 refine zu (wpAny_attempt (wpAny_callSpecial?_slot (name := sV "__next__") hit.typeIs slot_listiter_next (ZX slot_listiter_next hit.typeIs entry_listiter_next ?_ (args_listiter_next _))))
 show wpAny _ _ (field (.ref it) 0 >>= _) _ _ s
 refine zu (ZK ho hd (x := .ref l) rfl ?_)
 show wpAny _ _ (if (xL l == Zn) = true then _ else _) _ _ s
 rw [if_neg (show ¬ ((xL l == Zn) = true) from xC)]
 show wpAny _ _ (field (.ref it) 1 >>= _) _ _ s
 refine zu (ZK ho hd (x := .int i 0) rfl ?_)
 show wpAny _ _ (seqItems? (.ref l) >>= _) _ _ s
 refine zu (wpAny_seqItems hol hdl ?_)
 simp only [Zi, hx]
 refine zu (wpAny_rule (zu (wpAny_setField ho hd (by simp) ?_)))
 show wpAny _ _ (newExc (.type "StopIteration") [] >>= _) _ _ _
 refine zu ?_
 simp only [newExc, newTuple]
 refine zu (Yp ?_ (by size_fits))
 refine zu (m := firstArgMember _ _) (wpAny_of_eq (a := Zn) (by first | rfl | (simp only [firstArgMember]; rfl)) ?_)
 refine Yp ?_ (by size_fits)
 have f3 : F2 (s.heap.update it (Obj.mapFields (·.setIfInBounds 0 Zn))) e := by
  obtain ⟨oe, vs, h1, h2, h3⟩ := f2
  exact ⟨oe, vs, (Heap.get?_update_other _ _ (Ne.symm ni)).trans h1, h2, h3⟩
 have hz : ∀ (h : Heap) (o1 o2 : Obj), F2 h e -> e ≠ (h.push o1).objs.size := fun h o1 o2 ⟨oe, _, h1, _⟩ => uZ (xw (Heap.get?_push_of_some _ h1))
 refine xj (e := e) (show A.in1.handled = some (.ref e) from hh) (hz _ _ default f3) ((f3.push _).push _) (Heap.get?_push_size _ rfl) rfl (by rw [Array.size_append]; show 2 < 6 + _; omega) fun h' sb ⟨o', q1, q2⟩ => ?_
 refine zu (wpAny_isInstance (T := "StopIteration") (b := true) ⟨o', q1, q2⟩ isSubtype_stop ?_)
 refine wG (hQ _ fun b o2 hb hq => ?_)
 have g0 : (s.heap.update it (Obj.mapFields (·.setIfInBounds 0 Zn))).get? b = some o2 := (Heap.get?_update_other _ _ (Ne.symm hb)).trans hq
 have g1 := Heap.get?_push_of_some (h := s.heap.update it (Obj.mapFields (·.setIfInBounds 0 Zn))) { cls := .type "tuple", data := .seq ([] : List Value).toArray } g0
 exact (sb.2 b (uZ (xw g1))).trans (Heap.get?_push_of_some _ g1)
end
end L2
set_option maxHeartbeats 1000000
namespace L2
open PySem PySem.Spec PyProof.Rows
def Hdl (e : Addr) (X : Cx) : Prop := X.A.handled = some (.ref e)
def CL (K : W.Frag) (a e : Addr) : It := ⟨(Itl K a).go, (Itl K a).yld, fun i H => (Itl K a).stop i H /\ ∃ C, H e = some (cR C e)⟩
theorem GY {X : Cx} {pins : List (Addr × Obj)} {σ : St} {H : Hp} {s : Shared} {e : Addr} {C : Value} (I : Inv X pins σ H s) (h : H e = some (cR C e)) : F2 s.heap e := by
 obtain ⟨⟨o, vs, h1, _, h2, h3⟩, _, _⟩ := (show ObjOk X.prog X.w H s.heap e (cR C e) from I.hok e _ h)
 exact ⟨o, vs, h1, h2, h3⟩
theorem yI {P : Program} {w : World} {K : W.Frag} {tg : Expr} (a it e : Addr) : EL (Hdl e) P w K tg (CL K a e) [it] it (fun i h => h.IsListIter it a i) where
 mem := by simp
 obj := (p_ (P := P) (w := w) (K := K) (tg := tg) a it).obj
 keep := (p_ (P := P) (w := w) (K := K) (tg := tg) a it).keep
 item := by
  intro X hP hw hK hc i pins s σ H E I hf st hg
  subst hP hw hK
  obtain ⟨xs, x, hq, hx⟩ := hg
  obtain ⟨its, rv, p, hz⟩ := I.list hq
  obtain ⟨u, hu, ru⟩ := rv.get hx
  obtain ⟨f0, f1, f2, f3, f4, f5⟩ := hf it (by simp)
  refine wpAny_pyNext_list_item st p.isList (x := u) (by simpa using hu) fun h' st' sb => ?_
  have I1 : Inv X pins σ H { s with heap := h' } := I.turned (t' := s.toks) (fun b o hb e => (sb.2 b hb).trans e) f0 f1 f3 f4 f5
  obtain ⟨o, e, c, d⟩ := id st'
  exact ⟨u, rfl, sW (s := { s with heap := h' }) e c d (by decide) ⟨x, H, I1, ru, ⟨rfl, fun ys hy => by rw [I.list_inj hy hq]; exact hx⟩, st', fun b hb => (hf b hb).1⟩⟩
 done := by
  intro X hP hw hK hc i pins s σ H E I hf st hg
  subst hP hw hK
  obtain ⟨⟨xs, hq, hx⟩, C, hC⟩ := hg
  obtain ⟨its, rv, p, hz⟩ := I.list hq
  obtain ⟨f0, f1, f2, f3, f4, f5⟩ := hf it (by simp)
  have hl := rv.length
  have ni : e ≠ it := fun z => by rw [z, f0] at hC; cases hC
  exact pW hc (GY I hC) ni st p.isList (by simp; omega) fun h' eb => ⟨rfl, I.turned (t' := s.toks) (fun b o hb e => eb b o hb e) f0 f1 f3 f4 f5⟩
 self := fun _ _ _ _ _ st h => wpAny_pyIter_listiter st h
def yA (K : W.Frag) (e : Addr) (tl : TE) : TI := fun σ H R => tl σ H fun x H1 => ∃ a, x = .ref a /\ (∃ xs, SqL K H1 a xs) /\ R (CL K a e) H1
section
variable {X : Cx} {tg : Expr}
theorem Bq {l : Expr} {tl : TE} {e : Addr} (K : W.Frag) (hl : PE X l tl) (hK : X.K = K := by rfl) : PIG (Hdl e) X tg l (yA K e tl) := by
 subst hK
 intro pins s σ H R I h
 refine thn (hl pins s σ H _ I h) fun v s1 ⟨x, H1, I1, r1, q1⟩ => ?_
 obtain ⟨a, ex, ⟨xs, hq⟩, q⟩ := q1
 subst ex
 cases r1
 obtain ⟨its, rv, p, hz⟩ := I1.list hq
 refine wpAny_pyIter_list p.isList ?_
 refine ⟨s1.heap.objs.size, [s1.heap.objs.size], _, _, H1, rfl, I1.kept (t' := s1.toks) fun b o e => Heap.get?_push_of_some _ e, yI a _ e, ⟨_, Heap.get?_push_size _ rfl, rfl, rfl⟩, fun b hb => ?_, q⟩
 have e : b = s1.heap.objs.size := by simpa using hb
 subst e
 exact I1.fpOk (zR _) (I1.hok.fresh (zR _))
theorem Cw {elt iter : Expr} {x : Str} {xs : List Str} {g : TG} {pos : Pos} {ifs : List Expr} {scope : Scope} {cl : List (Str × Addr)} {fr : List Str} {ks : List Nat} {tl : TE} {tt : TT} {te : TE} {e : Addr} (K : W.Frag) (hh : X.A.handled = some (.ref e)) (S : CompScope X scope cl x fr)
 (hks : ks.map (fun k => X.N[k]?) = fr.map some) (hi : PE X iter tl) (hg : ∀ C s₂ H₂ ex pn, PG (bH X (xs ++ fr) scope cl C s₂ H₂ ex pn) tg g)
 (ht : ∀ C s₂ H₂ ex pn, PTs (bH X (xs ++ fr) scope cl C s₂ H₂ ex pn) ifs tt) (he : ∀ C s₂ H₂ ex pn, PE (bH X (xs ++ fr) scope cl C s₂ H₂ ex pn) elt te)
 (hs : ∀ x, Yo iter X.env x = pure x := by intro _; rfl) (hK : X.K = K := by rfl) : PE X (.ListComp elt [⟨tg, iter, ifs, 0⟩] scope pos) (fc (yA K e tl) xs.length g ks tt te) := by
 intro pins s σ H Q I h
 rw [eval_ListComp]
 refine ua (gd := Hdl e) (fun _ _ _ _ _ => hh) S hks (Bq K hi hK) hg ht he hs I h none _ fun D C H' s' mC f J fp hn q => ⟨mC, hn, fun h' sb => ?_⟩
 obtain ⟨f0, f1, f2, f3, f4, f5⟩ := fp
 exact ⟨.ref D, H', J.turned (t' := s'.toks) (fun b o hb e => (sb.2 b hb).trans e) f0 f1 f3 f4 f5, rfl, q⟩
end
structure zM (P : Program) (w : World) (K : W.Frag) (mg : Str -> Option Value) (base : Heap) (CX : CXT) (k : Nat) (f : Addr) (fd : FuncData) (ps : List Str) (sp : Sp) : Prop where
 len : ∀ vs H Q E, sp vs H Q E -> vs.length = ps.length
 run : ∀ (A : Around) (outer : List Env) (s : Shared) (H : Hp) (args : Args) (us : List Value) (vs : List V) (Q : VK) (E : XK), RoomC k A -> (∃ e C, A.handled = some (.ref e) /\ H e = some (cR C e)) -> Env0 P w K mg base A outer s H -> BindsTo s fd args (ps.zip us) -> Vals vs us -> sp vs H Q E ->
  codeAny (model P w) A (.call (.ref f) args) (CR CX outer P w H s Q E) s
theorem E4 {CX : CXT} {P : Program} {w : World} {K : W.Frag} {mg : Str -> Option Value} {base : Heap} {k : Nat} {f : Addr} {name qual : Str} {params : Arguments} {body : List Stmt} {scope : Scope} {dV kV doc pm cdv ct oc : Value} {an od : Option Addr}
 {osl : Array (Option Value)} {N ps : List Str} {sp : Sp} (lk : K.lookup f = some ⟨oc, od, .func (ZE name qual params body scope dV kV doc pm an cdv ct), osl⟩) (hcd : YJ K cdv qual = true) (S : aK N ps scope)
 (len : ∀ vs H Q E, sp vs H Q E -> vs.length = ps.length)
 (hbody : ∀ (A : Around) (outer : List Env) (s : Shared) (H : Hp) (vs : List V) (Q : VK) (E : XK) (e : Addr) (C : Value), A.handled = some (.ref e) -> H e = some (cR C e) -> RoomC k (A.deeper (envOfC qual scope s.heap.objs.size f cdv)) -> sp vs H Q E ->
  ∃ t, PSs (uU CX P w K mg base N qual scope f cdv A outer s H E) body t /\ t { nx := fun _ H' => Q .non H', rt := Q } (eF N vs) H) :
 zM P w K mg base CX (k + 1) f (ZE name qual params body scope dV kV doc pm an cdv ct) ps sp := by
 refine ⟨len, fun A outer s H args us vs Q E hr ⟨e, C, hh, hC⟩ e0 hb r hsp => ?_⟩
 have hl := len _ _ _ _ hsp
 have KX : K.In s.heap := e0.mod.kin.keeps fun b o e => (e0.bs b o e).1
 have lim : s.heap.NoLimit := e0.mod.nolimit.keeps fun b o e => (e0.bs b o e).1
 have hkind : ∀ y ∈ ps.zip us, scope.names.lookup y.1 = some .local \/ (scope.names.lookup y.1 = some .cell /\ ((cellsFrom (s.heap.objs.size + 1) scope.names []).lookup y.1).isSome = true) := fun ⟨n, v⟩ hy => by
  rcases S.par n (List.of_mem_zip hy).1 with q | q
  ·exact .inl q
  ·exact .inr ⟨q, PySem.W.cellsFrom_some _ _ _ (.inl q)⟩
 refine codeAny_call_function (by have := hr.dp; omega) (KX _ _ lk) rfl S.co S.gen rfl (PySem.W.codeRec_of KX hcd) (hb _ _ _ _ ?_)
 refine wpAny_newFunctionEnv_cells S.kind hkind fun env he s1 x => ?_
 subst he
 refine ⟨lim.keeps x.toInCall.keep, codeAny_func ?_⟩
 obtain ⟨t, ht, hq⟩ := hbody A outer s H vs Q E e C hh hC (hr.deeper _) hsp
 have e1 : Env0 P w K mg base { A with handled := none } outer s H := ⟨e0.frames, e0.mod, e0.bs, e0.bsz, e0.funs, e0.frf, e0.hok, e0.bare⟩
 have I0 : Inv (cO CX P w K mg base N qual scope f cdv { A with handled := none } outer s H E) [] (eF N vs) H s1 := vb S rfl e1 hl r x
 have I : Inv (uU CX P w K mg base N qual scope f cdv A outer s H E) [] (eF N vs) H s1 :=
  ⟨I0.ok.re (A.deeper (envOfC qual scope s.heap.objs.size f cdv)) rfl false (fun z => nomatch z) _ _, I0.os, I0.bare, I0.base, I0.loc, I0.cell, I0.free, I0.freeC, I0.pin, I0.hok, I0.len⟩
 refine Zr (ht [] s1 (eF N vs) H _ I hq) (fun fl s' hs => ?_) fun e s' hs => hs
 have fin : ∀ {σ' : St} {H' : Hp} {v : V} {u : Value}, Inv (uU CX P w K mg base N qual scope f cdv A outer s H E) [] σ' H' s' -> RelV v u -> Q v H' -> CE outer P w H s Q u s' :=
  fun {σ' H' v u} J rv q => ⟨v, H', J.os, J.bare, J.base, J.hok, rv, q⟩
 cases fl with
 | ret u =>
  obtain ⟨v, σ', H', J, rv, q⟩ := hs
  exact fin J rv q
 | next =>
  obtain ⟨σ', H', J, q⟩ := hs
  exact fin (v := V.non) (u := Zn) J rfl q
 | brk =>
  obtain ⟨_, _, _, q⟩ := hs
  exact ZV q
 | cont =>
  obtain ⟨_, _, _, q⟩ := hs
  exact ZV q
theorem Fun.okH {P : Program} {w : World} {K : W.Frag} {mg : Str -> Option Value} {base : Heap} {x qual : Str} {st : Stmt} {f : Addr} {fd : FuncData} {N ps : List Str} {k : Nat} {sp : Sp} (F : Fun K x qual st f fd) (S : aK N ps (af st)) (len : ∀ vs H Q E, sp vs H Q E -> vs.length = ps.length)
 (hbody : ∀ (cdv : Value) (A : Around) (outer : List Env) (s : Shared) (H : Hp) (vs : List V) (Q : VK) (E : XK) (e : Addr) (C : Value), A.handled = some (.ref e) -> H e = some (cR C e) -> RoomC k (A.deeper (envOfC qual (af st) s.heap.objs.size f cdv)) -> sp vs H Q E ->
  ∃ t, PSs (uU (XE P w) P w K mg base N qual (af st) f cdv A outer s H E) (aw st) t /\ t { nx := fun _ H' => Q .non H', rt := Q } (eF N vs) H) : zM P w K mg base (XE P w) (k + 1) f fd ps sp := by
 obtain ⟨oc, od, kV, doc, pm, an, cdv, ct, osl, rfl, lk, hcd⟩ := F.ex
 exact E4 lk hcd S len fun A outer s H vs Q E e C hh hC hr hsp => hbody cdv A outer s H vs Q E e C hh hC hr hsp
def yW (e : Addr) (sp : Sp) (dvs : List V) (E : XKs) (t : TA) : TE := fun σ H Q => t σ H fun vs H1 => (∃ C, H1 e = some (cR C e)) /\ sp (vs ++ dvs) H1 Q (E σ)
section
variable {X : Cx} {CX : CXT} {k : Nat} {f e : Addr} {fd : FuncData} {ps : List Str} {sp : Sp} {dvs : List V} {ds : List Value} {E : XKs} {x : Str} {p pos : Pos} {e1 : Expr} {es : List Expr} {t : TA}
theorem sL (F : zM X.prog X.w X.K X.mg X.base CX k f fd ps sp) (hh : X.A.handled = some (.ref e)) (hr : RoomC k X.A) (hg : Gl X x) (hm : X.mg x = some (.ref f)) (hk : Yz X.K (.ref f) = true) (hb : Binds X.K fd ps ds) (hd : Vals dvs ds) (hx : dE CX X E)
 (ha : PA X (e1 :: es) t) (hdb : (x == ("__debug__" : Str)) = false := by decide) (he : starEach (e1 :: es) X.env = (false, eval e1 X.env) :: starEach es X.env := by rfl) (hpl : (backTo pos (starEach es X.env)).any (·.1) = false := by rfl) :
 PE X (.Call (.Name x p) (e1 :: es) [] pos) (yW e sp dvs E t) := by
 intro pins s σ H Q I h
 refine ZF (il I hg hm ?_ hdb)
 refine Y5 (h₀ := X.base) I.ok.mod.kin hk (thn (ha pos pins s σ H _ I h) fun us s1 ⟨vs, H1, I1, r, ⟨C, hC⟩, h⟩ => ⟨I1.kIn, ?_⟩) he hpl
 have r2 : Vals (vs ++ dvs) (us ++ ds) := r.append hd
 have hl : (us ++ ds).length = ps.length := by rw [<- r2.length]; exact F.len _ _ _ _ h
 refine wpAny_call (codeAny_mono (F.run X.A X.stack s1 H1 ⟨us, []⟩ (us ++ ds) (vs ++ dvs) Q (E σ) hr ⟨e, C, hh, hC⟩ I1.env0 (hb s1 us I1.kIn hl) r2 h) fun r s' hq => ?_)
 cases r with
 | error e => exact hx pins σ H1 s1 e s' I1 hq
 | ok fl =>
  cases fl with
  | ret u => exact I1.after hq
  | next => exact ZV hq
  | brk => exact ZV hq
  | cont => exact ZV hq
end
theorem pH {X : Cx} {e : Addr} : (X.caught e).A.handled = some (.ref e) := rfl
theorem DG {CX : CXT} {P : Program} {w : World} {K : W.Frag} {mg : Str -> Option Value} {base : Heap} {N : List Str} {qual : Str} {scope : Scope} {f e : Addr} {cd : Value} {A : Around} {outer : List Env} {s : Shared} {H : Hp} {E : XK} (h : A.handled = some (.ref e)) : (uU CX P w K mg base N qual scope f cd A outer s H E).A.handled = some (.ref e) := h
end L2
namespace L2
open PySem PyProof.Rows
theorem GZ {K : W.Frag} {e : Addr} {tl : TE} {n : Nat} {g : TG} {ks : List Nat} {tt : TT} {te : TE} {σ : St} {H : Hp} {Q : VK} (h : tl σ H fun x H1 => ∃ a, x = .ref a /\ (∃ xs, SqL K H1 a xs) /\ CEl (CL K a e) n g ks tt te σ H1 Q) : fc (yA K e tl) n g ks tt te σ H Q := h
theorem GL {K : W.Frag} {e : Addr} {n : Nat} {g : TG} {ks : List Nat} {tt : TT} {te : TE} {σ : St} {H1 : Hp} {Q : VK} (a : Addr) (xs : List V) (P : Addr -> Nat -> List V -> Hp -> Prop) (hz : xs.length < sizeLine)
 (h0 : ∀ D, H1 D = none -> P D 0 [] (upd H1 D (.lst []))) (hD : ∀ D i ys H', P D i ys H' -> H' D = some (.lst ys) /\ SqL K H' a xs /\ ys.length <= i) (hE : ∀ D i ys H', P D i ys H' -> ∃ C, H' e = some (cR C e))
 (hs : ∀ D i y ys H' (zs : St) (N1 : VK) (N0 : Hp -> Prop), xs[i]? = some y -> P D i ys H' -> zs.length = n -> (∀ v H6, H6 D = some (.lst ys) -> P D (i + 1) (ys ++ [v]) (upd H6 D (.lst (ys ++ [v]))) -> N1 v H6) -> (∀ H6, P D (i + 1) ys H6 -> N0 H6) ->
  g y (zs ++ ks.map fun k => (σ[k]?).join) H' fun σ4 H4 => (∃ zs4 : St, zs4.length = n /\ σ4 = zs4 ++ ks.map fun k => (σ[k]?).join) /\ tt σ4 H4 fun b H5 => if b = true then te σ4 H5 N1 else N0 H5)
 (hd : ∀ D ys H', P D xs.length ys H' -> Q (.ref D) H') : CEl (CL K a e) n g ks tt te σ H1 Q := by
 intro D hDn
 refine ⟨fun i m ys H' => m = xs.length - i /\ i <= xs.length /\ P D i ys H', ⟨_, rfl, Zb _, h0 D hDn⟩, ?_⟩
 rintro i m ys H' ⟨rfl, hi, p⟩
 obtain ⟨d1, d2, d3⟩ := hD D i ys H' p
 refine ⟨d1, ?_⟩
 rcases Nat.lt_or_ge i xs.length with lt | ge
 ·refine .inr ⟨⟨xs, xs[i], d2, by simp [lt]⟩, ?_⟩
  rintro x H3 ⟨rfl, hx⟩ zs hzs
  exact hs D i x ys _ zs _ _ (hx xs d2) p hzs (fun v H6 h6 p6 => ⟨h6, by omega, _, by omega, rfl, lt, p6⟩) fun H6 p6 => ⟨_, by omega, rfl, lt, p6⟩
 ·obtain rfl : i = xs.length := Nat.le_antisymm hi ge
  exact .inl ⟨⟨⟨xs, d2, zR _⟩, hE D _ ys H' p⟩, hd D ys H' p⟩
theorem GN {K : W.Frag} {e : Addr} {C : Value} {ks : List Nat} {tt : TT} {te : TE} {σ : St} {H1 : Hp} {Q : VK} (a : Addr) (xs : List V) (p : V -> Bool) (v : V) (hC : H1 e = some (cR C e)) (ha : H1 a = some (.lst xs)) (hz : xs.length < sizeLine)
 (hp : ∀ x ∈ xs, ∀ G (R : Bool -> Hp -> Prop), R (p x) G -> tt ([some x] ++ ks.map fun k => (σ[k]?).join) G R)
 (he : ∀ x ∈ xs, ∀ G (R : VK), R v G -> te ([some x] ++ ks.map fun k => (σ[k]?).join) G R)
 (k : ∀ D, H1 D = none -> Q (.ref D) (upd H1 D (.lst ((xs.filter p).map fun _ => v)))) : CEl (CL K a e) 1 (j_ 0) ks tt te σ H1 Q := by
 refine GL a xs (fun D i ys G => H1 D = none /\ G = upd H1 D (.lst ys) /\ ys = ((xs.take i).filter p).map fun _ => v) hz ?_ ?_ ?_ ?_ ?_
 ·exact fun D hD => ⟨hD, rfl, rfl⟩
 ·rintro D i ys G ⟨hD, rfl, rfl⟩
  exact ⟨al, SqL.of ((aJ _ hD) _ _ ha), by rw [zl]; exact sC (ZS _ _) (by rw [Zf]; omega)⟩
 ·rintro D i ys G ⟨hD, rfl, rfl⟩
  exact ⟨C, (aJ _ hD) _ _ hC⟩
 ·rintro D i y ys G zs N1 N0 hy ⟨hD, rfl, rfl⟩ hzs n1 n0
  have my := qh hy
  obtain ⟨z1, rfl⟩ := ex1 hzs
  have et : xs.take (i + 1) = xs.take i ++ [y] := by rw [Yk, hy]; rfl
  rw [et, Yc, qc] at n1 n0
  refine ⟨⟨[_], rfl, rfl⟩, hp y my _ _ ?_⟩
  cases e : p y with
  | false =>
   rw [List.filter_cons_of_neg (by simp [e]), List.filter_nil, List.map_nil, YV] at n0
   rw [if_neg xC]
   exact n0 _ ⟨hD, rfl, rfl⟩
  | true =>
   rw [List.filter_cons_of_pos (by simp [e]), List.filter_nil] at n1
   rw [if_pos rfl]
   exact he y my _ _ (n1 _ _ al ⟨hD, by rw [qX], rfl⟩)
 ·rintro D ys G ⟨hD, rfl, rfl⟩
  rw [Yj]
  exact k D hD
end L2
set_option maxHeartbeats 4000000
namespace K5
def rk (κ : Nat -> Int) (n i : Nat) : Nat := (uF n).countP fun j => decide (κ j < κ i)
theorem A_ {κ : Nat -> Int} {pre post : List Nat} {n i : Nat} (hp : (pre ++ i :: post).Perm (uF n)) (hs : (pre ++ i :: post).Pairwise fun a b => κ a < κ b) : rk κ n i = pre.length := by
 unfold rk
 rw [<- hp.countP_eq, List.countP_append, List.countP_cons_of_neg (by simp)]
 obtain ⟨h1, h2, h3⟩ := List.pairwise_append.mp hs
 have e1 : pre.countP (fun j => decide (κ j < κ i)) = pre.length := List.countP_eq_length.mpr fun a ha => by
  have := h3 a ha i (Zt ..)
  simpa using this
 have e2 : post.countP (fun j => decide (κ j < κ i)) = 0 := List.countP_eq_zero.mpr fun a ha => by
  have := (Yy.mp h2).1 a ha
  simp; omega
 rw [e1, e2]; rfl
theorem FS {κ : Nat -> Int} {pi : List Nat} {n k i : Nat} (hp : pi.Perm (uF n)) (hs : pi.Pairwise fun a b => κ a < κ b) (hi : i < n) : i ∈ pi.take k ↔ rk κ n i < k := by
 obtain ⟨pre, post, rfl⟩ := List.append_of_mem (hp.mem_iff.mpr (YI.mpr hi))
 have nd : (pre ++ i :: post).Nodup := hp.nodup_iff.mpr List.nodup_range
 rw [A_ hp hs]
 constructor
 ·intro h
  apply Classical.byContradiction
  intro g
  rw [List.take_append_of_le_length (by omega)] at h
  exact (List.nodup_append.mp nd).2.2 i (ZB h) i (Zt ..) rfl
 ·intro h
  rw [List.take_append, uO]
  right
  obtain ⟨m, e⟩ : ∃ m, k - pre.length = m + 1 := ⟨k - pre.length - 1, by omega⟩
  rw [e]
  exact Zt ..
def pt (a W w : Int) : Int := a * w / W
def rs (a W w : Int) : Int := a * w % W
def wn (a : Int) (ws : List Int) : Int := a - (ws.map (pt a ws.sum)).sum
def cod (a : Int) (ws : List Int) (i : Nat) : Int := -(rs a ws.sum (ws.getD i 0)) * 64 + i
def mm (a : Int) (ws : List Int) : List Int := (uF ws.length).map fun i => pt a ws.sum (ws.getD i 0) + if rk (cod a ws) ws.length i < (wn a ws).toNat then 1 else 0
theorem sD (f : Int -> Int) : ∀ ws : List Int, (uF ws.length).map (fun i => f (ws.getD i 0)) = ws.map f := fun ws => by
 apply List.ext_getElem
 ·simp
 ·intro i h1 h2
  simp at h1
  simp [h1]
theorem xK (a W : Int) : ∀ ws : List Int, (ws.map (rs a W)).sum = a * ws.sum - W * (ws.map (pt a W)).sum
 | [] => by simp
 | w :: ws => by
  rw [ud, ZD, xK a W ws, ud, ZD, ZD, Int.mul_add, Int.mul_add]
  have := Int.mul_ediv_add_emod (a * w) W
  unfold rs pt
  omega
theorem zi (a W : Int) (hW : 0 < W) : ∀ ws : List Int, 0 <= (ws.map (rs a W)).sum /\ (ws.map (rs a W)).sum <= (W - 1) * ws.length
 | [] => by simp
 | w :: ws => by
  obtain ⟨h1, h2⟩ := zi a W hW ws
  rw [ud, ZD, ql]
  have p0 := Ys (a * w) (Int.ne_of_gt hW)
  have p1 := Yb (a * w) hW
  have e : (W - 1) * ((ws.length + 1 : Nat) : Int) = (W - 1) * ws.length + (W - 1) := by rw [Int.natCast_add, Int.mul_add]; simp
  rw [e]
  unfold rs at *
  omega
theorem GU (a : Int) (ws : List Int) (hW : 0 < ws.sum) : 0 <= wn a ws /\ wn a ws <= ws.length := by
 have s := xK a ws.sum ws
 obtain ⟨l, u⟩ := zi a ws.sum hW ws
 have e : (ws.map (rs a ws.sum)).sum = ws.sum * wn a ws := by
  rw [s]; unfold wn; rw [Int.mul_sub, Int.mul_comm a]
 rw [e] at l u
 constructor
 ·exact Int.nonneg_of_mul_nonneg_right l hW
 ·apply Classical.byContradiction
  intro g
  have g1 : (ws.length : Int) + 1 <= wn a ws := by omega
  have g2 := Int.mul_le_mul_of_nonneg_left g1 (Int.le_of_lt hW)
  have g3 : ws.sum * ((ws.length : Int) + 1) = ws.sum * ws.length + ws.sum := by rw [Int.mul_add]; simp
  have g4 : (ws.sum - 1) * (ws.length : Int) = ws.sum * ws.length - ws.length := by rw [Int.sub_mul]; simp
  omega
theorem D0 {a : Int} {ws : List Int} (h : ws.length <= 60) (i j : Nat) (hi : i < ws.length) (hj : j < ws.length) (e : cod a ws i = cod a ws j) : i = j := by
 unfold cod at e; omega
theorem uH (a : Int) (ws : List Int) : (mm a ws).length = ws.length := by unfold mm; simp
end K5
namespace K17
open PySem L2
def wi (l o : List Nat) : Bool := decide (l = o) || Gs l (o ++ [58])
structure Row where
 pa : List Nat
 cu : List Nat
 am : Int
structure Bk where
 k : Int
 d : Int
 rs : List Row
abbrev cod (e : Int × Int × Int) : Int := e.1 * 64 + e.2.1
def Num (bs : List Bk) : Prop := bs.map (·.k) = (uF bs.length).map fun i : Nat => (i : Int)
def sg (a s : Int) (k : Nat) : Nat := 97 + ((a + s * k) % 26).toNat
def wd (a s : Int) (n : Nat) : List Nat := (uF n).map fun k => sg a s k
def nms (c : Int) (k : Nat) : List Nat :=
 if k < 6 then (wd (c / 250) (1 + c / 10 % 25) (1 + c % 10).toNat).take (c / 6500 % (1 + c % 10 + 1)).toNat ++ [97 + ((c / 71500 + 3 * k) % 26).toNat] ++ (wd (c / 250) (1 + c / 10 % 25) (1 + c % 10).toNat).drop (c / 6500 % (1 + c % 10 + 1)).toNat
 else wd (c / 250) (1 + c / 10 % 25) (1 + c % 10).toNat
theorem Gp (a s : Int) (k : Nat) : 97 <= sg a s k /\ sg a s k <= 122 := by unfold sg; omega
end K17
namespace L2
open PySem PyProof.Rows
section
variable {prog : Program} {w : World} {A : Around} {E : Value -> Shared -> Prop} {s : Shared} {it t e : Addr} {i : Nat} {its : Array Value} {x old : Value}
theorem Ap {Q : Value -> Shared -> Prop} (hi : s.heap.IsTupleIter it t i) (ht : s.heap.IsTuple t its) (hx : its[i]? = some x)
 (q : ∀ h', h'.IsTupleIter it t (i + 1) -> ZQ it s.heap h' -> Q x { s with heap := h' }) : wpAny (model prog w) A (ZI (.ref it)) Q E s := by
 obtain ⟨o, ho, hc, hd⟩ := id hi
 obtain ⟨ol, hol, _, nl, hdl⟩ := ht
 unfold ZI
 refine zu (wpAny_callSpecial?_slot (name := sV "__next__") hi.typeIs Yx (ZX Yx hi.typeIs F.entry_tuple_iterator_next ?_ (F.args_tuple_iterator_next_1 _)))
 show wpAny _ _ (field (.ref it) 0 >>= _) _ _ s
 refine zu (ZK ho hd (x := .ref t) rfl ?_)
 show wpAny _ _ (if (xL t == Zn) = true then _ else _) _ _ s
 rw [if_neg (show ¬ ((xL t == Zn) = true) from xC)]
 show wpAny _ _ (field (.ref it) 1 >>= _) _ _ s
 refine zu (ZK ho hd (x := .int i 0) rfl ?_)
 show wpAny _ _ (seqItems? (.ref t) >>= _) _ _ s
 refine zu (wpAny_seqItems hol hdl ?_)
 simp only [Zi, hx]
 refine zu (wpAny_setField ho hd (by simp) (wG ⟨x, rfl, wG (q _ ?_ (ZQ.update ..))⟩))
 exact ⟨_, Heap.get?_update_self _ ho (Yv (Y6 hd _)), (Obj.cls_mapFields ..).trans hc, by
  rw [Y6 hd]; simp [rawInt]⟩
theorem Cp {Q : Value -> Shared -> Prop} (hh : A.handled = none) (hi : s.heap.IsTupleIter it t i) (ht : s.heap.IsTuple t its) (hx : its[i]? = none)
 (q : ∀ h' e, Heap.ExtBut it s.heap h' -> (∃ o, h'.get? e = some o /\ o.cls = .type "StopIteration") -> E (.ref e) { s with heap := h' }) : wpAny (model prog w) A (ZI (.ref it)) Q E s := by
 obtain ⟨o, ho, hc, hd⟩ := id hi
 obtain ⟨ol, hol, _, nl, hdl⟩ := ht
 unfold ZI
 refine zu (wpAny_callSpecial?_slot (name := sV "__next__") hi.typeIs Yx (ZX Yx hi.typeIs F.entry_tuple_iterator_next ?_ (F.args_tuple_iterator_next_1 _)))
 show wpAny _ _ (field (.ref it) 0 >>= _) _ _ s
 refine zu (ZK ho hd (x := .ref t) rfl ?_)
 show wpAny _ _ (if (xL t == Zn) = true then _ else _) _ _ s
 rw [if_neg (show ¬ ((xL t == Zn) = true) from xC)]
 show wpAny _ _ (field (.ref it) 1 >>= _) _ _ s
 refine zu (ZK ho hd (x := .int i 0) rfl ?_)
 show wpAny _ _ (seqItems? (.ref t) >>= _) _ _ s
 refine zu (wpAny_seqItems hol hdl ?_)
 simp only [Zi, hx]
 refine zu (wpAny_rule (zu (wpAny_setField ho hd (by simp) ?_)))
 show wpAny _ _ (newExc (.type "StopIteration") [] >>= _) _ _ _
 refine zu ?_
 simp only [newExc, newTuple]
 refine zu (Yp ?_ (by size_fits))
 refine zu (m := firstArgMember _ _) (wpAny_of_eq (a := Zn) (by first | rfl | (simp only [firstArgMember]; rfl)) ?_)
 refine Yp ?_ (by size_fits)
 simp only [raiseNew]
 refine zu (wpAny_handled ?_)
 first | rw [show A.in1.handled = none from hh] | rw [hh]
 refine zu (wG (wpAny_throw ?_))
 exact q _ _ (((ZQ.update ..).extBut.push _).push _) ⟨_, Heap.get?_push_size _ rfl, rfl⟩
theorem za {Q : Option Value -> Shared -> Prop} (en : IsEnum s.heap e it i old) (hi : s.heap.IsTupleIter it t i) (ht : s.heap.IsTuple t its) (hx : its[i]? = some x) (ne : e ≠ it)
 (k : ∀ h', IsEnumOut h' e it ((i : Int) + 1) x s.heap.objs.size -> h'.IsTupleIter it t (i + 1) -> h'.get? s.heap.objs.size = some { cls := .type "tuple", data := .seq #[.int i s.toks, x] } -> h'.objs.size = s.heap.objs.size + 1 ->
  (∀ b o, b ≠ e -> b ≠ it -> s.heap.get? b = some o -> h'.get? b = some o) -> Q (some (.ref s.heap.objs.size)) { s with heap := h', toks := s.toks + 1 }) :
 wpAny (model prog w) A (pyNext (.ref e)) Q E s := by
 have ty : s.TypeIs (.ref e) "enumerate" := ⟨_, en, rfl⟩
 unfold pyNext
 refine zu (wpAny_attempt (wpAny_callSpecial?_slot (name := sV "__next__") ty YN (ZX YN ty F.entry_enumerate_next ?_ (F.args_enumerate_next_1 _))))
 exact Rv.enum_item (T := fun h => h.IsTupleIter it t (i + 1)) en ne (fun h h' y sb => y.at fun o q => (sb.2 it (Ne.symm ne)).trans q) (fun h o y => y.at fun o q => Heap.get?_push_of_some _ q) (fun Q' q => Ap hi ht hx q) fun h' a b c d f => wG (k h' a b c d f)
theorem sB {Q : Option Value -> Shared -> Prop} (hh : A.handled = none) (en : IsEnum s.heap e it i old) (hi : s.heap.IsTupleIter it t i) (ht : s.heap.IsTuple t its) (hx : its[i]? = none)
 (k : ∀ h', Heap.ExtBut it s.heap h' -> Q none { s with heap := h' }) : wpAny (model prog w) A (pyNext (.ref e)) Q E s := by
 have ty : s.TypeIs (.ref e) "enumerate" := ⟨_, en, rfl⟩
 unfold pyNext
 refine zu (wpAny_attempt (wpAny_callSpecial?_slot (name := sV "__next__") ty YN (ZX YN ty F.entry_enumerate_next ?_ (F.args_enumerate_next_1 _))))
 show wpAny (model prog w) _ (field (.ref e) 2 >>= _) _ _ s
 refine zu (ZK en rfl (x := .ref it) rfl (zu (Cp hh hi ht hx fun h' b eb hb => ?_)))
 obtain ⟨o, q1, q2⟩ := hb
 exact zu (wpAny_isInstance (T := "StopIteration") (b := true) ⟨o, q1, q2⟩ isSubtype_stop (wG (k _ eb)))
theorem Au {od : Obj} (hc : od.cls = .type "tuple") {n : Nat} (hd : od.data = .seq its n) :
 Meets (Builtin.«enumerate.__new__» ⟨[.type "enumerate", .ref t], []⟩) (fun _ R s => s.heap.get? t = some od /\ R (.ok (.ret (.ref (s.heap.push { cls := .type "tuple_iterator", data := .fields #[.ref t, .int 0 0] }).objs.size))) { s with heap := (s.heap.push { cls := .type "tuple_iterator", data := .fields #[.ref t, .int 0 0] }).push { cls := .type "enumerate", data := .fields #[.none, .bool false, .ref s.heap.objs.size, rawInt 0, .none, .none] } }) :=
 .of_wp fun prog w A R s ⟨hl, h⟩ => by
  obtain ⟨hp, g, d', tn, os⟩ := s
  have sub := sub_enumerate
  have hT : Heap.IsTuple (Shared.heap ⟨hp, g, d', tn, os⟩) t its := ⟨_, hl, hc, n, hd⟩
  wp_walk using YA hl
  refine wpAny_stack_any fun st => wG ?_
  split
  ·rename_i c _ _ _ _ _
   cases (c == Ye "enumerate") <;> (wp_walk using YA hl, wpAny_pyIter_tuple hT; exact ⟨_, rfl, h⟩)
  ·wp_walk using YA hl, wpAny_pyIter_tuple hT
   exact ⟨_, rfl, h⟩
theorem yZ {Q : Value -> Shared -> Prop} (ht : s.heap.IsTuple t its)
 (h : ∀ h' e, e = s.heap.objs.size + 1 -> IsEnum h' e s.heap.objs.size 0 .none -> h'.IsTupleIter s.heap.objs.size t 0 -> (∀ b o, s.heap.get? b = some o -> h'.get? b = some o) -> Q (.ref e) { s with heap := h' }) :
 wpAny (model prog w) A (call (.type "enumerate") [.ref t]) Q E s := by
 obtain ⟨od, ho, hc, n, hd⟩ := ht
 refine callType_new F.called_enumerate (by decide) (F.typeCall_enumerate_1 _) (F.newCall_enumerate_1 _) (fun obj => F.args_object_init_2 obj _) F.entry_enumerate_new (Au hc hd) ⟨ho, ?_⟩
 have gk : (s.heap.push { cls := .type "tuple_iterator", data := .fields #[.ref t, .int 0 0] }).get? s.heap.objs.size = some { cls := .type "tuple_iterator", data := .fields #[.ref t, .int 0 0] } := Heap.get?_push_size _ rfl
 have zk : (s.heap.push { cls := .type "tuple_iterator", data := .fields #[.ref t, .int 0 0] }).objs.size = s.heap.objs.size + 1 := Heap.size_push ..
 have kk : ∀ b o, s.heap.get? b = some o -> (s.heap.push { cls := .type "tuple_iterator", data := .fields #[.ref t, .int 0 0] }).get? b = some o := fun b o q => Heap.get?_push_of_some _ q
 generalize s.heap.push { cls := .type "tuple_iterator", data := .fields #[.ref t, .int 0 0] } = hp at gk zk kk |-
 have en : IsEnum (hp.push { cls := .type "enumerate", data := .fields #[.none, .bool false, .ref s.heap.objs.size, rawInt 0, .none, .none] }) hp.objs.size s.heap.objs.size 0 .none := Heap.get?_push_size _ rfl
 exact ⟨⟨_, en, rfl⟩, h _ _ zk en ⟨_, Heap.get?_push_of_some _ gk, rfl, rfl⟩ fun b o q => Heap.get?_push_of_some _ (kk b o q)⟩
end
section
variable {X : Cx} {pins : List (Addr × Obj)} {σ : St} {H : Hp} {s : Shared}
def Itg (K : W.Frag) (a : Addr) : It :=
 ⟨fun i H => ∃ xs x, SqT K H a xs /\ xs[i]? = some x, fun i H x H' => ∃ p y, H p = none /\ x = .ref p /\ H' = upd H p (.tup [.int i, y]) /\ ∀ xs, SqT K H a xs -> xs[i]? = some y, fun i H => ∃ xs, SqT K H a xs /\ xs.length <= i⟩
theorem y9 {P : Program} {w : World} {K : W.Frag} {elts : List Expr} {cx : _} {pos : Pos} (a e it : Addr) (ne : e ≠ it) :
 zf P w K (.Tuple elts cx pos) (Itg K a) [e, it] e (fun i h => ∃ old, IsEnum h e it (i : Nat) old /\ h.IsTupleIter it a i) where
 mem := by simp
 obj := fun i h st b hb => by
  obtain ⟨old, h1, o, h2, c, d⟩ := st
  rcases ve.mp hb with rfl | hb
  ·exact ⟨_, h1, fun v z => by
    have z' : Y9 _ = Data.cell v := z
    cases z'⟩
  ·have z := zY.mp hb
   subst z
   exact ⟨o, h2, fun v z => by rw [d] at z; cases z⟩
 keep := fun i h h' st k => by
  obtain ⟨old, h1, h2⟩ := st
  exact ⟨old, k e (by simp) _ h1, h2.at fun o q => k it (by simp) o q⟩
 item := by
  intro X hP hw hK hc i pins s σ H E I hf st hg
  subst hP hw hK
  obtain ⟨xs, x, hq, hx⟩ := hg
  obtain ⟨its, rv, p, hz⟩ := I.tuple hq
  obtain ⟨u, hu, ru⟩ := rv.get hx
  have fe := hf e (by simp)
  have fi := hf it (by simp)
  obtain ⟨old, h1, h2⟩ := st
  obtain ⟨oi, gi, ci, di⟩ := id h2
  refine za h1 h2 (show s.heap.IsTuple a its.toArray from p) (x := u) (by simpa using hu) ne fun h' e1 i1 t1 z1 k1 => ?_
  obtain ⟨oi', gi', ci', di'⟩ := id i1
  obtain ⟨h3, z3, I3, k3⟩ := I.turned2 (t' := s.toks + 1) (h' := h') h1 gi ne ⟨_, e1, rfl⟩ ⟨_, gi', Yv di'⟩ k1 fe fi
  have hn := I.hok.fresh (zR s.heap.objs.size)
  have I4 : Inv X pins σ (upd H s.heap.objs.size (.tup [.int i, x])) { s with heap := h', toks := s.toks + 1 } :=
   I3.laid (t' := s.toks + 1) k3 (Nat.le_of_eq z3) (show ObjOk X.prog X.w _ h' _ (.tup [.int i, x]) from ⟨by show 2 <= sizeLine; rw [uT]; decide, [.int i s.toks, u], .cons ⟨_, rfl⟩ (.cons ru .nil), ⟨_, t1, rfl, 0, rfl⟩⟩)
  have le : e < s.heap.objs.size := xw h1
  have li : it < s.heap.objs.size := xw gi
  have nH : ∀ b, b < s.heap.objs.size -> upd H s.heap.objs.size (.tup [.int i, x]) b = H b := fun b l => ay (uZ l)
  refine ⟨_, rfl, wpAny_letOwnedTupleGo_enum (s := { s with heap := h', toks := s.toks + 1 }) e1 fun h5 e5 s5 => ?_⟩
  have I5 : Inv X pins σ (upd H s.heap.objs.size (.tup [.int i, x])) { s with heap := h5, toks := s.toks + 1 } :=
   I4.turned (t' := s.toks + 1) (fun b o hb q => (s5.2 b hb).trans q) ((nH e le).trans fe.1) fe.2.1 fe.2.2.2.1 fe.2.2.2.2.1 fe.2.2.2.2.2
  refine ⟨.ref s.heap.objs.size, _, I5, rfl, ⟨_, x, hn, rfl, rfl, fun ys hy => by rw [I.tuple_inj hy hq]; exact hx⟩, ⟨_, e5, i1.at fun o q => (s5.2 it (Ne.symm ne)).trans q⟩, fun b hb => ?_⟩
  rcases ve.mp hb with rfl | hb
  ·exact (nH _ le).trans fe.1
  ·rw [zY.mp hb]; exact (nH _ li).trans fi.1
 done := by
  intro X hP hw hK hc i pins s σ H E I hf st hg
  subst hP hw hK
  obtain ⟨xs, hq, hx⟩ := hg
  obtain ⟨its, rv, p, hz⟩ := I.tuple hq
  have fi := hf it (by simp)
  have hl := rv.length
  obtain ⟨old, h1, h2⟩ := st
  exact sB (I.ok.hd hc) h1 h2 (show s.heap.IsTuple a its.toArray from p) (by simp; omega) fun h' eb => ⟨rfl, I.turned (t' := s.toks) (fun b o hb q => eb b o hb q) fi.1 fi.2.1 fi.2.2.2.1 fi.2.2.2.2.1 fi.2.2.2.2.2⟩
 self := fun _ _ _ _ _ ⟨_, st, _⟩ h => wpAny_pyIter_enum st h
def BW (K : W.Frag) (ta : TE) : TI := fun σ H R => ta σ H fun x H1 => ∃ a, x = .ref a /\ (∃ xs, SqT K H1 a xs) /\ R (Itg K a) H1
theorem Bf {arg : Expr} {ta : TE} {p pos : Pos} {elts : List Expr} {cx : _} {tp : Pos} (K : W.Frag) (hg : Gl X "enumerate") (hm : X.mg "enumerate" = none) (ha : PE X arg ta) (hs : starEach [arg] X.env = [(false, eval arg X.env)] := by rfl) (hK : X.K = K := by rfl) :
 PI X (.Tuple elts cx tp) (.Call (.Name "enumerate" p) [arg] [] pos) (BW K ta) := by
 subst hK
 intro pins s σ H R I h
 refine Call_ (jK I hg hm PyProof.Rows.boot_enumerate (ZN ?_ hs rfl))
 rw [hs]
 refine Y7 (thn (ha pins s σ H _ I h) fun v s1 ⟨x, H1, I1, rx, b, ex, ⟨xs, hq⟩, q⟩ => ?_)
 subst ex
 cases (show v = xL b from rx)
 obtain ⟨its, rv, pt, hz⟩ := I1.tuple hq
 refine Calls.spliced_nil (yZ (show s1.heap.IsTuple b its.toArray from pt) fun h' e he en ki k => wpAny_pyIter_enum (s := { s1 with heap := h' }) en ?_)
 have ne : e ≠ s1.heap.objs.size := by rw [he]; exact Nat.succ_ne_self _
 refine ⟨_, [e, s1.heap.objs.size], _, _, _, rfl, I1.kept (t' := s1.toks) k, y9 b _ _ ne, ⟨_, en, ki⟩, fun c hc => ?_, q⟩
 rcases ve.mp hc with rfl | hc
 ·exact I1.fpOk (by rw [he]; exact ZC _) (I1.hok.fresh (by rw [he]; exact ZC _))
 ·rw [zY.mp hc]; exact I1.fpOk (zR _) (I1.hok.fresh (zR _))
theorem DO {K : W.Frag} {ta : TE} {g : TG} {tb : TS} {D : fA} {σ : St} {H : Hp} (h : ta σ H fun x H1 => ∃ a, x = .ref a /\ (∃ xs, SqT K H1 a xs) /\ FE (Itg K a) g tb D σ H1) : rZ (BW K ta) g tb D σ H := h
theorem Dp {K : W.Frag} {a : Addr} {xs : List V} {g : TG} {tb : TS} {D : fA} {σ : St} {H : Hp} (Pv : Nat -> St -> Hp -> Prop) (h0 : Pv 0 σ H) (hl : ∀ i σ H, Pv i σ H -> SqT K H a xs)
 (hs : ∀ i x σ H p, xs[i]? = some x -> H p = none -> Pv i σ H -> g (.ref p) σ (upd H p (.tup [.int i, x])) fun σ2 H2 => tb { D with nx := Pv (i + 1), ct := Pv (i + 1), bk := D.nx } σ2 H2) (hd : ∀ σ H, Pv xs.length σ H -> D.nx σ H) : FE (Itg K a) g tb D σ H := by
 refine ⟨fun i m σ H => m = xs.length - i /\ i <= xs.length /\ Pv i σ H, ⟨_, rfl, Zb _, h0⟩, ?_⟩
 rintro i m σ H ⟨rfl, hi, p⟩
 have q := hl i σ H p
 rcases Nat.lt_or_ge i xs.length with lt | ge
 ·refine .inr ⟨⟨xs, xs[i], q, by simp [lt]⟩, Pv (i + 1), fun σ' H' p' => ⟨_, by omega, rfl, lt, p'⟩, ?_⟩
  rintro x H' ⟨r, y, hr, rfl, rfl, hy⟩
  exact hs i y σ H r (hy xs q) hr p
 ·obtain rfl : i = xs.length := Nat.le_antisymm hi ge
  exact .inl ⟨⟨xs, q, zR _⟩, hd σ H p⟩
end
end L2
set_option maxHeartbeats 400000
namespace K25
open PySem L2
structure Adr where
 m9 : Addr
 qr : FuncData
 ng : Addr
 qu : FuncData
 kc : Addr
 nR : FuncData
 py : Addr
 rK : FuncData
 mI : Addr
 qe : FuncData
 jC : Addr
 pb : FuncData
 gU : Addr
 j8 : FuncData
 jW : Addr
 oX : FuncData
 pX : Addr
 rL : FuncData
 gR : Addr
 kX : FuncData
 sI : Addr
 t_ : FuncData
 iI : Addr
 mt : FuncData
 fU : Addr
 iU : FuncData
 iG : Addr
 mh : FuncData
 ie : Addr
 md : FuncData
 ik : Addr
 lY : FuncData
 eM : Addr
 hX : FuncData
 fJ : Addr
 iR : FuncData
 ir : Addr
 mq : FuncData
 dU : Addr
 ml : FuncData
 d0 : Addr
 qf : FuncData
 fY : Addr
 oN : FuncData
 eu : Addr
 kg : FuncData
 fF : Addr
 qd : FuncData
 fN : Addr
 iY : FuncData
 iE : Addr
 lZ : FuncData
 fm : Addr
 ja : FuncData
 fz : Addr
 iW : FuncData
 gu : Addr
 nM : FuncData
 cT : Addr
 e_ : FuncData
 d4 : Addr
 gv : FuncData
 fk : Addr
 jd : FuncData
 eB : Addr
 kW : FuncData
 c9 : Addr
 oI : FuncData
 l_ : Addr
 Co : FuncData
 cU : Addr
 fH : FuncData
 cG : Addr
 eQ : FuncData
 gT : Addr
 ky : FuncData
 d9 : Addr
 gg : FuncData
 fE : Addr
 jc : FuncData
 eI : Addr
 h_ : FuncData
 eL : Addr
 h9 : FuncData
 dM : Addr
 fK : FuncData
 cX : Addr
 dX : FuncData
 bt : Addr
 aT : Addr
 c_ : Addr
 aP : Addr
 bT : Addr
 aI : Addr
 az : Addr
 aN : Addr
 aU : Addr
 bG : Addr
 bc : Addr
 aG : Addr
 cz : Addr
 aA : Addr
 av : Addr
abbrev zzK (K : W.Frag) (a b : Addr) (c : Bool) : Prop := rT K (.ref a) (.ref b) = some c
abbrev zzX (K : W.Frag) (a : Addr) : Prop := PySem.W.excIn K a [.type "ValueError", .type "Exception", .type "BaseException", .type "object"] "ValueError.__new__" = true
structure Txt (K : W.Frag) (mg : Str -> Option Value) (a : Adr) : Prop where
 nc : Fun K "is_whole" "is_whole" dt a.m9 a.qr
 ze : mg "is_whole" = some (.ref a.m9)
 dm : Fun K "is_among" "is_among" dq a.ng a.qu
 nz : mg "is_among" = some (.ref a.ng)
 eE : Fun K "signs_lie" "signs_lie" cV a.kc a.nR
 qo : mg "signs_lie" = some (.ref a.kc)
 gX : Fun K "is_name" "is_name" dZ a.py a.rK
 uj : mg "is_name" = some (.ref a.py)
 iy : Fun K "is_month" "is_month" dv a.mI a.qe
 rj : mg "is_month" = some (.ref a.mI)
 jU : Fun K "is_amount" "is_amount" c8 a.jC a.pb
 wT : mg "is_amount" = some (.ref a.jC)
 gF : Fun K "is_currency" "is_currency" cr a.gU a.j8
 tG : mg "is_currency" = some (.ref a.gU)
 kF : Fun K "are_names" "are_names" cZ a.jW a.oX
 xP : mg "are_names" = some (.ref a.jW)
 pO : Fun K "is_path" "is_path" d7 a.pX a.rL
 Al : mg "is_path" = some (.ref a.pX)
 gQ : Fun K "are_weights" "are_weights" cv a.gR a.kX
 tV : mg "are_weights" = some (.ref a.gR)
 jE : Fun K "shared" "shared" fR a.sI a.t_
 wW : mg "shared" = some (.ref a.sI)
 iD : Fun K "are_months" "are_months" cH a.iI a.mt
 vH : mg "are_months" = some (.ref a.iI)
 cy : Fun K "_law_cell_at" "_law_cell_at" bR a.fU a.iU
 dF : mg "_law_cell_at" = some (.ref a.fU)
 aX : Fun K "_law_mixed" "_law_mixed" cD a.iG a.mh
 bi : mg "_law_mixed" = some (.ref a.iG)
 eU : Fun K "_law_whole" "_law_whole" cB a.ie a.md
 ox : mg "_law_whole" = some (.ref a.ie)
 iA : Fun K "_law_names" "_law_names" cK a.ik a.lY
 wu : mg "_law_names" = some (.ref a.ik)
 eK : Fun K "_law_currency" "_law_currency" bL a.eM a.hX
 qF : mg "_law_currency" = some (.ref a.eM)
 fQ : Fun K "_law_weights" "_law_weights" bW a.fJ a.iR
 rV : mg "_law_weights" = some (.ref a.fJ)
 iu : Fun K "_law_total" "_law_total" cL a.ir a.mq
 wD : mg "_law_total" = some (.ref a.ir)
 iz : Fun K "_law_terms" "_law_terms" bv a.dU a.ml
 v9 : mg "_law_terms" = some (.ref a.dU)
 nC : Fun K "_law_odd" "_law_odd" bB a.d0 a.qf
 yy : mg "_law_odd" = some (.ref a.d0)
 da : Fun K "_law_word" "_law_word" cA a.fY a.oN
 jz : mg "_law_word" = some (.ref a.fY)
 gJ : Fun K "_law_spoilt" "_law_spoilt" bE a.eu a.kg
 tm : mg "_law_spoilt" = some (.ref a.eu)
 iH : Fun K "_law_put" "_law_put" bP a.fF a.qd
 rm : mg "_law_put" = some (.ref a.fF)
 db : Fun K "_law_refusal" "_law_refusal" bY a.fN a.iY
 jI : mg "_law_refusal" = some (.ref a.fN)
 ip : Fun K "_law_month" "_law_month" cE a.iE a.lZ
 wm : mg "_law_month" = some (.ref a.iE)
 de : Fun K "_law_is_none" "_law_is_none" bU a.fm a.ja
 jR : mg "_law_is_none" = some (.ref a.fm)
 eZ : Fun K "_law_answers" "_law_answers" bQ a.fz a.iW
 rC : mg "_law_answers" = some (.ref a.fz)
 f_ : Fun K "_law_told" "_law_told" cg a.gu a.nM
 qt : mg "_law_told" = some (.ref a.gu)
 cQ : Fun K "_law_names_told" "_law_names_told" bb a.cT a.e_
 gm : mg "_law_names_told" = some (.ref a.cT)
 df : Fun K "_law_all_names" "_law_all_names" bC a.d4 a.gv
 ia : mg "_law_all_names" = some (.ref a.d4)
 dI : Fun K "_law_word_of" "_law_word_of" bS a.fk a.jd
 kJ : mg "_law_word_of" = some (.ref a.fk)
 gS : Fun K "_law_mended" "_law_mended" bF a.eB a.kW
 tT : mg "_law_mended" = some (.ref a.eB)
 jM : Fun K "_law_done" "_law_done" bd a.c9 a.oI
 xy : mg "_law_done" = some (.ref a.c9)
 GA : Fun K "law" "law" dD a.l_ a.Co
 HG : mg "law" = some (.ref a.l_)
 fX : Fun K "__init__" "Budget.__init__" bx a.cU a.fH
 yz : qx K a.aA "__init__" a.cU
 fI : Fun K "__init__" "Budgets.__init__" bj a.cG a.eQ
 yh : qx K a.av "__init__" a.cG
 gP : Fun K "put" "Budgets.put" cq a.gT a.ky
 k8 : qx K a.av "put" a.gT
 dg : Fun K "budget" "Budgets.budget" bD a.d9 a.gg
 dH : qx K a.av "budget" a.d9
 fP : Fun K "drop" "Budgets.drop" bV a.fE a.jc
 iZ : qx K a.av "drop" a.fE
 jh : Fun K "names" "Budgets.names" bK a.eI a.h_
 hJ : qx K a.av "names" a.eI
 eN : Fun K "terms" "Budgets.terms" bM a.eL a.h9
 ib : qx K a.av "terms" a.eL
 dJ : Fun K "planned" "Budgets.planned" br a.dM a.fK
 fu : qx K a.av "planned" a.dM
 ck : Fun K "planned_by" "Budgets.planned_by" be a.cX a.dX
 cb : qx K a.av "planned_by" a.cX
 iN : mg "HouseError" = some (.ref a.bt)
 u_ : mg "BadName" = some (.ref a.aT)
 Ci : mg "BadDay" = some (.ref a.c_)
 rO : mg "BadMonth" = some (.ref a.aP)
 y4 : mg "BadCount" = some (.ref a.bT)
 qk : mg "BadAmount" = some (.ref a.aI)
 ms : mg "BadCurrency" = some (.ref a.az)
 mF : mg "BadShare" = some (.ref a.aN)
 uP : mg "BadPath" = some (.ref a.aU)
 xX : mg "NoAccount" = some (.ref a.bG)
 zF : mg "Twice" = some (.ref a.bc)
 rS : mg "NoBudget" = some (.ref a.aG)
 AD : mg "NoOrder" = some (.ref a.cz)
 Cb : mg "Budget" = some (.ref a.aA)
 uR : mg "Budgets" = some (.ref a.av)
 eX : Cls K a.aA
 jg : NoAttr K a.aA "agreed"
 j7 : NoAttr K a.aA "first"
 j5 : NoAttr K a.aA "parts"
 AX : Mk K a.aA a.cU
 aV : Cls K a.av
 bu : NoAttr K a.av "by_name"
 sS : Mk K a.av a.cG
 yg : zzX K a.aI
 xf : cN K a.aI
 iO : ZZ K (.ref a.aI) (.ref a.bt) = some true
 ju : zzK K a.aI a.aI true
 jL : zzK K a.aI a.bT false
 gW : zzK K a.aI a.az false
 m8 : zzK K a.aI a.c_ false
 jN : zzK K a.aI a.aP false
 lA : zzK K a.aI a.aT false
 lP : zzK K a.aI a.aU false
 km : zzK K a.aI a.aN false
 jk : zzK K a.aI a.bG false
 j9 : zzK K a.aI a.aG false
 lH : zzK K a.aI a.cz false
 nQ : zzK K a.aI a.bc false
 ig : rT K (.ref a.aI) (.type "ValueError") = some true
 tZ : zzX K a.az
 tI : cN K a.az
 gO : ZZ K (.ref a.az) (.ref a.bt) = some true
 gZ : zzK K a.az a.aI false
 ix : zzK K a.az a.bT false
 fW : zzK K a.az a.az true
 kb : zzK K a.az a.c_ false
 iF : zzK K a.az a.aP false
 jv : zzK K a.az a.aT false
 jo : zzK K a.az a.aU false
 iL : zzK K a.az a.aN false
 hU : zzK K a.az a.bG false
 iB : zzK K a.az a.aG false
 jn : zzK K a.az a.cz false
 lK : zzK K a.az a.bc false
 gK : rT K (.ref a.az) (.type "ValueError") = some true
 yR : zzX K a.aP
 yp : cN K a.aP
 jr : ZZ K (.ref a.aP) (.ref a.bt) = some true
 jX : zzK K a.aP a.aI false
 lC : zzK K a.aP a.bT false
 iq : zzK K a.aP a.az false
 nZ : zzK K a.aP a.c_ false
 lN : zzK K a.aP a.aP true
 mO : zzK K a.aP a.aT false
 m_ : zzK K a.aP a.aU false
 lD : zzK K a.aP a.aN false
 kj : zzK K a.aP a.bG false
 lU : zzK K a.aP a.aG false
 mG : zzK K a.aP a.cz false
 pK : zzK K a.aP a.bc false
 jx : rT K (.ref a.aP) (.type "ValueError") = some true
 AF : zzX K a.aT
 A8 : cN K a.aT
 ko : ZZ K (.ref a.aT) (.ref a.bt) = some true
 lm : zzK K a.aT a.aI false
 mD : zzK K a.aT a.bT false
 jw : zzK K a.aT a.az false
 pJ : zzK K a.aT a.c_ false
 nD : zzK K a.aT a.aP false
 oj : zzK K a.aT a.aT true
 nN : zzK K a.aT a.aU false
 mP : zzK K a.aT a.aN false
 lE : zzK K a.aT a.bG false
 mW : zzK K a.aT a.aG false
 og : zzK K a.aT a.cz false
 qB : zzK K a.aT a.bc false
 jy : rT K (.ref a.aT) (.type "ValueError") = some true
 AB : zzX K a.aU
 AV : cN K a.aU
 kf : ZZ K (.ref a.aU) (.ref a.bt) = some true
 lT : zzK K a.aU a.aI false
 nu : zzK K a.aU a.bT false
 jq : zzK K a.aU a.az false
 pY : zzK K a.aU a.c_ false
 mE : zzK K a.aU a.aP false
 oJ : zzK K a.aU a.aT false
 oC : zzK K a.aU a.aU true
 mL : zzK K a.aU a.aN false
 lu : zzK K a.aU a.bG false
 mH : zzK K a.aU a.aG false
 nP : zzK K a.aU a.cz false
 qw : zzK K a.aU a.bc false
 kL : rT K (.ref a.aU) (.type "ValueError") = some true
 rp : zzX K a.aN
 yx : cN K a.aN
 jj : ZZ K (.ref a.aN) (.ref a.bt) = some true
 j6 : zzK K a.aN a.aI false
 lB : zzK K a.aN a.bT false
 ij : zzK K a.aN a.az false
 pc : zzK K a.aN a.c_ false
 lI : zzK K a.aN a.aP false
 mz : zzK K a.aN a.aT false
 m6 : zzK K a.aN a.aU false
 lG : zzK K a.aN a.aN true
 jS : zzK K a.aN a.bG false
 lq : zzK K a.aN a.aG false
 mR : zzK K a.aN a.cz false
 pe : zzK K a.aN a.bc false
 js : rT K (.ref a.aN) (.type "ValueError") = some true
 yJ : zzX K a.aG
 yo : cN K a.aG
 ji : ZZ K (.ref a.aG) (.ref a.bt) = some true
 jJ : zzK K a.aG a.aI false
 lO : zzK K a.aG a.bT false
 iK : zzK K a.aG a.az false
 oM : zzK K a.aG a.c_ false
 lJ : zzK K a.aG a.aP false
 mV : zzK K a.aG a.aT false
 nF : zzK K a.aG a.aU false
 lM : zzK K a.aG a.aN false
 j4 : zzK K a.aG a.bG false
 lQ : zzK K a.aG a.aG true
 nB : zzK K a.aG a.cz false
 pq : zzK K a.aG a.bc false
 jm : rT K (.ref a.aG) (.type "ValueError") = some true
 Dm : zzX K a.bc
 DX : cN K a.bc
 mK : ZZ K (.ref a.bc) (.ref a.bt) = some true
 oU : zzK K a.bc a.aI false
 ph : zzK K a.bc a.bT false
 lL : zzK K a.bc a.az false
 sO : zzK K a.bc a.c_ false
 px : zzK K a.bc a.aP false
 qy : zzK K a.bc a.aT false
 qL : zzK K a.bc a.aU false
 pv : zzK K a.bc a.aN false
 n_ : zzK K a.bc a.bG false
 pA : zzK K a.bc a.aG false
 qC : zzK K a.bc a.cz false
 t0 : zzK K a.bc a.bc true
 mQ : rT K (.ref a.bc) (.type "ValueError") = some true
 wc : mg "ValueError" = none
 zH : mg "all" = none
 Bs : mg "bool" = none
 kA : mg "enumerate" = none
 EC : mg "int" = none
 aF : mg "isinstance" = none
 lX : mg "len" = none
 gL : mg "list" = none
 G9 : mg "max" = none
 GI : mg "min" = none
 iM : mg "range" = none
 oE : mg "sorted" = none
 zm : mg "str" = none
 wJ : mg "sum" = none
 qQ : mg "tuple" = none
theorem tR : Zq "ValueError" = some (.type "ValueError") := by decide +kernel
theorem wB : Zq "all" = some (.builtin "all") := by decide +kernel
theorem zD : Zq "bool" = some (.type "bool") := by decide +kernel
theorem Bu : Zq "int" = some (.type "int") := by decide +kernel
theorem aC : Zq "isinstance" = some (.builtin "isinstance") := by decide +kernel
theorem gN : Zq "len" = some (.builtin "len") := by decide +kernel
theorem d_ : Zq "list" = some (.type "list") := by decide +kernel
theorem Fz : Zq "max" = some (.builtin "max") := by decide +kernel
theorem FN : Zq "min" = some (.builtin "min") := by decide +kernel
theorem lc : Zq "sorted" = some (.builtin "sorted") := by decide +kernel
theorem wE : Zq "str" = some (.type "str") := by decide +kernel
theorem rA : Zq "sum" = some (.builtin "sum") := by decide +kernel
theorem oW : Zq "tuple" = some (.type "tuple") := by decide +kernel
local macro_rules | `(tactic| walk_at "cq") => `(tactic| exact ⟨rfl, by decide +kernel, rfl, by decide +kernel, rfl, eD rfl, rfl, bp rfl, bp (k := fun y => Zk y _) rfl, eC rfl⟩)
local macro_rules | `(tactic| walk_at "sc") => `(tactic| exact ⟨rfl, rfl, rfl, by decide +kernel, rfl, by decide +kernel, by decide +kernel⟩)
section
variable {K : W.Frag} {f : Addr} {fd : FuncData}
theorem xn : aK ["thing"] ["thing"] (af dt) := by walk_at "sc"
theorem xu (F : Fun K "is_whole" "is_whole" dt f fd) : Binds K fd ["thing"] [] := F.binds fun _ _ _ _ _ _ us hl => by obtain ⟨_, rfl⟩ := ex1 hl; rfl
theorem ya : aK ["thing", "least", "most"] ["thing", "least", "most"] (af dq) := by walk_at "sc"
theorem jY (F : Fun K "is_among" "is_among" dq f fd) : Binds K fd ["thing", "least", "most"] [] := F.binds fun _ _ _ _ _ _ us hl => by obtain ⟨_, _, _, rfl⟩ := ex3 hl; rfl
theorem vy : aK ["text", "least", "most"] ["text", "least", "most"] (af cV) := by walk_at "sc"
theorem nI (F : Fun K "signs_lie" "signs_lie" cV f fd) : Binds K fd ["text", "least", "most"] [] := F.binds fun _ _ _ _ _ _ us hl => by obtain ⟨_, _, _, rfl⟩ := ex3 hl; rfl
theorem yj : aK ["thing"] ["thing"] (af dZ) := by walk_at "sc"
theorem rb (F : Fun K "is_name" "is_name" dZ f fd) : Binds K fd ["thing"] [] := F.binds fun _ _ _ _ _ _ us hl => by obtain ⟨_, rfl⟩ := ex1 hl; rfl
theorem xT : aK ["thing"] ["thing"] (af dv) := by walk_at "sc"
theorem yd (F : Fun K "is_month" "is_month" dv f fd) : Binds K fd ["thing"] [] := F.binds fun _ _ _ _ _ _ us hl => by obtain ⟨_, rfl⟩ := ex1 hl; rfl
theorem vI : aK ["thing"] ["thing"] (af c8) := by walk_at "sc"
theorem vm (F : Fun K "is_amount" "is_amount" c8 f fd) : Binds K fd ["thing"] [] := F.binds fun _ _ _ _ _ _ us hl => by obtain ⟨_, rfl⟩ := ex1 hl; rfl
theorem sE : aK ["thing"] ["thing"] (af cr) := by walk_at "sc"
theorem sP (F : Fun K "is_currency" "is_currency" cr f fd) : Binds K fd ["thing"] [] := F.binds fun _ _ _ _ _ _ us hl => by obtain ⟨_, rfl⟩ := ex1 hl; rfl
theorem vZ : aK ["names"] ["names"] (af cZ) := by walk_at "sc"
theorem wf (F : Fun K "are_names" "are_names" cZ f fd) : Binds K fd ["names"] [] := F.binds fun _ _ _ _ _ _ us hl => by obtain ⟨_, rfl⟩ := ex1 hl; rfl
theorem yl : aK ["thing"] ["thing"] (af d7) := by walk_at "sc"
theorem yV (F : Fun K "is_path" "is_path" d7 f fd) : Binds K fd ["thing"] [] := F.binds fun _ _ _ _ _ _ us hl => by obtain ⟨_, rfl⟩ := ex1 hl; rfl
theorem rD : aK ["thing"] ["thing"] (af cv) := by walk_at "sc"
theorem rg (F : Fun K "are_weights" "are_weights" cv f fd) : Binds K fd ["thing"] [] := F.binds fun _ _ _ _ _ _ us hl => by obtain ⟨_, rfl⟩ := ex1 hl; rfl
theorem uN : aK ["amount", "weights", "whole", "parts", "rests", "wanted", "served", "rest", "place"] ["amount", "weights"] (af fR) := by walk_at "sc"
theorem vc (F : Fun K "shared" "shared" fR f fd) : Binds K fd ["amount", "weights"] [] := F.binds fun _ _ _ _ _ _ us hl => by obtain ⟨_, _, rfl⟩ := ex2 hl; rfl
theorem s_ : aK ["first", "last"] ["first", "last"] (af cH) := by walk_at "sc"
theorem tU (F : Fun K "are_months" "are_months" cH f fd) : Binds K fd ["first", "last"] [] := F.binds fun _ _ _ _ _ _ us hl => by obtain ⟨_, _, rfl⟩ := ex2 hl; rfl
theorem qN : aK ["_law_script", "_law_k"] ["_law_script", "_law_k"] (af bR) := by walk_at "sc"
theorem qA (F : Fun K "_law_cell_at" "_law_cell_at" bR f fd) : Binds K fd ["_law_script", "_law_k"] [] := F.binds fun _ _ _ _ _ _ us hl => by obtain ⟨_, _, rfl⟩ := ex2 hl; rfl
theorem tL : aK ["_law_cell", "_law_k"] ["_law_cell", "_law_k"] (af cD) := by walk_at "sc"
theorem dj (F : Fun K "_law_mixed" "_law_mixed" cD f fd) : Binds K fd ["_law_cell", "_law_k"] [] := F.binds fun _ _ _ _ _ _ us hl => by obtain ⟨_, _, rfl⟩ := ex2 hl; rfl
theorem tO : aK ["_law_found"] ["_law_found"] (af cB) := by walk_at "sc"
theorem sZ (F : Fun K "_law_whole" "_law_whole" cB f fd) : Binds K fd ["_law_found"] [] := F.binds fun _ _ _ _ _ _ us hl => by obtain ⟨_, rfl⟩ := ex1 hl; rfl
theorem lV : aK ["_law_cell", "_law_letters", "_law_size", "_law_step", "_law_word_here", "_law_at", "_law_names_here", "_law_whole_here", "_law_k", "_law_sign"] ["_law_cell"] (af cK) := by walk_at "sc"
theorem tJ (F : Fun K "_law_names" "_law_names" cK f fd) : Binds K fd ["_law_cell"] [] := F.binds fun _ _ _ _ _ _ us hl => by obtain ⟨_, rfl⟩ := ex1 hl; rfl
theorem gY : aK ["_law_cell", "_law_letters"] ["_law_cell"] (af bL) := by walk_at "sc"
theorem qa (F : Fun K "_law_currency" "_law_currency" bL f fd) : Binds K fd ["_law_cell"] [] := F.binds fun _ _ _ _ _ _ us hl => by obtain ⟨_, rfl⟩ := ex1 hl; rfl
theorem iT : aK ["_law_cell", "_law_many", "_law_weights_here", "_law_k", "_law_one"] ["_law_cell", "_law_many"] (af bW) := by walk_at "sc"
theorem qO (F : Fun K "_law_weights" "_law_weights" bW f fd) : Binds K fd ["_law_cell", "_law_many"] [] := F.binds fun _ _ _ _ _ _ us hl => by obtain ⟨_, _, rfl⟩ := ex2 hl; rfl
theorem tE : aK ["_law_cell"] ["_law_cell"] (af cL) := by walk_at "sc"
theorem tP (F : Fun K "_law_total" "_law_total" cL f fd) : Binds K fd ["_law_cell"] [] := F.binds fun _ _ _ _ _ _ us hl => by obtain ⟨_, rfl⟩ := ex1 hl; rfl
theorem lW : aK ["_law_cell", "_law_names_here", "_law_many", "_law_first", "_law_path", "_law_currency_here", "_law_total_here", "_law_name"] ["_law_cell", "_law_names_here"] (af bv) := by walk_at "sc"
theorem t8 (F : Fun K "_law_terms" "_law_terms" bv f fd) : Binds K fd ["_law_cell", "_law_names_here"] [] := F.binds fun _ _ _ _ _ _ us hl => by obtain ⟨_, _, rfl⟩ := ex2 hl; rfl
theorem qg : aK ["_law_way", "_law_terms_here", "_law_cell", "_law_far", "_law_many", "_law_at", "_law_some", "_law_thing"] ["_law_way", "_law_terms_here", "_law_cell"] (af bB) := by walk_at "sc"
theorem xi (F : Fun K "_law_odd" "_law_odd" bB f fd) : Binds K fd ["_law_way", "_law_terms_here", "_law_cell"] [] := F.binds fun _ _ _ _ _ _ us hl => by obtain ⟨_, _, _, rfl⟩ := ex3 hl; rfl
theorem ou : aK ["_law_e", "_law_kinds", "_law_others"] ["_law_e"] (af cA) := by walk_at "sc"
theorem iw (F : Fun K "_law_word" "_law_word" cA f fd) : Binds K fd ["_law_e"] [] := F.binds fun _ _ _ _ _ _ us hl => by obtain ⟨_, rfl⟩ := ex1 hl; rfl
theorem jF : aK ["_law_terms_here", "_law_cell", "_law_ways", "_law_words", "_law_old", "_law_way", "_law_at", "_law_thing", "_law_word_here"] ["_law_terms_here", "_law_cell"] (af bE) := by walk_at "sc"
theorem sT (F : Fun K "_law_spoilt" "_law_spoilt" bE f fd) : Binds K fd ["_law_terms_here", "_law_cell"] [] := F.binds fun _ _ _ _ _ _ us hl => by obtain ⟨_, _, rfl⟩ := ex2 hl; rfl
theorem qp : aK ["_law_budgets", "_law_terms_here", "_law_handed", "_law_word_here", "_law_e"] ["_law_budgets", "_law_terms_here"] (af bP) := by walk_at "sc"
theorem xb (F : Fun K "_law_put" "_law_put" bP f fd) : Binds K fd ["_law_budgets", "_law_terms_here"] [] := F.binds fun _ _ _ _ _ _ us hl => by obtain ⟨_, _, rfl⟩ := ex2 hl; rfl
theorem iS : aK ["_law_budgets", "_law_name", "_law_way", "_law_e"] ["_law_budgets", "_law_name", "_law_way"] (af bY) := by walk_at "sc"
theorem i9 (F : Fun K "_law_refusal" "_law_refusal" bY f fd) : Binds K fd ["_law_budgets", "_law_name", "_law_way"] [] := F.binds fun _ _ _ _ _ _ us hl => by obtain ⟨_, _, _, rfl⟩ := ex3 hl; rfl
theorem mi : aK ["_law_cell", "_law_terms_here", "_law_some"] ["_law_cell", "_law_terms_here"] (af cE) := by walk_at "sc"
theorem tj (F : Fun K "_law_month" "_law_month" cE f fd) : Binds K fd ["_law_cell", "_law_terms_here"] [] := F.binds fun _ _ _ _ _ _ us hl => by obtain ⟨_, _, rfl⟩ := ex2 hl; rfl
theorem iX : aK ["_law_budgets", "_law_name", "_law_turn", "_law_k"] ["_law_budgets", "_law_name", "_law_turn"] (af bU) := by walk_at "sc"
theorem i8 (F : Fun K "_law_is_none" "_law_is_none" bU f fd) : Binds K fd ["_law_budgets", "_law_name", "_law_turn"] [] := F.binds fun _ _ _ _ _ _ us hl => by obtain ⟨_, _, _, rfl⟩ := ex3 hl; rfl
theorem i7 : aK ["_law_budgets", "_law_name", "_law_month_here", "_law_turn", "_law_answers_here", "_law_way"] ["_law_budgets", "_law_name", "_law_month_here", "_law_turn"] (af bQ) := by walk_at "sc"
theorem qJ (F : Fun K "_law_answers" "_law_answers" bQ f fd) : Binds K fd ["_law_budgets", "_law_name", "_law_month_here", "_law_turn"] [] := F.binds fun _ _ _ _ _ _ us hl => by obtain ⟨_, _, _, _, rfl⟩ := ex4 hl; rfl
theorem oy : aK ["_law_budgets", "_law_rows", "_law_name", "_law_cell", "_law_terms_here", "_law_month_here", "_law_told_here", "_law_one", "_law_together", "_law_first_ones", "_law_shares", "_law_here", "_law_early", "_law_k", "_law_part"] ["_law_budgets", "_law_rows", "_law_name", "_law_cell"] (af cg) := by walk_at "sc"
theorem v_ (F : Fun K "_law_told" "_law_told" cg f fd) : Binds K fd ["_law_budgets", "_law_rows", "_law_name", "_law_cell"] [] := F.binds fun _ _ _ _ _ _ us hl => by obtain ⟨_, _, _, _, rfl⟩ := ex4 hl; rfl
theorem fo : aK ["_law_budgets", "_law_rows", "_law_held", "_law_due", "_law_found"] ["_law_budgets", "_law_rows", "_law_held"] (af bb) := by walk_at "sc"
theorem mU (F : Fun K "_law_names_told" "_law_names_told" bb f fd) : Binds K fd ["_law_budgets", "_law_rows", "_law_held"] [] := F.binds fun _ _ _ _ _ _ us hl => by obtain ⟨_, _, _, rfl⟩ := ex3 hl; rfl
theorem nY : aK ["_law_both", "_law_rows", "_law_held"] ["_law_both", "_law_rows", "_law_held"] (af bC) := by walk_at "sc"
theorem nW (F : Fun K "_law_all_names" "_law_all_names" bC f fd) : Binds K fd ["_law_both", "_law_rows", "_law_held"] [] := F.binds fun _ _ _ _ _ _ us hl => by obtain ⟨_, _, _, rfl⟩ := ex3 hl; rfl
theorem jb : aK ["_law_budgets", "_law_terms_here", "_law_weights_here", "_law_e"] ["_law_budgets", "_law_terms_here", "_law_weights_here"] (af bS) := by walk_at "sc"
theorem qD (F : Fun K "_law_word_of" "_law_word_of" bS f fd) : Binds K fd ["_law_budgets", "_law_terms_here", "_law_weights_here"] [] := F.binds fun _ _ _ _ _ _ us hl => by obtain ⟨_, _, _, rfl⟩ := ex3 hl; rfl
theorem jD : aK ["_law_budgets", "_law_rows", "_law_terms_here", "_law_handed", "_law_due"] ["_law_budgets", "_law_rows", "_law_terms_here"] (af bF) := by walk_at "sc"
theorem rM (F : Fun K "_law_mended" "_law_mended" bF f fd) : Binds K fd ["_law_budgets", "_law_rows", "_law_terms_here"] [] := F.binds fun _ _ _ _ _ _ us hl => by obtain ⟨_, _, _, rfl⟩ := ex3 hl; rfl
theorem n9 : aK ["_law_budgets", "_law_rows", "_law_names_here", "_law_cell", "_law_name", "_law_word_here", "_law_terms_here", "_law_due"] ["_law_budgets", "_law_rows", "_law_names_here", "_law_cell"] (af bd) := by walk_at "sc"
theorem vS (F : Fun K "_law_done" "_law_done" bd f fd) : Binds K fd ["_law_budgets", "_law_rows", "_law_names_here", "_law_cell"] [] := F.binds fun _ _ _ _ _ _ us hl => by obtain ⟨_, _, _, _, rfl⟩ := ex4 hl; rfl
theorem Bx : aK ["_law_script", "_law_names_here", "_law_both", "_law_rows", "_law_held", "_law_k", "_law_at", "_law_cell", "_law_one", "_law_other", "_law_turn", "_law_name", "_law_odd_here"] ["_law_script"] (af dD) := by walk_at "sc"
theorem mB : aK ["self", "agreed", "parts"] ["self", "agreed", "parts"] (af bx) := by walk_at "sc"
theorem m7 (F : Fun K "__init__" "Budget.__init__" bx f fd) : Binds K fd ["self", "agreed", "parts"] [] := F.binds fun _ _ _ _ _ _ us hl => by obtain ⟨_, _, _, rfl⟩ := ex3 hl; rfl
theorem lp : aK ["self"] ["self"] (af bj) := by walk_at "sc"
theorem lS (F : Fun K "__init__" "Budgets.__init__" bj f fd) : Binds K fd ["self"] [] := F.binds fun _ _ _ _ _ _ us hl => by obtain ⟨_, rfl⟩ := ex1 hl; rfl
theorem jA : aK ["self", "name", "path", "currency", "first", "last", "total", "weights", "parts"] ["self", "name", "path", "currency", "first", "last", "total", "weights"] (af cq) := by walk_at "sc"
theorem jO (F : Fun K "put" "Budgets.put" cq f fd) : Binds K fd ["self", "name", "path", "currency", "first", "last", "total", "weights"] [] := F.binds fun _ _ _ _ _ _ us hl => by obtain ⟨_, _, _, _, _, _, _, _, rfl⟩ := ex8 hl; rfl
theorem oO : aK ["self", "name"] ["self", "name"] (af bD) := by walk_at "sc"
theorem dQ (F : Fun K "budget" "Budgets.budget" bD f fd) : Binds K fd ["self", "name"] [] := F.binds fun _ _ _ _ _ _ us hl => by obtain ⟨_, _, rfl⟩ := ex2 hl; rfl
theorem qE : aK ["self", "name"] ["self", "name"] (af bV) := by walk_at "sc"
theorem jf (F : Fun K "drop" "Budgets.drop" bV f fd) : Binds K fd ["self", "name"] [] := F.binds fun _ _ _ _ _ _ us hl => by obtain ⟨_, _, rfl⟩ := ex2 hl; rfl
theorem pM : aK ["self"] ["self"] (af bK) := by walk_at "sc"
theorem pd (F : Fun K "names" "Budgets.names" bK f fd) : Binds K fd ["self"] [] := F.binds fun _ _ _ _ _ _ us hl => by obtain ⟨_, rfl⟩ := ex1 hl; rfl
theorem pG : aK ["self", "name"] ["self", "name"] (af bM) := by walk_at "sc"
theorem hZ (F : Fun K "terms" "Budgets.terms" bM f fd) : Binds K fd ["self", "name"] [] := F.binds fun _ _ _ _ _ _ us hl => by obtain ⟨_, _, rfl⟩ := ex2 hl; rfl
theorem m5 : aK ["self", "name", "month"] ["self", "name", "month"] (af br) := by walk_at "sc"
theorem eY (F : Fun K "planned" "Budgets.planned" br f fd) : Binds K fd ["self", "name", "month"] [] := F.binds fun _ _ _ _ _ _ us hl => by obtain ⟨_, _, _, rfl⟩ := ex3 hl; rfl
theorem dY : aK ["self", "name", "month", "budget"] ["self", "name", "month"] (af be) := by walk_at "sc"
theorem cM (F : Fun K "planned_by" "Budgets.planned_by" be f fd) : Binds K fd ["self", "name", "month"] [] := F.binds fun _ _ _ _ _ _ us hl => by obtain ⟨_, _, _, rfl⟩ := ex3 hl; rfl
end
seal L2.PE L2.PT L2.PW L2.PA L2.PS L2.PSs L2.PI L2.PG L2.PGs L2.PO
local macro_rules | `(tactic| walk_at "rd") => `(tactic| try simp only [Cj, rdI, V.int.injEq, V.ref.injEq, zG, BC, zZ, zI, Bi, Bb, CP, BI, Cr, L2.eF, ud, List.map_nil, Z9, List.nil_append, YV, ql, Y2, vd, List.getElem?_cons_zero, List.getElem?_cons_succ, List.set_cons_zero, List.set_cons_succ, Nat.reduceSub, Nat.reduceAdd, Int.reduceLT, Int.reduceLE, Int.reducePow, Int.reduceNeg, Nat.reducePow, List.cons.injEq, exists_eq_left', exists_eq_left, eq_self, if_false, if_true, ↓reduceIte, ite_not, forall_const, Option.bind_some, id_eq, BA, y0, Ck, vO, vD, sp8, yW, BF])
local macro_rules | `(tactic| walk_at "om") => `(tactic| first | exact sC (by decide) (by assumption : 1000 <= sizeLine) | omega)
section
variable {pS : Addr} {ns : List Int} {P : Program} {w : World} {K : W.Frag} {mg : Str -> Option Value} {base : Heap} {a : Adr}
theorem szl : 1000 <= sizeLine := by rw [uT]; decide
theorem HI : 1000 < sizeLine := by rw [uT]; decide
theorem itp {c : Prop} [Decidable c] {t e : Prop} (h : c) (x : t) : ite c t e := by rw [if_pos h]; exact x
theorem itn {c : Prop} [Decidable c] {t e : Prop} (h : ¬ c) (x : e) : ite c t e := by rw [if_neg h]; exact x
def sp_fZ : Sp := sp1 fun x H Q _ => NoT H /\ asK H x fun _ => Q (.bl (isI x)) H
theorem wP (T : Txt K mg a) : bz P w K mg base (XE P w) 1 a.m9 a.qr ["thing"] sp_fZ := by
 refine T.nc.okG xn (fun vs H Q E h => sp1.len h) (fun cdv A outer s H vs Q E hr h => ?_)
 obtain ⟨x0, rfl, h⟩ := sp1.inv h
 try dsimp only [sp_fZ, sp1] at h
 obtain ⟨hN, h1⟩ := h
 obtain ⟨t, ht, hb, k⟩ := asK.inv h1
 refine ⟨hN, _, (aj (aD (dS (aB (bg K) rfl T.aF aC (FA.pa (aa (fv 0) (aa (cF (v := .ty "int") rfl T.EC Bu rfl) ad)))) (eO (Bn (aB (bg K) rfl T.aF aC (FA.pa (aa (fv 0) (aa (cF (v := .ty "bool") rfl T.Bs zD rfl) ad))))))))), ?_⟩
 walk_at "rd"
 simp only [ht]
 rw [<- xF ht] at k
 rcases hb with rfl | rfl | rfl | rfl | rfl | rfl | rfl
 all_goals first
  | exact Cy k
  | exact wU k
theorem tK (T : Txt K mg a) : bz P w K mg base (XE P w) 1 a.ie a.md ["_law_found"] sp_fZ := by
 refine T.eU.okG tO (fun vs H Q E h => sp1.len h) (fun cdv A outer s H vs Q E hr h => ?_)
 obtain ⟨x0, rfl, h⟩ := sp1.inv h
 try dsimp only [sp_fZ, sp1] at h
 obtain ⟨hN, h1⟩ := h
 obtain ⟨t, ht, hb, k⟩ := asK.inv h1
 refine ⟨hN, _, (aj (aD (dS (aB (bg K) rfl T.aF aC (FA.pa (aa (fv 0) (aa (cF (v := .ty "int") rfl T.EC Bu rfl) ad)))) (eO (Bn (aB (bg K) rfl T.aF aC (FA.pa (aa (fv 0) (aa (cF (v := .ty "bool") rfl T.Bs zD rfl) ad))))))))), ?_⟩
 walk_at "rd"
 simp only [ht]
 rw [<- xF ht] at k
 rcases hb with rfl | rfl | rfl | rfl | rfl | rfl | rfl
 all_goals first
  | exact Cy k
  | exact wU k
def amg (x : V) (lo hi : Int) : Bool := match x with
 | .int i => decide (lo <= i) && decide (i <= hi)
 | _ => false
theorem DA {x : V} {lo hi : Int} (h : isI x = false) : amg x lo hi = false := by
 unfold amg
 split
 ·cases h
 ·rfl
def sp_qc : Sp := sp3 fun x y z H Q _ => NoT H /\ asI y fun lo => asI z fun hi => asK H x fun _ => Q (.bl (amg x lo hi)) H
theorem kh (T : Txt K mg a) : bz P w K mg base (XE P w) 2 a.ng a.qu ["thing", "least", "most"] sp_qc := by
 refine T.dm.okG ya (fun vs H Q E h => sp3.len h) (fun cdv A outer s H vs Q E hr h => ?_)
 obtain ⟨x0, x1, x2, rfl, h⟩ := sp3.inv h
 try dsimp only [sp_qc, sp3] at h
 obtain ⟨hN, h1⟩ := h
 obtain ⟨lo, rfl, h2⟩ := asI.inv h1
 obtain ⟨hi, rfl, h3⟩ := asI.inv h2
 obtain ⟨t, ht, hb, k⟩ := asK.inv h3
 have G_is_whole := @wP P w K mg base a T
 have b_is_whole := xu T.nc
 refine ⟨hN, _, (aj (aD (dS (au G_is_whole (hr.mono (by decide)) rfl T.ze T.nc.kp b_is_whole .nil aQ (FA.pa (aa (fv 0) ad))) (eO (kP i_ i_ (fv 1) (fv 0) (fv 2)))))), ?_⟩
 walk_at "rd"
 refine ⟨hN, asK.of ht ?_⟩
 cases e : isI x0 with
 | false =>
  rw [DA e] at k
  exact wU k
 | true =>
  cases x0 with
  | int i =>
   refine Cy ?_
   walk_at "rd"
   split
   ·rename_i h1
    have e : amg (.int i) lo hi = decide (i <= hi) := by simp [amg, h1]
    rw [e] at k; exact k
   ·rename_i h1
    have e : amg (.int i) lo hi = false := by simp [amg, h1]
    rw [e] at k; exact k
  | _ => cases e
theorem lb {x : V} {lo hi : Int} (h : amg x lo hi = true) : ∃ i, x = .int i /\ lo <= i /\ i <= hi := by
 unfold amg at h
 split at h
 ·rename_i i; simp at h; exact ⟨i, rfl, h.1, h.2⟩
 ·cases h
theorem Fw (a b : Nat) : leN [a] [b] = decide (a <= b) := by
 unfold leN
 have h : ([b] < [a]) ↔ b < a := by
  rw [List.cons_lt_cons_iff]; simp
 rw [decide_eq_decide.mpr h]
 by_cases h2 : b < a
 ·rw [decide_eq_true h2, decide_eq_false (by walk_at "om")]; rfl
 ·rw [decide_eq_false h2, decide_eq_true (by walk_at "om")]; rfl
local macro_rules | `(tactic| walk_at "rd") => `(tactic| try simp only [Cj, rdI, V.int.injEq, V.ref.injEq, zG, BC, zZ, zI, Bi, Bb, CP, BI, Cr, L2.eF, ud, List.map_nil, Z9, List.nil_append, YV, ql, Y2, vd, List.getElem?_cons_zero, List.getElem?_cons_succ, List.set_cons_zero, List.set_cons_succ, Nat.reduceSub, Nat.reduceAdd, Int.reduceLT, Int.reduceLE, Int.reducePow, Int.reduceNeg, Nat.reducePow, List.cons.injEq, exists_eq_left', exists_eq_left, eq_self, if_false, if_true, ↓reduceIte, ite_not, forall_const, Option.bind_some, id_eq, BA, y0, Ck, vO, vD, sp8, yW, BF, Fw])
def ok (l : List Nat) : Prop := (∀ c ∈ l, c < 128) /\ l.length <= 1000
theorem vi {l : List Nat} (h : ok l) : l.length <= sizeLine := sC h.2 (by rw [uT]; decide)
def lie (l : List Nat) (a b : Nat) : Bool := l.all fun c => decide (a <= c) && decide (c <= b)
def sp_nO : Sp := sp3 fun x y z H Q _ => NoT H /\ asT x fun l => asT y fun lo => asT z fun hi => ok l /\ ∃ a b, lo = [a] /\ hi = [b] /\ Q (.bl (lie l a b)) H
theorem oG (T : Txt K mg a) : bz P w K mg base (XE P w) 1 a.kc a.nR ["text", "least", "most"] sp_nO := by
 refine T.eE.okG vy (fun vs H Q E h => sp3.len h) (fun cdv A outer s H vs Q E hr h => ?_)
 obtain ⟨x0, x1, x2, rfl, h⟩ := sp3.inv h
 try dsimp only [sp_nO, sp3] at h
 obtain ⟨hN, h1⟩ := h
 obtain ⟨l, rfl, h2⟩ := asT.inv h1
 obtain ⟨lo, rfl, h3⟩ := asT.inv h2
 obtain ⟨hi, rfl, hl, a, b, rfl, rfl, k⟩ := asT.inv h3
 refine ⟨hN, _, (aj (aD (aB (q_ K rfl) rfl T.zH wB (FA.pa (aa (fL rfl (cl := _) (x := "sign") (xs := ["sign"]) (fr := ["least", "most"]) (ks := [1, 2]) (by walk_at "cq") rfl (FW (fv 0)) (fun _ _ _ _ _ => (a_ (i := 0) (kK (l := ["sign", "least", "most"]) (by decide)) rfl (Or.inl rfl))) (fun _ _ _ _ _ => eS) (fun _ _ _ _ _ => (kP i_ i_ (fv 1) (fv 0) (fv 2)))) ad))))), ?_⟩
 walk_at "rd"
 refine cmS (fun _ => True) (fun _ _ _ => trivial) l (fun _ => true) (fun c => .bl (decide (a <= c) && decide (c <= b))) (fun R r => r) hl.1 (vi hl) (fun c _ H R _ r => r) (fun c _ _ H R _ r => ?_) (fun D hD => ?_)
 ·walk_at "rd"
  by_cases h1 : a <= c
  ·simp only [h1, decide_true, YC] at r |-
   exact r
  ·simp only [h1, decide_false, Bool.false_and] at r |-
   exact r
 ·refine ⟨l.map fun c => decide (a <= c) && decide (c <= b), SqL.of (by rw [al, ZU.mpr (by simp), uY]; rfl), H, Gc.none (aJ _ hD), ?_⟩
  have e : (l.map fun c => decide (a <= c) && decide (c <= b)).all id = lie l a b := by
   rw [Yq]; rfl
  rw [e]; exact k
theorem qR {H : Hp} {x : V} {t : String} (ht : aZ H x = some t) (h : ¬ ∃ l, x = .str ⟨⟨l⟩⟩) : bJ t "str" = false := by
 unfold aZ at ht
 split at ht
 case h_4 y => exact absurd ⟨y.cps.toList, rfl⟩ h
 case h_5 => split at ht <;> cases ht <;> decide
 all_goals (cases ht <;> decide)
def okV (x : V) : Prop := ∀ l, x = .str ⟨⟨l⟩⟩ -> ok l
def nm (l : List Nat) : Bool := decide (1 <= l.length) && decide (l.length <= 12) && lie l 97 122
def nameV : V -> Bool
 | .str y => nm (cs y)
 | _ => false
def sp_sV : Sp := sp1 fun x H Q _ => NoT H /\ okV x /\ asK H x fun _ => Q (.bl (nameV x)) H
theorem rY (T : Txt K mg a) : bz P w K mg base (XE P w) 2 a.py a.rK ["thing"] sp_sV := by
 refine T.gX.okG yj (fun vs H Q E h => sp1.len h) (fun cdv A outer s H vs Q E hr h => ?_)
 obtain ⟨x0, rfl, h⟩ := sp1.inv h
 try dsimp only [sp_sV, sp1] at h
 obtain ⟨hN, ho, h1⟩ := h
 obtain ⟨t, ht, hb, k⟩ := asK.inv h1
 have G_signs_lie := @oG P w K mg base a T
 have b_signs_lie := nI T.eE
 refine ⟨hN, _, (aj (aD (dS (aB (bg K) rfl T.aF aC (FA.pa (aa (fv 0) (aa (cF (v := .ty "str") rfl T.zm wE rfl) ad)))) (dS (kP i_ i_ ac (aB (eh K) rfl T.lX gN (FA.pa (aa (fv 0) ad))) ac) (eO (au G_signs_lie (hr.mono (by decide)) rfl T.qo T.eE.kp b_signs_lie .nil aQ (FA.pa (aa (fv 0) (aa (aq [97]) (aa (aq [122]) ad)))))))))), ?_⟩
 by_cases hx : ∃ l, x0 = .str ⟨⟨l⟩⟩
 ·obtain ⟨l, rfl⟩ := hx
  have hl := ho l rfl
  have k' : Q (.bl (nm l)) H := k
  cases ht
  walk_at "rd"
  refine ⟨vi hl, ?_⟩
  split
  ·rename_i h1
   split
   ·rename_i h2
    have e : nm l = lie l 97 122 := by
     unfold nm; rw [decide_eq_true (by walk_at "om"), decide_eq_true (by walk_at "om")]; rfl
    rw [e] at k'
    exact ⟨hN, hl, 97, 122, rfl, rfl, k'⟩
   ·rename_i h2
    have e : nm l = false := by
     unfold nm; rw [decide_eq_false (by walk_at "om" : ¬ l.length <= 12)]; simp
    rw [e] at k'; exact k'
  ·rename_i h1
   have e : nm l = false := by
    unfold nm; rw [decide_eq_false (by walk_at "om" : ¬ 1 <= l.length)]; simp
   rw [e] at k'; exact k'
 ·have e := qR ht hx
  have e2 : nameV x0 = false := by
   cases x0 with
   | str y => exact absurd ⟨y.cps.toList, rfl⟩ hx
   | _ => rfl
  rw [e2] at k
  walk_at "rd"
  simp only [ht]
  rw [e]
  exact wU k
def cur (l : List Nat) : Bool := decide (l.length = 3) && lie l 65 90
def sM : V -> Bool
 | .str y => cur (cs y)
 | _ => false
theorem BE {x : V} (h : ¬ ∃ l, x = .str ⟨⟨l⟩⟩) : sM x = false := by
 cases x with
 | str y => exact absurd ⟨y.cps.toList, rfl⟩ h
 | _ => rfl
theorem CG {x : V} (h : sM x = true) : ∃ l, x = L2.T l /\ cur l = true := by
 cases x with
 | str y => exact ⟨y.cps.toList, rfl, h⟩
 | _ => cases h
def sp_ud : Sp := sp1 fun x H Q _ => NoT H /\ okV x /\ asK H x fun _ => Q (.bl (sM x)) H
theorem rQ (T : Txt K mg a) : bz P w K mg base (XE P w) 2 a.gU a.j8 ["thing"] sp_ud := by
 refine T.gF.okG sE (fun vs H Q E h => sp1.len h) (fun cdv A outer s H vs Q E hr h => ?_)
 obtain ⟨x0, rfl, h⟩ := sp1.inv h
 try dsimp only [sp_ud, sp1] at h
 have HU := bA hr
 obtain ⟨hN, ho, h1⟩ := h
 obtain ⟨t, ht, hb, k⟩ := asK.inv h1
 have G_signs_lie := @oG P w K mg base a T
 have b_signs_lie := nI T.eE
 refine ⟨hN, _, (aj (aD (dS (aB (bg K) rfl T.aF aC (FA.pa (aa (fv 0) (aa (cF (v := .ty "str") rfl T.zm wE rfl) ad)))) (dS (eg (bf K HU) (aB (eh K) rfl T.lX gN (FA.pa (aa (fv 0) ad))) ac (aW _)) (eO (au G_signs_lie (hr.mono (by decide)) rfl T.qo T.eE.kp b_signs_lie .nil aQ (FA.pa (aa (fv 0) (aa (aq [65]) (aa (aq [90]) ad)))))))))), ?_⟩
 by_cases hs : ∃ l, x0 = .str ⟨⟨l⟩⟩
 ·obtain ⟨l, rfl⟩ := hs
  have hl := ho l rfl
  have k' : Q (.bl (cur l)) H := k
  unfold cur at k'
  walk_at "rd"
  refine ⟨vi hl, ?_⟩
  split
  ·rename_i h1
   rw [decide_eq_true (by omega : l.length = 3)] at k'
   exact ⟨hN, hl, 65, 90, rfl, rfl, k'⟩
  ·rename_i h1
   rw [decide_eq_false (by omega : ¬ l.length = 3)] at k'
   exact k'
 ·rw [BE hs] at k
  walk_at "rd"
  simp only [ht, qR ht hs]
  first | exact k | exact wU k
theorem j3 {l : List Nat} (h : nm l = true) : 1 <= l.length /\ l.length <= 12 /\ ∀ c ∈ l, 97 <= c /\ c <= 122 := by
 unfold nm lie at h
 simp only [ZO, decide_eq_true_eq, u9] at h
 exact ⟨h.1.1, h.1.2, fun c hc => h.2 c hc⟩
def sp_nV : Sp := sp1 fun x H Q _ => NoT H /\ asK H x fun _ => Q (.bl (amg x (-1000000000000000) 1000000000000000)) H
theorem vX (T : Txt K mg a) : bz P w K mg base (XE P w) 3 a.jC a.pb ["thing"] sp_nV := by
 refine T.jU.okG vI (fun vs H Q E h => sp1.len h) (fun cdv A outer s H vs Q E hr h => ?_)
 obtain ⟨x0, rfl, h⟩ := sp1.inv h
 try dsimp only [sp_nV, sp1] at h
 obtain ⟨hN, h1⟩ := h
 have G_is_among := @kh P w K mg base a T
 have b_is_among := jY T.dm
 refine ⟨hN, _, (aj (aD (au G_is_among (hr.mono (by decide)) rfl T.nz T.dm.kp b_is_among .nil aQ (FA.pa (aa (fv 0) (aa (sy nE (ak dR ac ac)) (aa (ak dR ac ac) ad))))))), ?_⟩
 walk_at "rd"
 have e15 : (10 : Int) ^ YT 15 = 1000000000000000 := by decide +kernel
 rw [e15]
 exact ⟨by decide, by decide, hN, h1⟩
def sp_ql : Sp := sp1 fun x H Q _ => NoT H /\ asK H x fun _ => Q (.bl (amg x 0 4799)) H
theorem xR (T : Txt K mg a) : bz P w K mg base (XE P w) 3 a.mI a.qe ["thing"] sp_ql := by
 refine T.iy.okG xT (fun vs H Q E h => sp1.len h) (fun cdv A outer s H vs Q E hr h => ?_)
 obtain ⟨x0, rfl, h⟩ := sp1.inv h
 try dsimp only [sp_ql, sp1] at h
 obtain ⟨hN, h1⟩ := h
 have G_is_among := @kh P w K mg base a T
 have b_is_among := jY T.dm
 refine ⟨hN, _, (aj (aD (au G_is_among (hr.mono (by decide)) rfl T.nz T.dm.kp b_is_among .nil aQ (FA.pa (aa (fv 0) (aa ac (aa ac ad))))))), ?_⟩
 walk_at "rd"
 exact ⟨hN, h1⟩
def mns (x y : V) : Bool := amg x 0 4799 && amg y 0 4799 && match x, y with
 | .int i, .int j => decide (i <= j) && decide (j < i + 60)
 | _, _ => false
def sp_ue : Sp := sp2 fun x y H Q _ => NoT H /\ asK H x fun _ => asK H y fun _ => Q (.bl (mns x y)) H
theorem tD (T : Txt K mg a) : bz P w K mg base (XE P w) 4 a.iI a.mt ["first", "last"] sp_ue := by
 refine T.iD.okG s_ (fun vs H Q E h => sp2.len h) (fun cdv A outer s H vs Q E hr h => ?_)
 obtain ⟨x0, x1, rfl, h⟩ := sp2.inv h
 try dsimp only [sp_ue, sp2] at h
 obtain ⟨hN, h1⟩ := h
 obtain ⟨t, ht, hb, h2⟩ := asK.inv h1
 obtain ⟨u, hu, hc, k⟩ := asK.inv h2
 have G_is_month := @xR P w K mg base a T
 have b_is_month := yd T.iy
 refine ⟨hN, _, (aj (aD (dS (au G_is_month (hr.mono (by decide)) rfl T.rj T.iy.kp b_is_month .nil aQ (FA.pa (aa (fv 0) ad))) (dS (au G_is_month (hr.mono (by decide)) rfl T.rj T.iy.kp b_is_month .nil aQ (FA.pa (aa (fv 1) ad))) (eO (kP i_ EG (fv 0) (fv 1) (ak aY (fv 0) ac))))))), ?_⟩
 walk_at "rd"
 refine ⟨hN, asK.of ht ?_⟩
 unfold mns at k
 cases e1 : amg x0 0 4799 with
 | false => rw [e1] at k; exact wU k
 | true =>
 refine Cy ⟨hN, asK.of hu ?_⟩
 rw [e1] at k
 cases e2 : amg x1 0 4799 with
 | false => rw [e2] at k; exact wU k
 | true =>
 rw [e2] at k
 obtain ⟨i, rfl, i0, i1⟩ := lb e1
 obtain ⟨j, rfl, j0, j1⟩ := lb e2
 have k : Q (.bl (decide (i <= j) && decide (j < i + 60))) H := k
 refine Cy ?_
 walk_at "rd"
 by_cases h1 : i <= j
 ·rw [decide_eq_true h1] at k
  exact itp h1 k
 ·rw [decide_eq_false h1] at k
  exact itn h1 k
def sp_oF (K : W.Frag) : Sp := sp1 fun x H Q _ => asR x fun p => NoT H /\ ∃ xs, SqL K H p xs /\ xs.length <= 300 /\ (∀ y ∈ xs, okV y /\ ∃ t, aZ H y = some t) /\ Q (.bl (decide (1 <= xs.length) && decide (xs.length <= 6) && xs.all nameV)) H
theorem wa (T : Txt K mg a) : bz P w K mg base (XE P w) 3 a.jW a.oX ["names"] (sp_oF K) := by
 refine T.kF.okG vZ (fun vs H Q E h => sp1.len h) (fun cdv A outer s H vs Q E hr h => ?_)
 obtain ⟨x0, rfl, h⟩ := sp1.inv h
 try dsimp only [sp_oF, sp1] at h
 obtain ⟨p, rfl, hN, xs, hS, hl, hx, k⟩ := asR.inv h
 have G_is_name := @rY P w K mg base a T
 have b_is_name := rb T.gX
 refine ⟨hN, _, (aj (aD (dS (kP i_ i_ ac (aB (eh K) rfl T.lX gN (FA.pa (aa (fv 0) ad))) ac) (eO (aB (q_ K rfl) rfl T.zH wB (FA.pa (aa (fL rfl (cl := _) (x := "name") (xs := ["name"]) (fr := []) (ks := []) (by walk_at "cq") rfl (dG K (fv 0)) (fun _ _ _ _ _ => (a_ (i := 0) (kK (l := ["name"]) (by decide)) rfl (Or.inl rfl))) (fun _ _ _ _ _ => eS) (fun _ _ _ _ _ => (au G_is_name (hr.mono (by decide)) rfl T.uj T.gX.kp b_is_name .nil xD (FA.pa (aa (fv 0) ad))))) ad))))))), ?_⟩
 walk_at "rd"
 refine ⟨xs, .inl hS, ?_⟩
 have sz := szl
 split
 ·rename_i h1
  split
  ·rename_i h2
   have e : (decide (1 <= xs.length) && decide (xs.length <= 6) && xs.all nameV) = xs.all nameV := by
    rw [decide_eq_true (by walk_at "om"), decide_eq_true (by walk_at "om")]; rfl
   rw [e] at k
   refine cmL p xs (fun H' => NoT H' /\ SqL K H' p xs /\ Same H H') (fun D ys hD => ⟨aS hN rfl, hS.same (aJ _ hD), aJ _ hD⟩) (fun H' c => c.2.1) (fun _ => true) (fun x => .bl (nameV x)) (fun R r => r) hS (by walk_at "om") (fun x _ H' R _ r => r) (fun x hx' _ H' R c r => ?_) (fun D hD => ?_)
   ·obtain ⟨o1, t, o2⟩ := hx x hx'
    walk_at "rd"
    exact ⟨c.1, o1, asK.of (dC c.2.2 o2) r⟩
   ·refine ⟨xs.map nameV, SqL.of (by rw [al, ZU.mpr (by simp), uY]; rfl), H, Gc.none (aJ _ hD), ?_⟩
    rw [Yq]; exact k
  ·rename_i h2
   have e : (decide (1 <= xs.length) && decide (xs.length <= 6) && xs.all nameV) = false := by
    rw [decide_eq_false (by walk_at "om" : ¬ xs.length <= 6)]; simp
   rw [e] at k; exact k
 ·rename_i h1
  have e : (decide (1 <= xs.length) && decide (xs.length <= 6) && xs.all nameV) = false := by
   rw [decide_eq_false (by walk_at "om" : ¬ 1 <= xs.length)]; simp
  rw [e] at k; exact k
def uq (l : List Nat) : Bool := decide (1 <= (spN 58 l).length) && decide ((spN 58 l).length <= 6) && (spN 58 l).all nm
def je : V -> Bool
 | .str y => uq (cs y)
 | _ => false
def okP (x : V) : Prop := ∀ l, x = .str ⟨⟨l⟩⟩ -> (∀ c ∈ l, c < 128) /\ l.length <= 199
def sp_sC : Sp := sp1 fun x H Q _ => NoT H /\ okP x /\ asK H x fun _ => Q (.bl (je x)) H
theorem zb (T : Txt K mg a) : bz P w K mg base (XE P w) 4 a.pX a.rL ["thing"] sp_sC := by
 refine T.pO.okG yl (fun vs H Q E h => sp1.len h) (fun cdv A outer s H vs Q E hr h => ?_)
 obtain ⟨x0, rfl, h⟩ := sp1.inv h
 try dsimp only [sp_sC, sp1] at h
 obtain ⟨hN, ho, h1⟩ := h
 obtain ⟨t, ht, hb, k⟩ := asK.inv h1
 have G_are_names := @wa P w K mg base a T
 have b_are_names := wf T.kF
 refine ⟨hN, _, (aj (aD (dS (aB (bg K) rfl T.aF aC (FA.pa (aa (fv 0) (aa (cF (v := .ty "str") rfl T.zm wE rfl) ad)))) (eO (au G_are_names (hr.mono (by decide)) rfl T.xP T.kF.kp b_are_names .nil aQ (FA.pa (aa (d5 K YZ PySem.F.slot_str_split PySem.F.type_str_split BH (fv 0) (FA.pa (aa (aq [58]) ad))) ad))))))), ?_⟩
 by_cases hx : ∃ l, x0 = .str ⟨⟨l⟩⟩
 ·obtain ⟨l, rfl⟩ := hx
  have hl := ho l rfl
  have k' : Q (.bl (uq l)) H := k
  cases ht
  walk_at "rd"
  have sz := szl
  have sl := vj 58 l
  refine ⟨by walk_at "om", fun p hp => ⟨aS hN rfl, _, SqL.of al, by rw [zl]; omega, fun y hy => ?_, H, Gc.none (aJ _ hp), ?_⟩⟩
  ·obtain ⟨q, hq, rfl⟩ := Zp.mp hy
   obtain ⟨m1, m2⟩ := qW 58 l q hq
   exact ⟨fun l' e => by cases e; exact ⟨fun c hc => hl.1 c (m2 c hc), by walk_at "om"⟩, _, rfl⟩
  ·have e : (List.map L2.T (spN 58 l)).all nameV = (spN 58 l).all nm := by rw [Yq]; rfl
   rw [zl, e]; exact k'
 ·have e := qR ht hx
  have e2 : je x0 = false := by
   cases x0 with
   | str y => exact absurd ⟨y.cps.toList, rfl⟩ hx
   | _ => rfl
  rw [e2] at k
  walk_at "rd"
  simp only [ht]
  rw [e]
  exact wU k
open K5
theorem FL {b : Int} (h0 : 0 < b) (h : b < 10 ^ 60) : b.natAbs.log2 < 1000 := by
 have h1 : b.natAbs ≠ 0 := by omega
 refine (Nat.log2_lt h1).mpr (uW (show b.natAbs < 10 ^ 60 by omega) (by decide))
def wOk (xs : List V) : Bool := decide (1 <= xs.length) && decide (xs.length <= 60) && xs.all (fun x => amg x 0 1000000000) && decide (0 < (xs.map fun x => match x with | .int i => i | _ => 0).sum)
def sp_rT : Sp := sp1 fun x H Q _ => NoT H /\ ((∃ p xs, x = .ref p /\ H p = some (.lst xs) /\ xs.length <= 4000 /\ (∀ y ∈ xs, ∃ t, aZ H y = some t) /\ Q (.bl (wOk xs)) H) \/ (∃ t, aZ H x = some t /\ bJ t "list" = false /\ Q (.bl false) H))
theorem zt {xs : List V} (h : xs.all (fun x => amg x 0 1000000000) = true) : ∃ ws : List Int, xs = ws.map V.int /\ ∀ w ∈ ws, 0 <= w /\ w <= 1000000000 := by
 induction xs with
 | nil => exact ⟨[], rfl, by simp⟩
 | cons x xs ih =>
  rw [List.all_cons, ZO] at h
  obtain ⟨ws, e, b⟩ := ih h.2
  have h1 := h.1
  unfold amg at h1
  split at h1
  ·rename_i i
   simp at h1
   refine ⟨i :: ws, by rw [e]; rfl, fun w m => ?_⟩
   rcases ve.mp m with rfl | m
   ·exact h1
   ·exact b w m
  ·cases h1
theorem qT (ws : List Int) : ((ws.map V.int).map fun x => match x with | .int i => i | _ => 0).sum = ws.sum := by
 rw [uY]
 congr 1
 exact List.map_id' ws
theorem rP (T : Txt K mg a) : bz P w K mg base (XE P w) 3 a.gR a.kX ["thing"] sp_rT := by
 refine T.gQ.okG rD (fun vs H Q E h => sp1.len h) (fun cdv A outer s H vs Q E hr h => ?_)
 obtain ⟨x0, rfl, h⟩ := sp1.inv h
 try dsimp only [sp_rT, sp1] at h
 obtain ⟨hN, h1⟩ := h
 have G_is_among := @kh P w K mg base a T
 have b_is_among := jY T.dm
 refine ⟨hN, _, (ae (a9 (L2.PW.pt (qm (cw (bO (aB (bg K) rfl T.aF aC (FA.pa (aa (fv 0) (aa (cF (v := .ty "list") rfl T.gL d_ rfl) ad)))))) (mX (cw (CS i_ i_ ac (aB (eh K) rfl T.lX gN (FA.pa (aa (fv 0) ad))) ac))))) (aj (aD dk)) aL)
  (aj (aD (dS (aB (q_ K rfl) rfl T.zH wB (FA.pa (aa (fL rfl (cl := _) (x := "weight") (xs := ["weight"]) (fr := []) (ks := []) (by walk_at "cq") rfl (dG K (fv 0)) (fun _ _ _ _ _ => (a_ (i := 0) (kK (l := ["weight"]) (by decide)) rfl (Or.inl rfl))) (fun _ _ _ _ _ => eS) (fun _ _ _ _ _ => (au G_is_among (hr.mono (by decide)) rfl T.nz T.dm.kp b_is_among .nil xD (FA.pa (aa (fv 0) (aa ac (aa (ak dR ac ac) ad))))))) ad))) (eO (eg ED (aB (ow K rfl) rfl T.wJ rA (FA.pa (aa (fv 0) ad))) ac (aW _))))))), ?_⟩
 walk_at "rd"
 rcases h1 with ⟨p, xs, rfl, hp, hz, hk, k⟩ | ⟨t, ht, hl, k⟩
 ·have ht : aZ H (.ref p) = some "list" := by simp [aZ, hp]
  simp only [ht]
  rw [if_neg (by decide)]
  refine ⟨xs, .inl (.inl (.inl hp)), ?_⟩
  have sz : xs.length <= sizeLine := sC hz (by rw [uT]; decide)
  walk_at "rd"
  have no : (decide (1 <= xs.length) && decide (xs.length <= 60)) = false -> Q (.bl false) H := fun z => by unfold wOk at k; rw [z] at k; exact k
  split
  ·rename_i c1
   split
   ·rename_i c2
    refine cmL p xs (fun H2 => Same H H2 /\ NoT H2) (fun D ys hD => ⟨aJ _ hD, aS hN rfl⟩) (fun H2 c => .inl (.inl (c.1 _ _ hp))) (fun _ => true) (fun x => .bl (amg x 0 1000000000)) (fun R r => r) (.inl (.inl hp)) sz (fun x _ H2 R _ r => r) (fun x hx _ H2 R c r => ?_) (fun D hD => ?_)
    ·walk_at "rd"
     obtain ⟨t, ht⟩ := hk x hx
     exact ⟨by decide, c.2, asK.of (dC c.1 ht) r⟩
    ·rw [ZU.mpr (fun _ _ => rfl)]
     refine ⟨xs.map fun x => amg x 0 1000000000, .inl (.inl (by rw [al, uY]; rfl)), ?_⟩
     have sm := aJ (.lst (xs.map fun x => V.bl (amg x 0 1000000000))) hD
     have el : (decide (1 <= xs.length) && decide (xs.length <= 60)) = true := by simp; omega
     walk_at "rd"
     unfold wOk at k
     rw [el, YC] at k
     rw [show ((xs.map fun x => amg x 0 1000000000).all id) = xs.all (fun x => amg x 0 1000000000) by rw [Yq]; rfl]
     split
     ·rename_i c3
      rw [c3, YC] at k
      obtain ⟨ws, rfl, _⟩ := zt c3
      rw [qT] at k
      exact ⟨ws, .inl (.inl (.inl (sm _ _ hp))), H, Gc.none sm, k⟩
     ·rename_i c3
      rw [Bool.eq_false_iff.mpr c3, Bool.false_and] at k
      exact ⟨H, Gc.none sm, k⟩
   ·rename_i c2
    exact no (by simp; omega)
  ·rename_i c1
   exact no (by simp; omega)
 ·simp only [ht, hl]
  exact k
theorem CM {K : W.Frag} {b : Addr} {rs : List Int} {σ : St} {H H1 : Hp} {Q : VK} {ta : TA} (hl : ∀ R : List V -> Hp -> Prop, R [.ref b] H1 -> ta σ H R) (hb : H1 b = some (.lst (rs.map V.int))) (hz : rs.length <= 60)
 (q : ∀ D H' (ps : List Pr), H1 D = none -> (∀ c o, H1 c = some o -> H' c = some o) -> H' D = some (.lst (ps.map fun e => .ref e.1)) -> (∀ e ∈ ps, H' e.1 = some (.tup [.int e.2.1, .int e.2.2])) ->
  ps.map (·.2) = rs.zipIdx.map (fun z => (-z.1, (z.2 : Int))) -> Q (.ref D) H') :
 fc (CF K ta) 2 (D7 K 2 (zz (j_ 0) (zz (j_ 1) Fc))) [] (fun _ H Q => Q true H) (E5 (wX (tUn Ds (BY 1)) (wX (BY 0) AJ))) σ H Q := by
 refine hl _ ⟨b, rfl, ⟨_, .inl (.inl hb)⟩, fun D hD => ⟨fun i m ys H2 => i <= rs.length /\ m = rs.length - i /\ H2 D = some (.lst ys) /\ (∀ c o, H1 c = some o -> H2 c = some o) /\
  ∃ ps : List Pr, ys = ps.map (fun e => .ref e.1) /\ ps.length = i /\ (∀ e ∈ ps, H2 e.1 = some (.tup [.int e.2.1, .int e.2.2])) /\ ps.map (·.2) = (rs.zipIdx.take i).map (fun z => (-z.1, (z.2 : Int))), ⟨_, Zb _, rfl, al, fun c o e => (ay (fun z => by rw [z, hD] at e; cases e)).trans e, [], rfl, rfl, (fun _ m => nomatch m), rfl⟩, ?_⟩⟩
 rintro i m ys H2 ⟨hi, rfl, hD2, kp, ps, rfl, hp, ht, hv⟩
 refine ⟨hD2, ?_⟩
 have hb2 := kp _ _ hb
 by_cases lt : i < rs.length
 ·refine .inr ⟨⟨_, .int rs[i], .inl (.inl hb2), by simp [lt]⟩, fun x H3 hy zs hzs => ?_⟩
  obtain ⟨p, y, p0, rfl, rfl, hy⟩ := hy
  have ey : y = .int rs[i] := by
   have := hy _ (.inl (.inl hb2))
   simp [lt] at this
   exact this.symm
  subst ey
  refine ⟨p, _, rfl, .inl (.inl al), rfl, ?_⟩
  match zs, hzs with
  | [z0, z1], _ =>
   refine ⟨_, _, rfl, _, _, rfl, rfl, ⟨[some (.int i), some (.int rs[i])], rfl, rfl⟩, ?_⟩
   dsimp only
   rw [if_pos rfl]
   walk_at "rd"
   refine ⟨by rw [uT]; decide, fun p2 hp2 => ?_⟩
   have n1 : D ≠ p := fun z => by rw [<- z, hD2] at p0; cases p0
   have n2 : p2 ≠ p := fun z => by rw [z, al] at hp2; cases hp2
   rw [ay n2] at hp2
   have n3 : D ≠ p2 := fun z => by rw [<- z, hD2] at hp2; cases hp2
   have at2 : ∀ c o, H2 c = some o -> upd (upd H2 p (.tup [.int i, .int rs[i]])) p2 (.tup [.int (-rs[i]), .int i]) c = some o := fun c o e => by
    rw [ay (fun z => by rw [z, hp2] at e; cases e), ay (fun z => by rw [z, p0] at e; cases e)]; exact e
   refine ⟨at2 _ _ hD2, by rw [zl, uT]; omega, rs.length - (i + 1), by omega, by omega, rfl, al, fun c o e => ?_, ps ++ [((p2, -rs[i], (i : Int)) : Pr)], by simp, by simp [hp], fun e m => ?_, ?_⟩
   ·rw [ay (fun z => by rw [z, hD] at e; cases e)]
    exact at2 c o (kp c o e)
   ·rcases uO.mp m with m | m
    ·have h := ht e m
     rw [ay (fun z => by rw [z, hD2] at h; cases h)]
     exact at2 _ _ h
    ·rw [zY.mp m, ay (Ne.symm n3)]
     exact al
   ·rw [qc, hv, Yk, qc]
    congr 1
    simp [lt]
 ·have e : i = rs.length := by omega
  subst e
  refine .inl ⟨⟨_, .inl (.inl hb2), by simp⟩, q D H2 ps hD kp hD2 ht ?_⟩
  rw [hv, oF (by simp)]
def prI : V -> Int
 | .int i => i
 | _ => 0
theorem zo (g : Int -> Int) (ws : List Int) : ((ws.map V.int).filter fun _ => true).map (fun x => V.int (g (prI x))) = (ws.map g).map V.int := by
 rw [ZU.mpr (fun _ _ => rfl), uY, uY]
 rfl
theorem Ac {xs : List V} (h : wOk xs = true) : ∃ ws : List Int, xs = ws.map V.int /\ (∀ w ∈ ws, 0 <= w /\ w <= 1000000000) /\ 1 <= ws.length /\ ws.length <= 60 /\ 0 < ws.sum := by
 unfold wOk at h
 simp only [ZO, decide_eq_true_eq] at h
 obtain ⟨⟨⟨h1, h2⟩, h3⟩, h4⟩ := h
 obtain ⟨ws, rfl, b⟩ := zt h3
 rw [qT] at h4
 rw [zl] at h1 h2
 exact ⟨ws, rfl, b, h1, h2, h4⟩
theorem B4 : ∀ {ws : List Int}, (∀ w ∈ ws, 0 <= w /\ w <= 1000000000) -> ws.sum <= 1000000000 * ws.length
 | [], _ => by simp
 | w :: ws, h => by
  have := B4 (ws := ws) fun z m => h z (ue _ m)
  have := (h w (Zt ..)).2
  rw [ZD, ql]; omega
theorem kQ (xs : List V) {i : Int} (h : 0 <= i) : xY xs none (some i) = xs.take i.toNat := by
 unfold xY
 have e : i = ((i.toNat : Nat) : Int) := by omega
 rw [e, HT.sIx_none, HT.sIx_nat, List.drop_zero, Nat.sub_zero]
 by_cases hl : i.toNat <= xs.length
 ·rw [ZJ hl]; rfl
 ·rw [Z8 (by omega), oF (by omega), oF (by simp; omega)]
def pl (e : Pr) : Nat := e.2.2.toNat
structure PsOk (am : Int) (ws : List Int) (ps : List Pr) : Prop where
 val : ∀ e ∈ ps, e.2 = (-rs am ws.sum (ws.getD (pl e) 0), (pl e : Int)) /\ pl e < ws.length
 pls : ps.map pl = uF ws.length
theorem Du {am : Int} {ws : List Int} {ps : List Pr} (h : ps.map (·.2) = (ws.map (rs am ws.sum)).zipIdx.map (fun z => (-z.1, (z.2 : Int)))) : PsOk am ws ps := by
 have len : ps.length = ws.length := by have := congrArg Yh h; simpa using this
 have at_ : ∀ i (h1 : i < ps.length) (h2 : i < ws.length), ps[i].2 = (-rs am ws.sum ws[i], (i : Int)) := fun i h1 h2 => by
  have := congrArg (fun l => l[i]?) h
  simp [h1, h2] at this
  rw [this]
 constructor
 ·intro e m
  obtain ⟨i, hi, rfl⟩ := List.getElem_of_mem m
  have h2 : i < ws.length := by omega
  have e1 := at_ i hi h2
  have e2 : pl ps[i] = i := by unfold pl; rw [e1]; simp
  rw [e2, e1]
  exact ⟨by simp [h2], h2⟩
 ·apply List.ext_getElem
  ·simp [len]
  ·intro i h1 h2
   have h1' : i < ps.length := by simpa using h1
   simp
   unfold pl; rw [at_ i h1' (by omega)]; simp
theorem PsOk.cod {am : Int} {ws : List Int} {ps : List Pr} (h : PsOk am ws ps) {e : Pr} (m : e ∈ ps) : L2.cod e = K5.cod am ws (pl e) := by
 have := (h.val e m).1
 show e.2.1 * 64 + e.2.2 = _
 rw [this]; rfl
theorem PsOk.nodup {am : Int} {ws : List Int} {ps : List Pr} (h : PsOk am ws ps) (h60 : ws.length <= 60) : (ps.map L2.cod).Nodup := by
 have e : ps.map L2.cod = (uF ws.length).map (K5.cod am ws) := by
  rw [<- h.pls, uY]
  exact Zs fun e m => h.cod m
 rw [e]
 exact List.pairwise_map.mpr ((List.Pairwise.and_mem.mp List.nodup_range).imp fun ⟨ma, mb, ne⟩ z => ne (D0 h60 _ _ (YI.mp ma) (YI.mp mb) z))
def F (am : Int) (ws : List Int) (sv : List Nat) : List Int := (uF ws.length).map fun j => pt am ws.sum (ws.getD j 0) + if j ∈ sv then 1 else 0
theorem Ha (am : Int) (ws : List Int) : F am ws [] = ws.map (pt am ws.sum) := by
 unfold F
 simp only [uD, if_false, Int.add_zero]
 exact sD _ ws
theorem Cg (am : Int) (ws : List Int) (sv : List Nat) : (F am ws sv).length = ws.length := by unfold F; simp
theorem Hx {am : Int} {ws : List Int} {sv : List Nat} {j : Nat} (h : j < ws.length) (h2 : j ∉ sv) : (F am ws sv)[j]? = some (pt am ws.sum (ws.getD j 0)) := by
 unfold F; simp [h, h2]
theorem Hc {am : Int} {ws : List Int} {sv : List Nat} {j : Nat} (h : j < ws.length) (h2 : j ∉ sv) : (F am ws sv).set j (pt am ws.sum (ws.getD j 0) + 1) = F am ws (sv ++ [j]) := by
 apply List.ext_getElem
 ·simp [Cg]
 ·intro i h1 h3
  have hi : i < ws.length := by simpa [Cg] using h1
  rw [List.getElem_set]
  unfold F
  by_cases e : j = i
  ·subst e; simp
  ·simp [e, Ne.symm e]
def sp_uW (c : Addr) : Sp := sp2 fun x y H Q E => NoT H /\ asI x fun am => (-(10 : Int) ^ 31 < am /\ am < 10 ^ 31) /\ ((∃ p xs, y = .ref p /\ H p = some (.lst xs) /\ xs.length <= 4000 /\ (∀ z ∈ xs, ∃ t, aZ H z = some t) /\
 (if wOk xs = true then ∀ ws, xs = ws.map V.int -> ∀ q, H q = none -> Q (.ref q) (upd H q (.lst ((mm am ws).map V.int))) else E (.ref c) none H)) \/ (∃ t, aZ H y = some t /\ bJ t "list" = false /\ E (.ref c) none H))
theorem uE (T : Txt K mg a) : bz P w K mg base (XE P w) 4 a.sI a.t_ ["amount", "weights"] (sp_uW a.aN) := by
 refine T.jE.okG uN (fun vs H Q E h => sp2.len h) (fun cdv A outer s H vs Q E hr h => ?_)
 obtain ⟨x0, x1, rfl, h⟩ := sp2.inv h
 try dsimp only [sp_uW, sp2] at h
 have ND := uN.nd
 obtain ⟨hN, h1⟩ := h
 obtain ⟨am, rfl, ⟨am0, am1⟩, h2⟩ := asI.inv h1
 have one : 1 <= sizeLine := by rw [uT]; decide
 have G_are_weights := @rP P w K mg base a T
 have b_are_weights := rg T.gQ
 refine ⟨hN, _, (ae (a9 (cw (bO (au G_are_weights (hr.mono (by decide)) rfl T.tV T.gQ.kp b_are_weights .nil aQ (FA.pa (aa (fv 1) ad))))) (aj (dO T.rp nV rfl rfl T.mF eR (FA.pa (aa (aq [116, 104, 101, 115, 101, 32, 97, 114, 101, 32, 110, 111, 32, 119, 101, 105, 103, 104, 116, 115]) ad)))) aL)
  (ae (aE (i := 2) ND rfl (Or.inr rfl) (aB (ow K rfl) rfl T.wJ rA (FA.pa (aa (fv 1) ad))))
  (ae (xA (i0 := 3) ND rfl (Or.inl rfl) rfl (cl := _) (x := "weight") (xs := ["weight"]) (fr := ["whole", "amount"]) (ks := [2, 0]) (by walk_at "cq") rfl (dG K (fv 1)) (fun _ _ _ _ _ => (a_ (i := 0) (kK (l := ["weight", "whole", "amount"]) (by decide)) rfl (Or.inl rfl))) (fun _ _ _ _ _ => eS) (fun _ _ _ _ _ => (ak BB (ak fM (fv 2) (fv 0)) (fv 1))))
  (ae (xA (i0 := 4) ND rfl (Or.inl rfl) rfl (cl := _) (x := "weight") (xs := ["weight"]) (fr := ["whole", "amount"]) (ks := [2, 0]) (by walk_at "cq") rfl (dG K (fv 1)) (fun _ _ _ _ _ => (a_ (i := 0) (kK (l := ["weight", "whole", "amount"]) (by decide)) rfl (Or.inl rfl))) (fun _ _ _ _ _ => eS) (fun _ _ _ _ _ => (ak aO (ak fM (fv 2) (fv 0)) (fv 1))))
  (ae (aE (i := 5) ND rfl (Or.inl rfl) (ak cC (fv 0) (aB (ow K rfl) rfl T.wJ rA (FA.pa (aa (fv 3) ad)))))
  (ae (aE (i := 6) ND rfl (Or.inl rfl) (cY (fj K) (aB (Cs K) rfl T.oE lc (FA.pa (aa (fL rfl (cl := _) (x := "place") (xs := ["place", "rest"]) (fr := []) (ks := []) (by walk_at "cq") rfl (zQ K rfl T.kA (FA.pa (aa (fv 4) ad))) (fun _ _ _ _ _ => (oZ K (n := 2) rfl (cp (a_ (i := 0) (kK (l := ["place", "rest"]) (by decide)) rfl (Or.inl rfl)) (cp (a_ (i := 1) (kK (l := ["place", "rest"]) (by decide)) rfl (Or.inl rfl)) k_)))) (fun _ _ _ _ _ => eS) (fun _ _ _ _ _ => (dW (FA.pa (aa (sy nE (fv 1)) (aa (fv 0) ad)))))) ad))) dN (dP (fv 5))))
  (ae (eJ (by passes_own) rfl (dG K (fv 6)) (oZ K (n := 2) rfl (cp (a_ (i := 7) ND rfl (Or.inl rfl)) (cp (a_ (i := 8) ND rfl (Or.inl rfl)) k_))) (aj (jZ (ak aY (aH (ao K) (fv 3) (fv 8) (fun _ _ => rfl)) ac) (pF (fv 3) (fv 8) ic))))
  (aj (aD (fv 3)))))))))), ?_⟩
 walk_at "rd"
 rcases h2 with ⟨p, xs, rfl, hp, hz, hk, k⟩ | ⟨t, ht, hl, k⟩
 ·refine ⟨hN, .inl ⟨p, xs, rfl, hp, hz, hk, ?_⟩⟩
  split
  ·rename_i c
   rw [if_neg (by rw [c]; decide)] at k
   exact ⟨one, k⟩
  ·rename_i c
   have c : wOk xs = true := by simpa using c
   rw [if_pos c] at k
   obtain ⟨ws, rfl, wb, w1, w60, wS⟩ := Ac c
   replace k := k ws rfl
   have wL := B4 wb
   have sz : (ws.map V.int).length <= sizeLine := by rw [zl, uT]; omega
   refine ⟨ws, .inl (.inl (.inl hp)), ?_⟩
   refine cmL p (ws.map V.int) (fun H2 => Same H H2) (fun D ys hD => aJ _ hD) (fun H2 c => .inl (.inl (c _ _ hp))) (fun _ => true) (fun x => .int (pt am ws.sum (prI x))) (fun R r => r) (.inl (.inl hp)) sz (fun x _ H2 R _ r => r) (fun x hx _ H2 R c r => ?_) (fun D1 hD1 => ?_)
   ·obtain ⟨w, mw, rfl⟩ := Zp.mp hx
    have := wb w mw
    walk_at "rd"
    exact ⟨.inr ⟨by omega, by omega⟩, ⟨wS, FL wS (by omega)⟩, r⟩
   rw [zo (pt am ws.sum)]
   have s1 := aJ (.lst ((ws.map (pt am ws.sum)).map V.int)) hD1
   have e1 : upd H D1 (.lst ((ws.map (pt am ws.sum)).map V.int)) D1 = some (.lst ((ws.map (pt am ws.sum)).map V.int)) := al
   generalize upd H D1 (.lst ((ws.map (pt am ws.sum)).map V.int)) = H1 at s1 e1
   refine cmL p (ws.map V.int) (fun H2 => Same H1 H2) (fun D ys hD => aJ _ hD) (fun H2 c => .inl (.inl (c _ _ (s1 _ _ hp)))) (fun _ => true) (fun x => .int (rs am ws.sum (prI x))) (fun R r => r) (.inl (.inl (s1 _ _ hp))) sz (fun x _ H2 R _ r => r) (fun x hx _ H2 R c r => ?_) (fun D2 hD2 => ?_)
   ·obtain ⟨w, mw, rfl⟩ := Zp.mp hx
    have := wb w mw
    walk_at "rd"
    exact ⟨.inr ⟨by omega, by omega⟩, wS, r⟩
   rw [zo (rs am ws.sum)]
   have s2 := aJ (.lst ((ws.map (rs am ws.sum)).map V.int)) hD2
   have e2 : upd H1 D2 (.lst ((ws.map (rs am ws.sum)).map V.int)) D2 = some (.lst ((ws.map (rs am ws.sum)).map V.int)) := al
   generalize upd H1 D2 (.lst ((ws.map (rs am ws.sum)).map V.int)) = H2 at s2 e2
   refine ⟨_, .inl (.inl (.inl (s2 _ _ e1))), ?_⟩
   walk_at "rd"
   refine CM (rs := ws.map (rs am ws.sum)) (fun R r => r) e2 (by rw [zl]; exact w60) (fun D3 H3 ps hD3 s3 e3 tp vp => ?_)
   have po := Du vp
   have same : Same H H3 := fun c o e => s3 _ _ (s2 _ _ (s1 _ _ e))
   have eD1 := s3 _ _ (s2 _ _ e1)
   have lps : ps.length = ws.length := by have := congrArg Yh po.pls; simpa using this
   obtain ⟨n0, n1⟩ := GU am ws wS
   refine ⟨ps, .inl (.inl e3), fun e m => .inl (.inl (tp e m)), by omega, fun e m => ?_, po.nodup w60, fun out pm sr L hL => ?_⟩
   ·have := po.val e m
    rw [this.1]; constructor
    ·show (0 : Int) <= (pl e : Nat); omega
    ·show ((pl e : Nat) : Int) < 64; omega
   have lo : out.length = ws.length := by rw [pm.length_eq, lps]
   have pp : (out.map pl).Perm (uF ws.length) := by rw [<- po.pls]; exact pm.map pl
   have ps' : (out.map pl).Pairwise fun i j => K5.cod am ws i < K5.cod am ws j := List.pairwise_map.mpr ((List.Pairwise.and_mem.mp sr).imp fun ⟨ma, mb, z⟩ => by
    rw [po.cod (pm.mem_iff.mp ma), po.cod (pm.mem_iff.mp mb)] at z; exact z)
   have nd : (out.map pl).Nodup := pp.nodup_iff.mpr List.nodup_range
   have s4 := aJ (.lst (out.map fun e => V.ref e.1)) hL
   have e4 : upd H3 L (.lst (out.map fun e => V.ref e.1)) L = some (.lst (out.map fun e => V.ref e.1)) := al
   generalize upd H3 L (.lst (out.map fun e => V.ref e.1)) = H4 at s4 e4
   dsimp only
   refine ⟨L, _, rfl, .inl (.inl e4), fun L2 hL2 => ?_⟩
   have nL : L2 ≠ D1 := fun z => by rw [z, s4 _ _ eD1] at hL2; cases hL2
   rw [kQ _ (show 0 <= am - (ws.map (pt am ws.sum)).sum from n0)]
   rw [<- YO]
   have s5 := aJ (.lst ((out.take (am - (ws.map (pt am ws.sum)).sum).toNat).map fun e => V.ref e.1)) hL2
   have e5 : upd H4 L2 (.lst ((out.take (am - (ws.map (pt am ws.sum)).sum).toNat).map fun e => V.ref e.1)) L2 = some (.lst ((out.take (am - (ws.map (pt am ws.sum)).sum).toNat).map fun e => V.ref e.1)) := al
   generalize upd H4 L2 (.lst ((out.take (am - (ws.map (pt am ws.sum)).sum).toNat).map fun e => V.ref e.1)) = H5 at s5 e5
   have fin : F am ws ((out.map pl).take (wn am ws).toNat) = mm am ws := by
    unfold F mm
    refine Zs fun j mj => ?_
    simp only [FS pp ps' (YI.mp mj)]
   rw [<- YO] at fin
   have sub : ∀ e ∈ out.take (wn am ws).toNat, e ∈ ps := fun e m => pm.mem_iff.mp (ZB m)
   have nd2 : ((out.take (wn am ws).toNat).map pl).Nodup := by rw [YO]; exact nd.sublist (List.take_sublist _ _)
   have t5 : ∀ e ∈ out.take (wn am ws).toNat, H5 e.1 = some (.tup [.int e.2.1, .int e.2.2]) := fun e m => s5 _ _ (s4 _ _ (tp e (sub e m)))
   have eD5 : H5 D1 = some (.lst ((F am ws []).map V.int)) := by rw [Ha]; exact s5 _ _ (s4 _ _ eD1)
   have same5 : Same H H5 := fun c o e => s5 _ _ (s4 _ _ (same _ _ e))
   change H5 L2 = some (.lst ((out.take (wn am ws).toNat).map fun e => V.ref e.1)) at e5
   generalize out.take (wn am ws).toNat = S at fin sub nd2 t5 e5
   clear pp ps' nd s4 e4 s5 lo
   refine nX (xs := S.map fun e => V.ref e.1) (.inl (.inl e5)) ⟨fun i m σ' H' => i <= S.length /\ m = S.length - i /\ (∃ y7 y8, σ' = [some (V.int am), some (V.ref p), some (V.int ws.sum), some (V.ref D1), some (V.ref D2), some (V.int (am - (ws.map (pt am ws.sum)).sum)), some (V.ref L2), y7, y8]) /\
    H' D1 = some (.lst ((F am ws ((S.take i).map pl)).map V.int)) /\ ∀ b, b ≠ D1 -> H' b = H5 b, ⟨_, Zb _, rfl, ⟨_, _, rfl⟩, eD5, fun _ _ => rfl⟩, ?_⟩
   rintro i m σ' H' ⟨hi, rfl, ⟨y7, y8, rfl⟩, hF, hO⟩
   by_cases lt : i < S.length
   ·have mS : S[i] ∈ S := ZP lt
    have hv := po.val _ (sub _ mS)
    have tS := t5 _ mS
    have nS : S[i].1 ≠ D1 := fun z => by rw [z, eD5] at tS; cases tS
    rw [hv.1] at tS
    have hl2 : H' L2 = some (.lst (S.map fun e => V.ref e.1)) := (hO _ nL).trans e5
    have tk : S.take (i + 1) = S.take i ++ [S[i]] := by rw [Yk, List.getElem?_eq_getElem lt]; rfl
    have nm : pl S[i] ∉ (S.take i).map pl := fun z => by
     have q : (S.take (i + 1)).map pl = (S.take i).map pl ++ [pl S[i]] := by rw [tk, qc]; rfl
     have q2 : ((S.take (i + 1)).map pl).Nodup := by rw [YO]; exact nd2.sublist (List.take_sublist _ _)
     rw [q] at q2
     exact (List.nodup_append.mp q2).2.2 _ z _ (zY.mpr rfl) rfl
    refine .inr ⟨⟨_, .ref S[i].1, .inl (.inl hl2), by simp [lt]⟩, fun σ2 H2' => (∃ y7 y8, σ2 = [some (V.int am), some (V.ref p), some (V.int ws.sum), some (V.ref D1), some (V.ref D2), some (V.int (am - (ws.map (pt am ws.sum)).sum)), some (V.ref L2), y7, y8]) /\
     H2' D1 = some (.lst ((F am ws ((S.take (i + 1)).map pl)).map V.int)) /\ ∀ b, b ≠ D1 -> H2' b = H5 b, fun σ2 H2' q => ⟨S.length - (i + 1), by omega, by omega, rfl, q⟩, fun x H2' hy => ?_⟩
    obtain ⟨rfl, hy⟩ := hy
    have ex : x = .ref S[i].1 := by
     have := hy _ (.inl (.inl hl2))
     simp [lt] at this
     exact this.symm
    subst ex
    refine ⟨_, _, rfl, .inl (.inl ((hO _ nS).trans tS)), rfl, _, _, rfl, _, _, rfl, rfl, ?_⟩
    walk_at "rd"
    have lF : ((F am ws ((S.take i).map pl)).map V.int).length = ws.length := by rw [zl, Cg]
    refine ⟨_, _, .inl (.inl (.inl hF)), cJ (by rw [List.getElem?_map, Hx hv.2 nm]; rfl), ?_⟩
    walk_at "rd"
    refine ⟨D1, _, _, pl S[i], rfl, rfl, hF, ?_, ⟨_, _, rfl, rfl⟩, ?_, fun b hb => ?_⟩
    ·rw [lF]; unfold ixN
     rw [if_pos (by omega), if_pos (by have := hv.2; omega)]; rfl
    ·rw [al, tk, qc, <- List.map_set, Hc hv.2 nm]; rfl
    ·rw [ay hb]; exact hO b hb
   ·have e : i = S.length := by omega
    subst e
    rw [oF (zR _), fin] at hF
    refine .inl ⟨⟨_, .inl (.inl ((hO _ nL).trans e5)), by simp⟩, ?_⟩
    walk_at "rd"
    have sm : Same H H' := fun c o q => (hO c (fun z => by rw [z, hD1] at q; cases q)).trans (same5 _ _ q)
    exact ⟨_, Gc.one sm hD1 hF rfl, k D1 hD1⟩
 ·exact ⟨hN, .inr ⟨t, ht, hl, one, k⟩⟩
open K5
def Keep (S : List Addr) (H H' : Hp) : Prop := ∀ c z, H c = some z -> c ∉ S -> H' c = some z
theorem Keep.refl {S : List Addr} {H : Hp} : Keep S H H := fun _ _ e _ => e
theorem Keep.trans {S : List Addr} {H H1 H2 : Hp} (x : Keep S H H1) (y : Keep S H1 H2) : Keep S H H2 := fun c z e n => y c z (x c z e n) n
theorem Keep.mono {S S' : List Addr} {H H' : Hp} (x : Keep S H H') (h : ∀ c, c ∈ S -> c ∈ S') : Keep S' H H' := fun c z e n => x c z e fun m => n (h c m)
theorem Keep.new {S : List Addr} {H H1 : Hp} {p : Addr} {o : HO} (x : Keep S H H1) (h : H1 p = none) : Keep S H (upd H1 p o) := fun c z e n => by
 rw [ay (ar (x c z e n) h)]; exact x c z e n
theorem Keep.put {S : List Addr} {H H1 : Hp} {p : Addr} {o : HO} (x : Keep S H H1) (h : p ∈ S) : Keep S H (upd H1 p o) := fun c z e n => by
 rw [ay (by rintro rfl; exact n h)]; exact x c z e n
theorem Keep.same {S : List Addr} {H H' : Hp} (x : Same H H') : Keep S H H' := fun c z e _ => x c z e
theorem Keep.free {S : List Addr} {H H' : Hp} {p : Addr} (x : Keep S H H') (h : H' p = none) (n : p ∉ S) : H p = none := by
 cases e : H p with
 | none => rfl
 | some z => rw [x p z e n] at h; cases h
theorem cS {H : Hp} {p q : Addr} {x y : HO} (h : H p = some x) (g : H q = some y) (n : x ≠ y := by intro z; cases z) : p ≠ q := by
 rintro rfl; rw [h] at g; cases g; exact n rfl
def Kd (H : Hp) (x : V) : Prop := ∃ t, aZ H x = some t
theorem Kd.same {H H' : Hp} {x : V} (h : Kd H x) (s : Same H H') : Kd H' x := by obtain ⟨t, e⟩ := h; exact ⟨t, dC s e⟩
theorem alloc {H : Hp} {p : Addr} {o : HO} (h : H p = none) (n : NoT H) (ho : mJ o = true) : ∃ H1, upd H p o = H1 /\ Same H H1 /\ H1 p = some o /\ NoT H1 := ⟨_, rfl, aJ _ h, al, aS n ho⟩
structure Bd where
 nm : List Nat
 ob : Addr
 ag : Addr
 wt : Addr
 pa : Addr
 pt : List Nat
 cu : List Nat
 f : Int
 l : Int
 t : Int
 ws : List Int
def pV (x y z : V) : List (Str × V) := [("agreed", x), ("first", y), ("parts", z)]
theorem HC (x y z : V) : Zk (sV "agreed") (pV x y z) = some x := vE
theorem HF (x y z : V) : Zk (sV "first") (pV x y z) = some y := by unfold pV; rw [oB (by decide +kernel)]; exact vE
theorem HE (x y z : V) : Zk (sV "parts") (pV x y z) = some z := by unfold pV; rw [oB (by decide +kernel), oB (by decide +kernel)]; exact vE
theorem Fv (x y z : V) : gM (sV "parts") z (gM (sV "first") y (gM (sV "agreed") x [])) = pV x y z := by
 have q1 : ¬ (sV "agreed" = sV "parts") := by decide +kernel
 have q2 : ¬ (sV "first" = sV "parts") := by decide +kernel
 have q3 : ¬ (sV "agreed" = sV "first") := by decide +kernel
 simp [gM, pV, q1, q2, q3]
structure AAt (H : Hp) (b : Bd) : Prop where
 ag : H b.ag = some (.tup [L2.T b.pt, L2.T b.cu, .int b.f, .int b.l, .int b.t, .ref b.wt])
 wt : H b.wt = some (.tup (b.ws.map V.int))
structure OAt (B : Addr) (H : Hp) (b : Bd) : Prop where
 ob : ∃ dx, H b.ob = some (.ins B dx (pV (.ref b.ag) (.int b.f) (.ref b.pa)))
 ag : AAt H b
 pa : H b.pa = some (.lst ((mm b.t b.ws).map V.int))
def sp_uT (B : Addr) : Sp := sp3 fun x y z H Q _ => asR x fun p => asR y fun ag => ∃ dx xs, ∃ f : Int, H p = some (.ins B dx []) /\ H ag = some (.tup xs) /\ atI xs 2 = some (.int f) /\ Q .non (upd H p (.ins B dx (pV (.ref ag) (.int f) z)))
theorem nv (T : Txt K mg a) : bz P w K mg base (XE P w) 1 a.cU a.fH ["self", "agreed", "parts"] (sp_uT a.aA) := by
 refine T.fX.okX mB (fun vs H Q E h => sp3.len h) (fun cdv A outer s H vs Q E hr h => ?_)
 obtain ⟨x0, x1, x2, rfl, h⟩ := sp3.inv h
 try dsimp only [sp_uT, sp3] at h
 obtain ⟨p, rfl, h2⟩ := asR.inv h
 obtain ⟨ag, rfl, dx, xs, f, hp, hag, ha, k⟩ := asR.inv h2
 have na : ag ≠ p := cS hag hp
 refine ⟨_, (ae (ra K (fv 0) (fv 1))
  (ae (ra K (fv 0) (aH (ao K) (fv 1) ac (fun _ _ => rfl)))
  (aj (ra K (fv 0) (fv 2))))), ?_⟩
 walk_at "rd"
 refine ⟨_, _, _, hp, T.eX, T.jg, by decide, _, _, .inr (SqT.of ((ay na).trans hag)), ha, _, _, _, al, T.eX, T.j7, by show 1 < 1000; decide, _, _, _, al, T.eX, T.j5, by show 2 < 1000; decide, ?_⟩
 rw [Fv, qX, qX]
 exact k
def kyO (o : Bd) : Key × V := (.inr ⟨⟨o.nm⟩⟩, .ref o.ob)
structure SAt (S O : Addr) (H : Hp) (p d : Addr) (os : List Bd) : Prop where
 ob : ∃ dx, H p = some (.ins S dx [("by_name", .ref d)])
 dc : H d = some (.dK (os.map kyO))
 od : ∀ o ∈ os, OAt O H o
 np : (os.map (·.nm)).Nodup
 na : (os.map (·.ob)).Nodup
theorem AAt.keep {X : List Addr} {H H' : Hp} {b : Bd} (j : AAt H b) (x : Keep X H H') (h : b.ag ∉ X /\ b.wt ∉ X) : AAt H' b := ⟨x _ _ j.ag h.1, x _ _ j.wt h.2⟩
theorem OAt.keep {X : List Addr} {O : Addr} {H H' : Hp} {o : Bd} (j : OAt O H o) (x : Keep X H H') (h : o.ob ∉ X /\ o.ag ∉ X /\ o.wt ∉ X /\ o.pa ∉ X) : OAt O H' o :=
 ⟨by obtain ⟨dx, e⟩ := j.ob; exact ⟨dx, x _ _ e h.1⟩, j.ag.keep x ⟨h.2.1, h.2.2.1⟩, x _ _ j.pa h.2.2.2⟩
theorem SAt.keep {X : List Addr} {S O : Addr} {H H' : Hp} {p d : Addr} {os : List Bd} (j : SAt S O H p d os) (x : Keep X H H') (hp : p ∉ X) (hd : d ∉ X) (ho : ∀ o ∈ os, o.ob ∉ X /\ o.ag ∉ X /\ o.wt ∉ X /\ o.pa ∉ X) : SAt S O H' p d os :=
 ⟨by obtain ⟨dx, e⟩ := j.ob; exact ⟨dx, x _ _ e hp⟩, x _ _ j.dc hd, fun o hm => (j.od o hm).keep x (ho o hm), j.np, j.na⟩
theorem SAt.same {S O : Addr} {H H' : Hp} {p d : Addr} {os : List Bd} (j : SAt S O H p d os) (x : Same H H') : SAt S O H' p d os :=
 j.keep (X := []) (Keep.same x) uD uD fun _ _ => ⟨uD, uD, uD, uD⟩
def fnd (os : List Bd) (l : List Nat) : Option Bd := os.find? fun o => decide (o.nm = l)
theorem oY (l : List Nat) : ∀ os : List Bd, jB (os.map kyO) (.inr ⟨⟨l⟩⟩) = (fnd os l).map fun o => .ref o.ob
 | [] => rfl
 | c :: r => by
  have ih := oY l r
  by_cases h : c.nm = l
  ·rw [ud, kM (by show Sum.inr _ = Sum.inr _; rw [h])]
   simp [fnd, h, kyO]
  ·rw [ud, jP (fun z => h (by simpa [kyO] using z)), ih]
   simp [fnd, h]
theorem gE {os : List Bd} {l : List Nat} {o : Bd} (h : fnd os l = some o) : o ∈ os /\ o.nm = l :=
 ⟨List.mem_of_find?_eq_some h, by simpa using List.find?_some h⟩
theorem xg {os : List Bd} {l : List Nat} (h : fnd os l = none) : ∀ o ∈ os, o.nm ≠ l := fun c hc => by
 simpa using List.find?_eq_none.mp h c hc
theorem Aa {β : Type} {f : Bd -> β} : ∀ {cs : List Bd} {c c' : Bd}, (cs.map f).Nodup -> c ∈ cs -> c' ∈ cs -> f c = f c' -> c = c'
 | [], _, _, _, h, _, _ => nomatch h
 | x :: r, c, c', hn, h, h', e => by
  rw [ud, Yt] at hn
  rcases ve.mp h with h1 | h1
  ·rcases ve.mp h' with h2 | h2
   ·rw [h1, h2]
   ·subst h1
    exact absurd (by rw [e]; exact ZL h2) hn.1
  ·rcases ve.mp h' with h2 | h2
   ·subst h2
    exact absurd (by rw [<- e]; exact ZL h1) hn.1
   ·exact Aa hn.2 h1 h2 e
theorem E8 {cs : List Bd} (hn : (cs.map (·.nm)).Nodup) {c : Bd} (hc : c ∈ cs) : fnd cs c.nm = some c := by
 cases e : fnd cs c.nm with
 | none => exact absurd rfl (xg e c hc)
 | some c' =>
  obtain ⟨h1, h2⟩ := gE e
  rw [Aa hn h1 hc h2]
def gH (os : List Bd) : V -> Option Bd
 | .str y => fnd os y.cps.toList
 | _ => none
theorem xx {cs : List Bd} {y : V} {c : Bd} (h : gH cs y = some c) : ∃ l, y = L2.T l /\ fnd cs l = some c := by
 cases y with
 | str z => exact ⟨z.cps.toList, rfl, h⟩
 | _ => cases h
theorem oz {cs : List Bd} {y : V} {c : Bd} (h : gH cs y = some c) : c ∈ cs := by
 obtain ⟨l, rfl, e⟩ := xx h
 exact (gE e).1
theorem lkb (x : V) : Zk (sV "by_name") [(sV "by_name", x)] = some x := vE
def sp_uY (S O : Addr) : Sp := sp1 fun x H Q _ => NoT H /\ asR x fun p => ∃ dx, H p = some (.ins S dx []) /\ ∀ d H', H d = none -> SAt S O H' p d [] -> Keep [p] H H' -> NoT H' -> Q .non H'
theorem lR (T : Txt K mg a) : bz P w K mg base (XE P w) 1 a.cG a.eQ ["self"] (sp_uY a.av a.aA) := by
 refine T.fI.okX lp (fun vs H Q E h => sp1.len h) (fun cdv A outer s H vs Q E hr h => ?_)
 obtain ⟨x0, rfl, h⟩ := sp1.inv h
 try dsimp only [sp_uY, sp1] at h
 obtain ⟨hN, h1⟩ := h
 obtain ⟨p, rfl, dx, hp, k⟩ := asR.inv h1
 refine ⟨_, (aj (ra K (fv 0) qS)), ?_⟩
 walk_at "rd"
 intro d hd
 have np : p ≠ d := ar hp hd
 refine ⟨_, _, _, (ay np).trans hp, T.aV, T.bu, by show 0 < 1000; decide, ?_⟩
 refine k d _ hd ⟨⟨dx, ?_⟩, ?_, (fun _ h => nomatch h), .nil, .nil⟩ ?_ ?_
 ·rw [al]; simp [gM]
 ·rw [ay (Ne.symm np), al]; rfl
 ·exact (Keep.refl.new hd).put (zY.2 rfl)
 ·exact aS (aS hN rfl) rfl
def xJ {H : Hp} (E : XK) (no : Addr) (o : Option Bd) (k : Bd -> Prop) : Prop := match o with
 | some c => k c
 | none => E (.ref no) none H
def sp_uO (S O no : Addr) : Sp := sp2 fun x y H Q E => NoT H /\ asR x fun p => asK H y fun _ => ∃ d os, SAt S O H p d os /\ xJ (H := H) E no (gH os y) fun c => Q (.ref c.ob) H
theorem dL (T : Txt K mg a) : bz P w K mg base (XE P w) 1 a.d9 a.gg ["self", "name"] (sp_uO a.av a.aA a.aG) := by
 refine T.dg.okG oO (fun vs H Q E h => sp2.len h) (fun cdv A outer s H vs Q E hr h => ?_)
 obtain ⟨x0, x1, rfl, h⟩ := sp2.inv h
 try dsimp only [sp_uO, sp2] at h
 have HU := bA hr
 obtain ⟨hN, h1⟩ := h
 obtain ⟨p, rfl, h2⟩ := asR.inv h1
 obtain ⟨t, ht, hb, d, os, J, k⟩ := asK.inv h2
 obtain ⟨dx, hp⟩ := J.ob
 have one : 1 <= sizeLine := by rw [uT]; decide
 refine ⟨hN, _, (ae (a9 (L2.PW.pt (qm (cw (bO (aB (bg K) rfl T.aF aC (FA.pa (aa (fv 1) (aa (cF (v := .ty "str") rfl T.zm wE rfl) ad)))))) (mX (sJ (qb (Zv HU) (fv 1) (eV K (fv 0))) (by with_unfolding_all rfl))))) (aj (dO T.yJ nV rfl rfl T.rS eR (FA.pa (aa (aq [116, 104, 101, 114, 101, 32, 105, 115, 32, 110, 111, 32, 115, 117, 99, 104, 32, 98, 117, 100, 103, 101, 116]) ad)))) aL)
  (aj (aD (Ai (Zv HU) (eV K (fv 0)) (fv 1) (fun _ _ => rfl))))), ?_⟩
 by_cases hx : ∃ l, x1 = .str ⟨⟨l⟩⟩
 ·obtain ⟨l, rfl⟩ := hx
  cases ht
  walk_at "rd"
  have g := DGet.k (k := .inr ⟨⟨l⟩⟩) J.dc
  rw [oY] at g
  refine ⟨_, _, _, _, hp, T.aV, T.bu, lkb _, d, _, rfl, g, ?_⟩
  rw [show gH os (.str ⟨⟨l⟩⟩) = fnd os l from rfl] at k
  cases e : fnd os l with
  | none => rw [e] at k; exact itp rfl ⟨one, k⟩
  | some c =>
   rw [e] at k g
   exact itn (by intro z; cases z) ⟨_, _, _, _, hp, T.aV, T.bu, lkb _, d, _, rfl, g, k⟩
 ·have e := qR ht hx
  have e2 : gH os x1 = none := by
   cases x1 with
   | str y => exact absurd ⟨y.cps.toList, rfl⟩ hx
   | _ => rfl
  rw [e2] at k
  walk_at "rd"
  simp only [ht]
  exact itp e ⟨one, k⟩
theorem sF {β : Type} {l : List β} {x : β} (h : l.Nodup) (n : x ∉ l) : (l ++ [x]).Nodup :=
 List.nodup_append.mpr ⟨h, Yt.mpr ⟨uD, List.nodup_nil⟩, fun a ha b hb => by rw [zY.mp hb]; rintro rfl; exact n ha⟩
theorem ug {H H' : Hp} {x dx : Addr} {o o' : HO} (hx : H x = none) (hd : H dx = none) (kp : Keep [x] (upd (upd H dx o) x o') H') : Keep [] H H' := fun c z e _ => by
 have n1 : c ≠ x := ar e hx
 have n2 : c ≠ dx := ar e hd
 exact kp c z (by rw [ay n1, ay n2]; exact e) (by simpa using n1)
theorem uJ {H : Hp} {x dx b : Addr} {o o' : HO} (h : upd (upd H dx o) x o' b = none) : H b = none := by
 have n1 : b ≠ x := fun z => by rw [z, al] at h; cases h
 rw [ay n1] at h
 have n2 : b ≠ dx := fun z => by rw [z, al] at h; cases h
 rw [ay n2] at h; exact h
theorem AN {x : V} (h : nameV x = true) : ∃ l, x = L2.T l := by
 cases x with
 | str y => exact ⟨y.cps.toList, rfl⟩
 | _ => cases h
theorem BX {os : List Bd} {l : List Nat} (h : fnd os l = none) (o : Bd) (e : o.nm = l) : fG (os.map kyO) (.inr ⟨⟨l⟩⟩) (.ref o.ob) = (os ++ [o]).map kyO := by
 rw [xl _ (by rw [oY, h]; rfl), qc, <- e]; rfl
theorem SAt.more {S O : Addr} {H H' : Hp} {p d : Addr} {os : List Bd} (J : SAt S O H p d os) (kp : Keep [] H H') {o : Bd} (hf : fnd os o.nm = none) (h0 : H o.ob = none) (hc : OAt O H' o) :
 SAt S O (upd H' d (.dK ((os ++ [o]).map kyO))) p d (os ++ [o]) := by
 have J1 := J.keep kp uD uD fun _ _ => ⟨uD, uD, uD, uD⟩
 have dn := J1.dc
 have ku : Keep [d] H' (upd H' d (.dK ((os ++ [o]).map kyO))) := Keep.refl.put (.head _)
 have no : ∀ {x : Addr} {z : HO}, H' x = some z -> (∀ l, z ≠ .dK l) -> x ∉ [d] := fun e n m => cS e dn (fun q => n _ q) (zY.mp m)
 have ok : ∀ z, OAt O H' z -> OAt O (upd H' d (.dK ((os ++ [o]).map kyO))) z := fun z hz => by
  obtain ⟨dz, e⟩ := hz.ob
  exact hz.keep ku ⟨no e (by intro _ z; cases z), no hz.ag.ag (by intro _ z; cases z), no hz.ag.wt (by intro _ z; cases z), no hz.pa (by intro _ z; cases z)⟩
 refine ⟨?_, al, fun z hz => ?_, ?_, ?_⟩
 ·obtain ⟨dx, e⟩ := J1.ob
  exact ⟨dx, ku _ _ e (no e (by intro _ z; cases z))⟩
 ·rcases uO.mp hz with hz | hz
  ·exact ok z (J1.od z hz)
  ·rw [zY.mp hz]; exact ok o hc
 ·rw [qc]
  refine sF J.np fun h => ?_
  obtain ⟨z, hz, e⟩ := Zp.mp h
  exact xg hf z hz e
 ·rw [qc]
  refine sF J.na fun h => ?_
  obtain ⟨z, hz, e⟩ := Zp.mp h
  obtain ⟨dz, eo⟩ := (J.od z hz).ob
  rw [e, h0] at eo; cases eo
theorem pL (x : V) : Zk (sV "budget") [(sV "by_name", x)] = none := by rw [oB (by decide +kernel)]; rfl
def sp_wG (S O : Addr) : Sp := sp1 fun x H Q _ => NoT H /\ asR x fun p => ∃ d os, SAt S O H p d os /\ os.length < 64 /\ ∀ out : List (List Nat), out.Perm (os.map (·.nm)) -> InO out -> ∀ q, H q = none -> Q (.ref q) (upd H q (.lst (out.map L2.T)))
theorem pU (T : Txt K mg a) : bz P w K mg base (XE P w) 1 a.eI a.h_ ["self"] (sp_wG a.av a.aA) := by
 refine T.jh.okG pM (fun vs H Q E h => sp1.len h) (fun cdv A outer s H vs Q E hr h => ?_)
 obtain ⟨x0, rfl, h⟩ := sp1.inv h
 try dsimp only [sp_wG, sp1] at h
 obtain ⟨hN, h1⟩ := h
 obtain ⟨p, rfl, d, os, J, h64, k⟩ := asR.inv h1
 obtain ⟨dx, hp⟩ := J.ob
 refine ⟨hN, _, (aj (aD (aB (BD rfl) rfl T.oE lc (FA.pa (aa (eV K (fv 0)) ad))))), ?_⟩
 walk_at "rd"
 refine ⟨_, _, _, _, hp, T.aV, T.bu, lkb _, _, os.map (·.nm), J.dc, by rw [uY, uY]; rfl, by rw [zl]; exact h64, fun out h1 h2 q hq => ⟨_, Gc.one (aJ _ hq) hq al rfl, k out h1 h2 q hq⟩⟩
def sp_xL (S O no : Addr) : Sp := sp2 fun x y H Q E => NoT H /\ asR x fun p => asK H y fun _ => ∃ d os, SAt S O H p d os /\ xJ (H := H) E no (gH os y) fun c => Q (.ref c.ag) H
theorem g_ (T : Txt K mg a) : bz P w K mg base (XE P w) 2 a.eL a.h9 ["self", "name"] (sp_xL a.av a.aA a.aG) := by
 refine T.eN.okG pG (fun vs H Q E h => sp2.len h) (fun cdv A outer s H vs Q E hr h => ?_)
 obtain ⟨x0, x1, rfl, h⟩ := sp2.inv h
 try dsimp only [sp_xL, sp2] at h
 obtain ⟨hN, h1⟩ := h
 obtain ⟨p, rfl, h2⟩ := asR.inv h1
 obtain ⟨t, ht, hb, d, os, J, k⟩ := asK.inv h2
 obtain ⟨dx, hp⟩ := J.ob
 have G_Budgets_budget := @dL P w K mg base a T
 have b_Budgets_budget := dQ T.dg
 refine ⟨hN, _, (aj (aD (eV K (bX (fv 0) T.aV T.dH G_Budgets_budget (hr.mono (by decide)) b_Budgets_budget .nil aQ (FA.pa (aa (fv 1) ad)))))), ?_⟩
 walk_at "rd"
 refine ⟨_, _, hp, pL _, hN, asK.of ht ⟨d, os, J, ?_⟩⟩
 cases e : gH os x1 with
 | none => rw [e] at k; exact ⟨H, Gc.none (Same.refl _), k⟩
 | some c =>
  rw [e] at k
  obtain ⟨dc, ho⟩ := (J.od c (oz e)).ob
  exact ⟨_, _, _, _, ho, T.eX, T.jg, HC .., k⟩
def sp_zY (S O no : Addr) : Sp := sp2 fun x y H Q E => NoT H /\ asR x fun p => asK H y fun _ => ∃ d os, SAt S O H p d os /\ xJ (H := H) E no (gH os y) fun c => ∀ H', SAt S O H' p d (os.filter fun o => decide (o.nm ≠ c.nm)) -> Keep [d] H H' -> NoT H' -> Q .non H'
theorem iP (T : Txt K mg a) : bz P w K mg base (XE P w) 2 a.fE a.jc ["self", "name"] (sp_zY a.av a.aA a.aG) := by
 refine T.fP.okX qE (fun vs H Q E h => sp2.len h) (fun cdv A outer s H vs Q E hr h => ?_)
 obtain ⟨x0, x1, rfl, h⟩ := sp2.inv h
 try dsimp only [sp_zY, sp2] at h
 obtain ⟨hN, h1⟩ := h
 obtain ⟨p, rfl, h2⟩ := asR.inv h1
 obtain ⟨t, ht, hb, d, os, J, k⟩ := asK.inv h2
 obtain ⟨dx, hp⟩ := J.ob
 have G_Budgets_budget := @dL P w K mg base a T
 have b_Budgets_budget := dQ T.dg
 refine ⟨_, (ae (bZ (bX (fv 0) T.aV T.dH G_Budgets_budget (hr.mono (by decide)) b_Budgets_budget .nil aQ (FA.pa (aa (fv 1) ad))))
  (aj (bZ (xk (eV K (fv 0)) (fv 1) ⟨rfl, rfl, rfl, rfl⟩)))), ?_⟩
 walk_at "rd"
 refine ⟨_, _, hp, pL _, hN, asK.of ht ⟨d, os, J, ?_⟩⟩
 cases e : gH os x1 with
 | none => rw [e] at k; exact k
 | some c =>
  rw [e] at k
  have hc := oz e
  obtain ⟨l, rfl, e1⟩ := xx e
  refine ⟨_, _, _, _, hp, T.aV, T.bu, lkb _, d, rfl, .inl ⟨_, .inl J.dc⟩, _, .inr ⟨⟨l⟩⟩, .ref c.ob, J.dc, rfl, by rw [oY, e1]; rfl, ?_⟩
  have ed : k7 (os.map kyO) (.inr ⟨⟨l⟩⟩) = (os.filter fun o => decide (o.nm ≠ c.nm)).map kyO := by
   unfold k7
   rw [YW, (gE e1).2]
   congr 1
   apply List.filter_congr
   intro o _
   show decide ((Sum.inr ⟨⟨o.nm⟩⟩ : Key) ≠ Sum.inr ⟨⟨l⟩⟩) = decide (o.nm ≠ l)
   exact decide_eq_decide.mpr ⟨fun h z => h (by rw [z]), fun h z => h (by cases z; rfl)⟩
  rw [ed]
  have ku : Keep [d] H (upd H d (.dK ((os.filter fun o => decide (o.nm ≠ c.nm)).map kyO))) := Keep.refl.put (.head _)
  have no : ∀ {x : Addr} {z : HO}, H x = some z -> (∀ l, z ≠ .dK l) -> x ∉ [d] := fun e n m => cS e J.dc (fun q => n _ q) (zY.mp m)
  refine k _ ⟨⟨dx, ku _ _ hp (no hp (by intro _ z; cases z))⟩, al, fun o ho => ?_, J.np.sublist (List.filter_sublist.map _), J.na.sublist (List.filter_sublist.map _)⟩ ku (aS hN rfl)
  have hz := J.od o (Z3.mp ho).1
  obtain ⟨dz, eo⟩ := hz.ob
  exact hz.keep ku ⟨no eo (by intro _ z; cases z), no hz.ag.ag (by intro _ z; cases z), no hz.ag.wt (by intro _ z; cases z), no hz.pa (by intro _ z; cases z)⟩
theorem fO (s : String) (x : V) (h : ¬ (sV "by_name" = sV s) := by decide +kernel) : Zk (sV s) [(sV "by_name", x)] = none := by rw [oB (by simpa using fun z => h z.symm)]; rfl
noncomputable def plB (b : Bd) (m : Int) : Int := ((mm b.t b.ws).take (m - b.f + 1).toNat).sum
def sp_zl (S O no : Addr) : Sp := sp3 fun x y z H Q E => NoT H /\ asR x fun p => asI z fun m => asK H y fun _ => ∃ d os, SAt S O H p d os /\ xJ (H := H) E no (gH os y) fun c => Q (.int (plB c m)) H
theorem cP (T : Txt K mg a) : bz P w K mg base (XE P w) 2 a.cX a.dX ["self", "name", "month"] (sp_zl a.av a.aA a.aG) := by
 refine T.ck.okG dY (fun vs H Q E h => sp3.len h) (fun cdv A outer s H vs Q E hr h => ?_)
 obtain ⟨x0, x1, x2, rfl, h⟩ := sp3.inv h
 try dsimp only [sp_zl, sp3] at h
 have ND := dY.nd
 obtain ⟨hN, h1⟩ := h
 obtain ⟨p, rfl, h2⟩ := asR.inv h1
 obtain ⟨m, rfl, h3⟩ := asI.inv h2
 obtain ⟨t, ht, hb, d, os, J, k⟩ := asK.inv h3
 obtain ⟨dx, hp⟩ := J.ob
 have G_Budgets_budget := @dL P w K mg base a T
 have b_Budgets_budget := dQ T.dg
 refine ⟨hN, _, (ae (aE (i := 3) ND rfl (Or.inl rfl) (bX (fv 0) T.aV T.dH G_Budgets_budget (hr.mono (by decide)) b_Budgets_budget .nil aQ (FA.pa (aa (fv 1) ad))))
  (aj (aD (aB (ow K rfl) rfl T.wJ rA (FA.pa (aa (cY (fj K) (eV K (fv 3)) dN (dP (aB (Fa rfl) rfl T.G9 Fz (FA.pa (aa ac (aa (ak aY (ak cC (fv 2) (eV K (fv 3))) ac) ad)))))) ad)))))), ?_⟩
 walk_at "rd"
 refine ⟨_, _, hp, pL _, hN, asK.of ht ⟨d, os, J, ?_⟩⟩
 cases e : gH os x1 with
 | none => rw [e] at k; exact ⟨H, Gc.none (Same.refl _), k⟩
 | some c =>
  rw [e] at k
  obtain ⟨dc, ho⟩ := (J.od c (oz e)).ob
  dsimp only [xJ]
  refine ⟨_, _, _, _, ho, T.eX, T.j5, HE .., _, _, _, _, ho, T.eX, T.j7, HF .., ?_⟩
  walk_at "rd"
  obtain ⟨i, ei, i0, i1⟩ : ∃ i : Int, (if 0 < m - c.f + 1 then m - c.f + 1 else 0) = i /\ 0 <= i /\ i.toNat = (m - c.f + 1).toNat := ⟨_, rfl, by split <;> omega, by split <;> omega⟩
  rw [show (if m - c.f + 1 > 0 then m - c.f + 1 else 0) = i from ei]
  refine ⟨c.pa, _, rfl, SqL.of (J.od c (oz e)).pa, fun q fq => ?_⟩
  rw [kQ _ i0, <- YO, i1]
  exact ⟨_, .inl (SqL.of al), H, Gc.none (aJ _ fq), k⟩
def sp_zu (S O no : Addr) : Sp := sp3 fun x y z H Q E => NoT H /\ asR x fun p => asI z fun m => asK H y fun _ => ∃ d os, SAt S O H p d os /\ xJ (H := H) E no (gH os y) fun c => Q (.int (plB c m - plB c (m - 1))) H
theorem fD (T : Txt K mg a) : bz P w K mg base (XE P w) 3 a.dM a.fK ["self", "name", "month"] (sp_zu a.av a.aA a.aG) := by
 refine T.dJ.okG m5 (fun vs H Q E h => sp3.len h) (fun cdv A outer s H vs Q E hr h => ?_)
 obtain ⟨x0, x1, x2, rfl, h⟩ := sp3.inv h
 try dsimp only [sp_zu, sp3] at h
 obtain ⟨hN, h1⟩ := h
 obtain ⟨p, rfl, h2⟩ := asR.inv h1
 obtain ⟨m, rfl, h3⟩ := asI.inv h2
 obtain ⟨t, ht, hb, d, os, J, k⟩ := asK.inv h3
 obtain ⟨dx, hp⟩ := J.ob
 have G_Budgets_planned_by := @cP P w K mg base a T
 have b_Budgets_planned_by := cM T.ck
 refine ⟨hN, _, (aj (aD (ak cC (bX (fv 0) T.aV T.cb G_Budgets_planned_by (hr.mono (by decide)) b_Budgets_planned_by .nil aQ (FA.pa (aa (fv 1) (aa (fv 2) ad)))) (bX (fv 0) T.aV T.cb G_Budgets_planned_by (hr.mono (by decide)) b_Budgets_planned_by .nil aQ (FA.pa (aa (fv 1) (aa (ak cC (fv 2) ac) ad))))))), ?_⟩
 walk_at "rd"
 refine ⟨_, _, hp, fO "planned_by" _, hN, asK.of ht ⟨d, os, J, ?_⟩⟩
 cases e : gH os x1 with
 | none => rw [e] at k; exact ⟨H, Gc.none (Same.refl _), k⟩
 | some c =>
  rw [e] at k
  dsimp only [xJ]
  refine ⟨_, _, hp, fO "planned_by" _, hN, asK.of ht ⟨d, os, J, ?_⟩⟩
  rw [e]
  dsimp only [xJ]
  walk_at "rd"
  exact k
open K5
structure Tm where
 n : V
 p : V
 c : V
 f : V
 l : V
 t : V
 w : V
def Tm.vs (x : Tm) : List V := [x.n, x.p, x.c, x.f, x.l, x.t, x.w]
def WtX (H : Hp) (w : V) : Prop := (∃ q xs, w = .ref q /\ H q = some (.lst xs) /\ xs.length <= 4000 /\ ∀ y ∈ xs, Kd H y) \/ (∃ t, aZ H w = some t /\ bJ t "list" = false)
structure TOk (H : Hp) (x : Tm) : Prop where
 n : okV x.n /\ Kd H x.n
 p : okP x.p /\ Kd H x.p
 c : okV x.c /\ Kd H x.c
 f : Kd H x.f
 l : Kd H x.l
 t : Kd H x.t
 w : WtX H x.w
def wlV (H : Hp) : V -> Option (List V)
 | .ref q => match H q with
  | some (.lst xs) => some xs
  | _ => none
 | _ => none
def lnV (n : Nat) : V -> V -> Bool
 | .int f, .int l => decide ((n : Int) = l - f + 1)
 | _, _ => false
def shV (H : Hp) (x : Tm) : Bool := match wlV H x.w with
 | some xs => wOk xs && lnV xs.length x.f x.l
 | none => false
def duB (H : Hp) (bs : List Bd) (x : Tm) : Nat :=
 if nameV x.n = true then if je x.p = true then if sM x.c = true then if mns x.f x.l = true then if amg x.t (-1000000000000000) 1000000000000000 = true then if shV H x = true then
  if (gH bs x.n).isSome = true then 6 else 8 else 5 else 4 else 3 else 2 else 1 else 0
def WCS (a : Adr) : List Addr := [a.aT, a.aU, a.az, a.aP, a.aI, a.aN, a.bc, a.aG]
structure BOf (H : Hp) (x : Tm) (b : Bd) : Prop where
 n : x.n = L2.T b.nm
 p : x.p = L2.T b.pt
 c : x.c = L2.T b.cu
 f : x.f = .int b.f
 l : x.l = .int b.l
 t : x.t = .int b.t
 w : wlV H x.w = some (b.ws.map V.int)
 ok : (∀ w ∈ b.ws, 0 <= w /\ w <= 1000000000) /\ 1 <= b.ws.length /\ b.ws.length <= 60 /\ 0 < b.ws.sum
 ln : (b.ws.length : Int) = b.l - b.f + 1
 fl : 0 <= b.f /\ b.l <= 4799
 tt : -1000000000000000 <= b.t /\ b.t <= 1000000000000000
theorem BP {H : Hp} {w : V} {xs : List V} (h : wlV H w = some xs) : ∃ q, w = .ref q /\ H q = some (.lst xs) := by
 cases w with
 | ref q =>
  refine ⟨q, rfl, ?_⟩
  change (match H q with | some (.lst xs) => some xs | _ => none) = some xs at h
  split at h
  ·rename_i ys e; cases h; exact e
  ·cases h
 | _ => cases h
theorem jH {H : Hp} {q : Addr} {xs : List V} (h : H q = some (.lst xs)) : wlV H (.ref q) = some xs := by
 show (match H q with | some (.lst xs) => some xs | _ => none) = some xs
 rw [h]
theorem DR {x : V} (h : je x = true) : ∃ l, x = L2.T l := by
 cases x with
 | str y => exact ⟨y.cps.toList, rfl⟩
 | _ => cases h
theorem qV {x y : V} (h : mns x y = true) : ∃ i j, x = .int i /\ y = .int j /\ 0 <= i /\ i <= j /\ j <= 4799 /\ j < i + 60 := by
 unfold mns at h
 rw [ZO, ZO] at h
 obtain ⟨i, rfl, i0, i1⟩ := lb h.1.1
 obtain ⟨j, rfl, j0, j1⟩ := lb h.1.2
 have h2 : (decide (i <= j) && decide (j < i + 60)) = true := h.2
 rw [ZO, decide_eq_true_eq, decide_eq_true_eq] at h2
 exact ⟨i, j, rfl, rfl, i0, h2.1, j1, h2.2⟩
def sp_zA (a : Adr) : Sp := sp8 fun s n p c f l t w H Q E => NoT H /\ asR s fun sp => ∃ d bs x, x = ⟨n, p, c, f, l, t, w⟩ /\ TOk H x /\ SAt a.av a.aA H sp d bs /\ bs.length <= 50 /\
 (∀ C, (WCS a)[duB H bs x]? = some C -> ∀ H', Same H H' -> NoT H' -> E (.ref C) none H') /\
 (duB H bs x = 8 -> ∀ b H', BOf H x b -> H b.ob = none -> H b.pa = none -> SAt a.av a.aA H' sp d (bs ++ [b]) -> Keep [d] H H' -> NoT H' -> Q .non H')
theorem jV (T : Txt K mg a) : bz P w K mg base (XE P w) 6 a.gT a.ky ["self", "name", "path", "currency", "first", "last", "total", "weights"] (sp_zA a) := by
 refine T.gP.okX jA (fun vs H Q E h => sp8.len h) (fun cdv A outer s H vs Q E hr h => ?_)
 obtain ⟨x0, x1, x2, x3, x4, x5, x6, x7, rfl, h⟩ := sp8.inv h
 try dsimp only [sp_zA, sp8] at h
 have ND := jA.nd
 have HU := bA hr
 obtain ⟨hN, h1⟩ := h
 obtain ⟨p, rfl, d, bs, x, ex, ok, J, len, ke, kk⟩ := asR.inv h1
 obtain ⟨dx, hp⟩ := J.ob
 have one : 1 <= sizeLine := by rw [uT]; decide
 have sz := szl
 subst ex
 obtain ⟨⟨on, tn, hn⟩, ⟨op, tp, htp⟩, ⟨oc, tc, hc⟩, ⟨tf, hf⟩, ⟨tl, hl⟩, ⟨tt, ht⟩, hw⟩ := ok
 dsimp only at on hn op htp oc hc hf hl ht hw
 unfold duB at ke kk
 dsimp only at ke kk
 have G_Budget___init__ := @nv P w K mg base a T
 have b_Budget___init__ := m7 T.fX
 have G_shared := @uE P w K mg base a T
 have b_shared := vc T.jE
 have G_is_amount := @vX P w K mg base a T
 have b_is_amount := vm T.jU
 have G_are_months := @tD P w K mg base a T
 have b_are_months := tU T.iD
 have G_is_currency := @rQ P w K mg base a T
 have b_is_currency := sP T.gF
 have G_is_path := @zb P w K mg base a T
 have b_is_path := yV T.pO
 have G_is_name := @rY P w K mg base a T
 have b_is_name := rb T.gX
 refine ⟨_, (ae (a9 (cw (bO (au G_is_name (hr.mono (by decide)) rfl T.uj T.gX.kp b_is_name .nil aQ (FA.pa (aa (fv 1) ad))))) (aj (dO T.AF nV rfl rfl T.u_ eR (FA.pa (aa (aq [116, 104, 105, 115, 32, 105, 115, 32, 110, 111, 32, 110, 97, 109, 101]) ad)))) aL)
  (ae (a9 (cw (bO (au G_is_path (hr.mono (by decide)) rfl T.Al T.pO.kp b_is_path .nil aQ (FA.pa (aa (fv 2) ad))))) (aj (dO T.AB nV rfl rfl T.uP eR (FA.pa (aa (aq [116, 104, 105, 115, 32, 105, 115, 32, 110, 111, 32, 112, 97, 116, 104]) ad)))) aL)
  (ae (a9 (cw (bO (au G_is_currency (hr.mono (by decide)) rfl T.tG T.gF.kp b_is_currency .nil aQ (FA.pa (aa (fv 3) ad))))) (aj (dO T.tZ nV rfl rfl T.ms eR (FA.pa (aa (aq [116, 104, 105, 115, 32, 105, 115, 32, 110, 111, 32, 99, 117, 114, 114, 101, 110, 99, 121]) ad)))) aL)
  (ae (a9 (cw (bO (au G_are_months (hr.mono (by decide)) rfl T.vH T.iD.kp b_are_months .nil aQ (FA.pa (aa (fv 4) (aa (fv 5) ad)))))) (aj (dO T.yR nV rfl rfl T.rO eR (FA.pa (aa (aq [116, 104, 101, 115, 101, 32, 97, 114, 101, 32, 110, 111, 32, 109, 111, 110, 116, 104, 115, 32, 102, 114, 111, 109, 32, 97, 32, 102, 105, 114, 115, 116, 32, 116, 111, 32, 97, 32, 108, 97, 115, 116, 32, 111, 110, 101, 44, 32, 54, 48, 32, 97, 116, 32, 109, 111, 115, 116]) ad)))) aL)
  (ae (a9 (cw (bO (au G_is_amount (hr.mono (by decide)) rfl T.wT T.jU.kp b_is_amount .nil aQ (FA.pa (aa (fv 6) ad))))) (aj (dO T.yg nV rfl rfl T.qk eR (FA.pa (aa (aq [116, 104, 105, 115, 32, 105, 115, 32, 110, 111, 32, 97, 109, 111, 117, 110, 116]) ad)))) aL)
  (ae (aE (i := 8) ND rfl (Or.inl rfl) (au G_shared (hr.mono (by decide)) rfl T.wW T.jE.kp b_shared .nil aQ (FA.pa (aa (fv 6) (aa (fv 7) ad)))))
  (ae (a9 (ba (ii K HU) (aB (eh K) rfl T.lX gN (FA.pa (aa (fv 8) ad))) (ak aY (ak cC (fv 5) (fv 4)) ac) (aW _)) (aj (dO T.rp nV rfl rfl T.mF eR (FA.pa (aa (aq [116, 104, 101, 114, 101, 32, 105, 115, 32, 116, 111, 32, 98, 101, 32, 111, 110, 101, 32, 119, 101, 105, 103, 104, 116, 32, 102, 111, 114, 32, 101, 97, 99, 104, 32, 109, 111, 110, 116, 104]) ad)))) aL)
  (ae (a9 (sJ (yS (Zv HU) (fv 1) (eV K (fv 0))) (by with_unfolding_all rfl)) (aj (dO T.Dm nV rfl rfl T.zF eR (FA.pa (aa (aq [116, 104, 101, 114, 101, 32, 105, 115, 32, 115, 117, 99, 104, 32, 97, 32, 98, 117, 100, 103, 101, 116]) ad)))) aL)
  (aj (qU (Zv HU) (eV K (fv 0)) (fv 1) (BJ T.AX G_Budget___init__ (hr.mono (by decide)) rfl T.Cb b_Budget___init__ .nil aQ (FA.pa (aa (dW (FA.pa (aa (fv 2) (aa (fv 3) (aa (fv 4) (aa (fv 5) (aa (fv 6) (aa (dB (sU K) rfl T.qQ oW (FA.pa (aa (fv 7) ad))) ad)))))))) (aa (fv 8) ad)))) rfl)))))))))), ?_⟩
 walk_at "rd"
 refine ⟨hN, on, asK.of hn ?_⟩
 cases e1 : nameV x1 with
 | false => rw [e1] at ke; exact itp rfl ⟨one, ke _ rfl H (Same.refl _) hN⟩
 | true =>
 rw [if_pos e1] at ke kk
 refine itn (by decide) ⟨hN, op, asK.of htp ?_⟩
 cases e2 : je x2 with
 | false => rw [e2] at ke; exact itp rfl ⟨one, ke _ rfl H (Same.refl _) hN⟩
 | true =>
 rw [if_pos e2] at ke kk
 refine itn (by decide) ⟨hN, oc, asK.of hc ?_⟩
 cases e3 : sM x3 with
 | false => rw [e3] at ke; exact itp rfl ⟨one, ke _ rfl H (Same.refl _) hN⟩
 | true =>
 rw [if_pos e3] at ke kk
 refine itn (by decide) ⟨hN, asK.of hf (asK.of hl ?_)⟩
 cases e4 : mns x4 x5 with
 | false => rw [e4] at ke; exact itp rfl ⟨one, ke _ rfl H (Same.refl _) hN⟩
 | true =>
 rw [if_pos e4] at ke kk
 refine itn (by decide) ⟨hN, asK.of ht ?_⟩
 cases e5 : amg x6 (-1000000000000000) 1000000000000000 with
 | false => rw [e5] at ke; exact itp rfl ⟨one, ke _ rfl H (Same.refl _) hN⟩
 | true =>
 rw [if_pos e5] at ke kk
 refine itn (by decide) ?_
 obtain ⟨am, rfl, am0, am1⟩ := lb e5
 obtain ⟨f, l, rfl, rfl, f0, fl, l1, fl6⟩ := qV e4
 obtain ⟨nm, rfl⟩ := AN e1
 obtain ⟨pt, rfl⟩ := DR e2
 obtain ⟨cu, rfl, _⟩ := CG e3
 refine ⟨hN, ⟨by omega, by omega⟩, ?_⟩
 rcases hw with ⟨q, xs, rfl, hq, lz, kx⟩ | ⟨t, hk, hi⟩
 ·refine .inl ⟨q, xs, rfl, hq, lz, kx, ?_⟩
  have ew := jH hq
  cases e6 : wOk xs with
  | false =>
   have es : shV H ⟨L2.T nm, L2.T pt, L2.T cu, .int f, .int l, .int am, .ref q⟩ = false := by unfold shV; dsimp only; rw [ew]; dsimp only; rw [e6]; rfl
   rw [es] at ke
   exact itn (by decide) (ke _ rfl H (Same.refl _) hN)
  | true =>
   refine itp rfl fun ws ews q2 f2 => ?_
   subst ews
   obtain ⟨H1, ee, s1, g1, N1⟩ := alloc (o := HO.lst ((mm am ws).map V.int)) f2 hN rfl
   rw [ee]
   refine ⟨_, .inl (SqL.of g1), ?_⟩
   walk_at "rd"
   rw [zl, uH]
   by_cases e7 : (ws.length : Int) = l - f + 1
   case neg =>
    have es : shV H ⟨L2.T nm, L2.T pt, L2.T cu, .int f, .int l, .int am, .ref q⟩ = false := by
     unfold shV; dsimp only; rw [ew]; dsimp only; rw [e6, zl]
     show decide ((ws.length : Int) = l - f + 1) = false
     exact decide_eq_false e7
    rw [es] at ke
    exact itn e7 ⟨one, ke _ rfl H1 s1 N1⟩
   have es : shV H ⟨L2.T nm, L2.T pt, L2.T cu, .int f, .int l, .int am, .ref q⟩ = true := by
    unfold shV; dsimp only; rw [ew]; dsimp only; rw [e6, zl]
    show decide ((ws.length : Int) = l - f + 1) = true
    exact decide_eq_true e7
   rw [if_pos es] at ke kk
   change ∀ C, (WCS a)[ite ((fnd bs nm).isSome = true) 6 8]? = some C -> _ at ke
   change ite ((fnd bs nm).isSome = true) 6 8 = 8 -> _ at kk
   refine itp e7 ?_
   have J1 := J.same s1
   obtain ⟨dx1, hp1⟩ := J1.ob
   have g := DGet.k (k := .inr ⟨⟨nm⟩⟩) J1.dc
   rw [oY] at g
   refine ⟨_, _, _, _, hp1, T.aV, T.bu, lkb _, d, _, rfl, g, ?_⟩
   rw [ZA]
   cases ef : fnd bs nm with
   | some o => rw [ef] at ke; exact itp rfl ⟨one, ke _ rfl H1 s1 N1⟩
   | none =>
    rw [ef, if_neg (by intro z; cases z)] at kk
    refine itn (by intro z; cases z) ?_
    refine ⟨_, .inl ⟨SqL.of (s1 _ _ hq), fun wt fwt => ?_⟩⟩
    obtain ⟨H2, ee, s2, g2, N2⟩ := alloc (o := HO.tup (ws.map V.int)) fwt N1 rfl
    rw [ee]
    refine ⟨by omega, fun ag fag => ?_⟩
    obtain ⟨H3, ee, s3, g3, N3⟩ := alloc (o := HO.tup [L2.T pt, L2.T cu, V.int f, V.int l, V.int am, V.ref wt]) fag N2 rfl
    rw [ee]
    intro x dx hx hdx ne
    refine ⟨dx, _, f, al, (ay (ar g3 hx)).trans ((ay (ar g3 hdx)).trans g3), cJ (j := 2) rfl, ?_⟩
    rw [qX]
    have s6 : Same H3 (upd (upd H3 dx (.own x)) x (.ins a.aA dx (pV (.ref ag) (.int f) (.ref q2)))) := fun c z e => by rw [ay (ar e hx), ay (ar e hdx)]; exact e
    have N6 : NoT (upd (upd H3 dx (.own x)) x (.ins a.aA dx (pV (.ref ag) (.int f) (.ref q2)))) := aS (aS N3 rfl) rfl
    have g6 : upd (upd H3 dx (.own x)) x (.ins a.aA dx (pV (.ref ag) (.int f) (.ref q2))) x = _ := al
    generalize upd (upd H3 dx (.own x)) x (.ins a.aA dx (pV (.ref ag) (.int f) (.ref q2))) = H6 at s6 N6 g6 |-
    have s13 := s1.trans (s2.trans s3)
    have s16 := s13.trans s6
    have J6 := J.same s16
    obtain ⟨dx6, hp6⟩ := J6.ob
    refine ⟨_, _, _, _, hp6, T.aV, T.bu, lkb _, d, _, rfl, DPut.k (k := .inr ⟨⟨nm⟩⟩) J6.dc (by rw [zl]; omega), ?_⟩
    rw [BX ef ⟨nm, x, ag, wt, q2, pt, cu, f, l, am, ws⟩ rfl]
    obtain ⟨ws', ews, wb, w1, w60, wS⟩ := Ac e6
    have ews : ws = ws' := (List.map_inj_right (f := V.int) fun a b h => V.int.inj h).mp ews
    subst ews
    exact kk rfl ⟨nm, x, ag, wt, q2, pt, cu, f, l, am, ws⟩ _ ⟨rfl, rfl, rfl, rfl, rfl, rfl, ew, ⟨wb, w1, w60, wS⟩, e7, ⟨f0, l1⟩, ⟨am0, am1⟩⟩ (s13.free hx) f2 (J.more (Keep.same s16) (o := ⟨nm, x, ag, wt, q2, pt, cu, f, l, am, ws⟩) ef (s13.free hx) ⟨⟨dx, g6⟩, ⟨s6 _ _ g3, s6 _ _ (s3 _ _ g2)⟩, s6 _ _ (s3 _ _ (s2 _ _ g1))⟩) ((Keep.same s16).put (.head _)) (aS N6 rfl)
 ·refine .inr ⟨t, hk, hi, ?_⟩
  have es : shV H ⟨L2.T nm, L2.T pt, L2.T cu, .int f, .int l, .int am, x7⟩ = false := by
   have e : wlV H x7 = none := by
    cases h : wlV H x7 with
    | none => rfl
    | some xs =>
     obtain ⟨q, rfl, hq⟩ := BP h
     have : aZ H (.ref q) = some "list" := by simp [aZ, hq]
     rw [this] at hk; cases hk; cases hi
   unfold shV; dsimp only; rw [e]
  rw [es] at ke
  exact ke _ rfl H (Same.refl _) hN
open K5
def sp_at (K : W.Frag) : Sp := sp2 fun x y H Q _ => asR x fun p => asI y fun k => ∃ ns : List Int, SqL K H p (ns.map V.int) /\ 0 <= k /\ Q (.int (ns.getD k.toNat 0)) H
theorem qH (T : Txt K mg a) : bz P w K mg base (XE P w) 1 a.fU a.iU ["_law_script", "_law_k"] (sp_at K) := by
 refine T.cy.okX qN (fun vs H Q E h => sp2.len h) (fun cdv A outer s H vs Q E hr h => ?_)
 obtain ⟨x0, x1, rfl, h⟩ := sp2.inv h
 try dsimp only [sp_at, sp2] at h
 obtain ⟨p, rfl, h1⟩ := asR.inv h
 obtain ⟨k, rfl, ns, hp, k0, q⟩ := asI.inv h1
 refine ⟨_, (ae (a9 (ba EG (fv 1) (aB (eh K) rfl T.lX gN (FA.pa (aa (fv 0) ad))) (aW _)) (aj (aD (aH (ao K) (fv 0) (fv 1) (fun _ _ => rfl)))) aL)
  (aj (aD ac))), ?_⟩
 walk_at "rd"
 refine ⟨_, .inl hp, ?_⟩
 rw [zl]
 by_cases hk : k < ns.length
 ·exact itp hk ⟨_, _, .inl hp, yr k0 hk, q⟩
 ·have g : ns.getD k.toNat 0 = 0 := by
   have l : ns.length <= k.toNat := by omega
   simp [List.getD, l]
  rw [g] at q
  exact itn hk q
def sp_xC : Sp := sp2 fun x y H Q _ => asI x fun c => asI y fun k => (0 <= k /\ k <= 1000) /\ ∀ i, 0 <= i -> i < 2147483647 -> Q (.int i) H
theorem dh (T : Txt K mg a) : bz P w K mg base (XE P w) 1 a.iG a.mh ["_law_cell", "_law_k"] sp_xC := by
 refine T.aX.okX tL (fun vs H Q E h => sp2.len h) (fun cdv A outer s H vs Q E hr h => ?_)
 obtain ⟨x0, x1, rfl, h⟩ := sp2.inv h
 try dsimp only [sp_xC, sp2] at h
 obtain ⟨c, rfl, h2⟩ := asI.inv h
 obtain ⟨k, rfl, hk, q⟩ := asI.inv h2
 refine ⟨_, (aj (aD (ak aO (ak aY (ak aY (ak aY (ak fM (fv 0) ac) (ak fM (ak fM ac (fv 1)) (fv 1))) (ak fM ac (fv 1))) ac) ac))), ?_⟩
 walk_at "rd"
 exact ⟨.inr (by omega), q _ (Ys _ (by decide)) (Yb _ (by decide))⟩
abbrev Cm : List Nat := [110, 97, 109, 101]
abbrev CO : List Nat := [112, 97, 116, 104]
abbrev pI : List Nat := [99, 117, 114, 114, 101, 110, 99, 121]
abbrev y_ : List Nat := [109, 111, 110, 116, 104]
abbrev v4 : List Nat := [97, 109, 111, 117, 110, 116]
abbrev vR : List Nat := [115, 104, 97, 114, 101]
abbrev pP : List Nat := [116, 119, 105, 99, 101]
abbrev zK : List Nat := [110, 111, 110, 101]
abbrev yb : List Nat := [100, 111, 110, 101]
theorem AR {k : Nat} {A : PySem.Around} (r : RoomC k A) : A.units + 100 < PySem.cLine := by have := r.un; omega
def WDS : List (List Nat) := [Cm, CO, pI, y_, v4, vR, pP, zK]
def sp_Af (a : Adr) : Sp := sp1 fun x H Q _ => asR x fun e => NoT H /\ ∃ (C : Addr) (i : Nat), H e = some (cR (.ref C) e) /\ (WCS a)[i]? = some C /\ ∀ H', Same H H' -> NoT H' -> Q (L2.T (WDS.getD i [])) H'
theorem iC (T : Txt K mg a) : zM P w K mg base (XE P w) 1 a.fY a.oN ["_law_e"] (sp_Af a) := by
 refine T.da.okH ou (fun vs H Q E h => sp1.len h) (fun cdv A outer s H vs Q E e0 C0 hh hC hr h => ?_)
 obtain ⟨x0, rfl, h⟩ := sp1.inv h
 try dsimp only [sp_Af, sp1] at h
 have ND := ou.nd
 have HU : (uU (XE P w) P w K mg base ["_law_e", "_law_kinds", "_law_others"] "_law_word" (af cA) a.fY cdv A outer s H E).A.units + 100 < cLine := AR hr
 obtain ⟨e, rfl, hN, C, i, he, hc, k⟩ := asR.inv h
 have sz := szl
 refine ⟨_, (ae (aE (i := 1) ND rfl (Or.inl rfl) (bh (FA.pa (aa (aB (bg K) rfl T.aF aC (FA.pa (aa (fv 0) (aa (dl (v := .ref a.aT) rfl T.u_ rfl) ad)))) (aa (aB (bg K) rfl T.aF aC (FA.pa (aa (fv 0) (aa (dl (v := .ref a.aU) rfl T.uP rfl) ad)))) (aa (aB (bg K) rfl T.aF aC (FA.pa (aa (fv 0) (aa (dl (v := .ref a.az) rfl T.ms rfl) ad)))) (aa (aB (bg K) rfl T.aF aC (FA.pa (aa (fv 0) (aa (dl (v := .ref a.aP) rfl T.rO rfl) ad)))) ad)))))))
  (ae (aE (i := 1) ND rfl (Or.inl rfl) (ak nj (fv 1) (bh (FA.pa (aa (aB (bg K) rfl T.aF aC (FA.pa (aa (fv 0) (aa (dl (v := .ref a.aI) rfl T.qk rfl) ad)))) (aa (aB (bg K) rfl T.aF aC (FA.pa (aa (fv 0) (aa (dl (v := .ref a.aN) rfl T.mF rfl) ad)))) (aa (aB (bg K) rfl T.aF aC (FA.pa (aa (fv 0) (aa (dl (v := .ref a.bc) rfl T.zF rfl) ad)))) (aa (aB (bg K) rfl T.aF aC (FA.pa (aa (fv 0) (aa (dl (v := .ref a.aG) rfl T.rS rfl) ad)))) ad))))))))
  (ae (aE (i := 2) ND rfl (Or.inl rfl) (Bw (aB (bg K) rfl T.aF aC (FA.pa (aa (fv 0) (aa (dl (v := .ref a.bT) rfl T.y4 rfl) ad)))) (Bw (aB (bg K) rfl T.aF aC (FA.pa (aa (fv 0) (aa (dl (v := .ref a.c_) rfl T.Ci rfl) ad)))) (Bw (aB (bg K) rfl T.aF aC (FA.pa (aa (fv 0) (aa (dl (v := .ref a.bG) rfl T.xX rfl) ad)))) (eO (aB (bg K) rfl T.aF aC (FA.pa (aa (fv 0) (aa (dl (v := .ref a.cz) rfl T.AD rfl) ad)))))))))
  (ae (a9 (CJ (L2.PW.pt (qm (cw (bO (aB (bg K) rfl T.aF aC (FA.pa (aa (fv 0) (aa (cF (v := .ty "ValueError") rfl T.wc tR rfl) ad)))))) (qm (bO (fv 2)) (mX (ba (ii K HU) (aB (eh K) rfl T.lX gN (FA.pa (aa (Cw K (DG hh) (cl := _) (x := "_law_one") (xs := ["_law_one"]) (fr := []) (ks := []) (by walk_at "cq") rfl (fv 1) (fun _ _ _ _ _ => (a_ (i := 0) (kK (l := ["_law_one"]) (by decide)) rfl (Or.inl rfl))) (fun _ _ _ _ _ => (Eh (bO (fv 0)))) (fun _ _ _ _ _ => ac)) ad))) ac (aW _))))))) (aj (aD (aq [111, 116, 104, 101, 114]))) aL)
  (aj (aD (cW (FA.pa (aa (aq [110, 97, 109, 101]) (aa (aq [112, 97, 116, 104]) (aa (aq [99, 117, 114, 114, 101, 110, 99, 121]) (aa (aq [109, 111, 110, 116, 104]) (aa (aq [97, 109, 111, 117, 110, 116]) (aa (aq [115, 104, 97, 114, 101]) (aa (aq [116, 119, 105, 99, 101]) (aa (aq [110, 111, 110, 101]) ad))))))))) (d5 K nO PySem.F.slot_list_index PySem.F.type_list_index (DB K) (fv 1) (FA.pa (aa dk ad))) (fun _ _ => rfl)))))))), ?_⟩
 walk_at "rd"
 obtain ⟨b0, b1, b2, b3, b4, b5, b6, b7, xc, s0, s1, s2, s3, s4, s5, s6, s7, n0, n1, n2, n3, sv, cn, hi, hj⟩ : ∃ b0 b1 b2 b3 b4 b5 b6 b7 : Bool, cN K C /\ W.kitOne K (.ref C) (.ref a.aT) = some b0 /\ W.kitOne K (.ref C) (.ref a.aU) = some b1 /\ W.kitOne K (.ref C) (.ref a.az) = some b2 /\ W.kitOne K (.ref C) (.ref a.aP) = some b3 /\ W.kitOne K (.ref C) (.ref a.aI) = some b4 /\ W.kitOne K (.ref C) (.ref a.aN) = some b5 /\ W.kitOne K (.ref C) (.ref a.bc) = some b6 /\ W.kitOne K (.ref C) (.ref a.aG) = some b7 /\ W.kitOne K (.ref C) (.ref a.bT) = some false /\ W.kitOne K (.ref C) (.ref a.c_) = some false /\ W.kitOne K (.ref C) (.ref a.bG) = some false /\ W.kitOne K (.ref C) (.ref a.cz) = some false /\ W.kitOne K (.ref C) (.type "ValueError") = some true /\ [b0, b1, b2, b3, b4, b5, b6, b7].countP id = 1 /\ [b0, b1, b2, b3, b4, b5, b6, b7][i]? = some true /\ ∀ j, j < i -> [b0, b1, b2, b3, b4, b5, b6, b7][j]? = some false := by
  have hi9 : i < 8 := (List.getElem?_eq_some_iff.mp hc).1
  match i, hi9, hc with
  | 0, _, hc => cases hc; exact ⟨_, _, _, _, _, _, _, _, T.A8, T.oj, T.nN, T.jw, T.nD, T.lm, T.mP, T.qB, T.mW, T.mD, T.pJ, T.lE, T.og, T.jy, rfl, rfl, by decide⟩
  | 1, _, hc => cases hc; exact ⟨_, _, _, _, _, _, _, _, T.AV, T.oJ, T.oC, T.jq, T.mE, T.lT, T.mL, T.qw, T.mH, T.nu, T.pY, T.lu, T.nP, T.kL, rfl, rfl, by decide⟩
  | 2, _, hc => cases hc; exact ⟨_, _, _, _, _, _, _, _, T.tI, T.jv, T.jo, T.fW, T.iF, T.gZ, T.iL, T.lK, T.iB, T.ix, T.kb, T.hU, T.jn, T.gK, rfl, rfl, by decide⟩
  | 3, _, hc => cases hc; exact ⟨_, _, _, _, _, _, _, _, T.yp, T.mO, T.m_, T.iq, T.lN, T.jX, T.lD, T.pK, T.lU, T.lC, T.nZ, T.kj, T.mG, T.jx, rfl, rfl, by decide⟩
  | 4, _, hc => cases hc; exact ⟨_, _, _, _, _, _, _, _, T.xf, T.lA, T.lP, T.gW, T.jN, T.ju, T.km, T.nQ, T.j9, T.jL, T.m8, T.jk, T.lH, T.ig, rfl, rfl, by decide⟩
  | 5, _, hc => cases hc; exact ⟨_, _, _, _, _, _, _, _, T.yx, T.mz, T.m6, T.ij, T.lI, T.j6, T.lG, T.pe, T.lq, T.lB, T.pc, T.jS, T.mR, T.js, rfl, rfl, by decide⟩
  | 6, _, hc => cases hc; exact ⟨_, _, _, _, _, _, _, _, T.DX, T.qy, T.qL, T.lL, T.px, T.oU, T.pv, T.t0, T.pA, T.ph, T.sO, T.n_, T.qC, T.mQ, rfl, rfl, by decide⟩
  | 7, _, hc => cases hc; exact ⟨_, _, _, _, _, _, _, _, T.yo, T.mV, T.nF, T.iK, T.lJ, T.jJ, T.lM, T.pq, T.lQ, T.lO, T.oM, T.j4, T.nB, T.jm, rfl, rfl, by decide⟩
 refine ⟨C, b0, he, xc, s0, C, b1, he, xc, s1, C, b2, he, xc, s2, C, b3, he, xc, s3, by omega, fun p fp => ?_⟩
 obtain ⟨H1, ee, m1, g1, N1⟩ := alloc (o := HO.lst [V.bl b0, V.bl b1, V.bl b2, V.bl b3]) fp hN rfl
 rw [ee]
 have he1 := m1 _ _ he
 refine ⟨C, b4, he1, xc, s4, C, b5, he1, xc, s5, C, b6, he1, xc, s6, C, b7, he1, xc, s7, by omega, fun p2 f2 => ?_⟩
 obtain ⟨H2, ee, m2, g2, N2⟩ := alloc (o := HO.lst [V.bl b4, V.bl b5, V.bl b6, V.bl b7]) f2 N1 rfl
 rw [ee]
 refine ⟨_, _, m2 _ _ g1, g2, by show 4 + 4 <= sizeLine; omega, fun p3 f3 => ?_⟩
 obtain ⟨H3, ee, m3, g3, N3⟩ := alloc (o := HO.lst ([V.bl b0, V.bl b1, V.bl b2, V.bl b3] ++ [V.bl b4, V.bl b5, V.bl b6, V.bl b7])) f3 N2 rfl
 rw [ee]
 have m13 := m1.trans (m2.trans m3)
 have he3 := m13 _ _ he
 have hC3 := m13 _ _ hC
 have ke : aZ H3 (.ref e) = none := by simp [aZ, he3, cR]
 refine ⟨C, false, he3, xc, n0, itn (by decide) ⟨C, false, he3, xc, n1, itn (by decide) ⟨C, false, he3, xc, n2, itn (by decide) ⟨C, false, he3, xc, n3, N3, ?_⟩⟩⟩⟩
 simp only [ke]
 refine ⟨e, C, true, rfl, he3, xc, sv, itn (by decide) (itn (by decide) (GZ ?_))⟩
 walk_at "rd"
 refine ⟨⟨_, SqL.of g3⟩, GN (C := C0) p3 _ (fun v => match v with | .bl b => b | _ => false) (.int 1) hC3 g3 (by show 8 < sizeLine; omega) (fun x hx G R r => ?_) (fun x hx G R r => r) (fun D hD => ?_)⟩
 ·have hb : ∃ b, x = .bl b := by
   have hx' : x ∈ ([b0, b1, b2, b3, b4, b5, b6, b7].map V.bl) := hx
   obtain ⟨b, _, rfl⟩ := Zp.mp hx'
   exact ⟨b, rfl⟩
  obtain ⟨b, rfl⟩ := hb
  walk_at "rd"
  exact r
 have cl : (([V.bl b0, V.bl b1, V.bl b2, V.bl b3, V.bl b4, V.bl b5, V.bl b6, V.bl b7].filter fun v => match v with | .bl b => b | _ => false).map fun _ => V.int 1).length = 1 := by
  rw [zl, <- cn, List.countP_eq_length_filter]
  show (([b0, b1, b2, b3, b4, b5, b6, b7].map V.bl).filter _).length = _
  rw [YW, zl]; rfl
 walk_at "rd"
 refine ⟨_, .inl (SqL.of al), H3, Gc.none (aJ _ hD), itp (by rw [cl]; rfl) ⟨N3, by omega, fun p4 f4 => ?_⟩⟩
 obtain ⟨H4, ee, m4, g4, N4⟩ := alloc (o := HO.lst [L2.T Cm, L2.T CO, L2.T pI, L2.T y_, L2.T v4, L2.T vR, L2.T pP, L2.T zK]) f4 N3 rfl
 rw [ee]
 refine ⟨.inl ⟨_, SqL.of (m4 _ _ g3)⟩, p3, [b0, b1, b2, b3, b4, b5, b6, b7], i, rfl, rfl, SqL.of (m4 _ _ g3), hi, hj, rfl, ?_⟩
 have ea : atI [L2.T Cm, L2.T CO, L2.T pI, L2.T y_, L2.T v4, L2.T vR, L2.T pP, L2.T zK] (i : Int) = some (L2.T (WDS.getD i [])) := by
  have hi9 : i < 8 := (List.getElem?_eq_some_iff.mp hc).1
  refine cJ ?_
  show (WDS.map L2.T)[i]? = _
  rw [List.getElem?_map, List.getD_eq_getElem?_getD, List.getElem?_eq_getElem (show i < WDS.length from hi9)]; rfl
 simp only [mf, ea]
 exact k _ m13 N3
open K5
theorem cI {H H' : Hp} {D : Addr} {o : HO} (s : Same H H') (h : H D = none) : Same H (upd H' D o) := fun c z e => by
 rw [ay (ar e h)]; exact s c z e
theorem GR (T : Txt K mg a) {i : Nat} {C : Addr} (h : (WCS a)[i]? = some C) : W.exmOne K (.ref C) (.ref a.bt) = some true := by
 have hm := qh h
 unfold WCS at hm
 simp only [ve, uD, or_false] at hm
 rcases hm with rfl | rfl | rfl | rfl | rfl | rfl | rfl | rfl
 ·exact T.ko
 ·exact T.kf
 ·exact T.gO
 ·exact T.jr
 ·exact T.iO
 ·exact T.jj
 ·exact T.mK
 ·exact T.ji
theorem F7 (T : Txt K mg a) {H : Hp} {Q : VK} (hN : NoT H) {C : Addr} {i : Nat} (hi : (WCS a)[i]? = some C) (k : ∀ H', Same H H' -> NoT H' -> Q (L2.T (WDS.getD i [])) H') :
 ∃ Ce, xL C = xL Ce /\ W.exmOne K (xL Ce) (xL a.bt) = some true /\ ∀ (e : Addr), H e = none -> (∃ C, upd H e (cR (xL Ce) e) e = some (cR C e)) /\ NoT (upd H e (cR (xL Ce) e)) /\ ∃ C i, upd H e (cR (xL Ce) e) e = some (cR (xL C) e) /\ (WCS a)[i]? = some C /\ ∀ (H' : Hp), Same (upd H e (cR (xL Ce) e)) H' -> NoT H' -> Q (L2.T (WDS.getD i [])) H' :=
 ⟨C, rfl, GR T hi, fun e he => ⟨⟨_, al⟩, aS hN rfl, C, i, al, hi, fun H' s n => k H' ((aJ _ he).trans s) n⟩⟩
def sp_rd (a : Adr) : Sp := sp3 fun x n w H Q _ => NoT H /\ asR x fun p => asI w fun wy => asK H n fun _ => ∃ d os, SAt a.av a.aA H p d os /\
 (gH os n = none -> ∀ H', Same H H' -> NoT H' -> Q (L2.T zK) H') /\
 (∀ c, gH os n = some c -> wy = 0 /\ ∀ H', SAt a.av a.aA H' p d (os.filter fun o => decide (o.nm ≠ c.nm)) -> Keep [d] H H' -> NoT H' -> Q (L2.T yb) H')
theorem iV (T : Txt K mg a) : bz P w K mg base (XE P w) 7 a.fN a.iY ["_law_budgets", "_law_name", "_law_way"] (sp_rd a) := by
 refine T.db.okX iS (fun vs H Q E h => sp3.len h) (fun cdv A outer s H vs Q E hr h => ?_)
 obtain ⟨x0, x1, x2, rfl, h⟩ := sp3.inv h
 try dsimp only [sp_rd, sp3] at h
 have ND := iS.nd
 have HU := bA hr
 obtain ⟨hN, h1⟩ := h
 obtain ⟨p, rfl, h2⟩ := asR.inv h1
 obtain ⟨wy, rfl, h3⟩ := asI.inv h2
 obtain ⟨t, ht, hb, d, os, J, kn, ks⟩ := asK.inv h3
 obtain ⟨dx, hp⟩ := J.ob
 have G_Budgets_drop := @iP P w K mg base a T
 have b_Budgets_drop := jf T.fP
 have G_Budgets_terms := @g_ P w K mg base a T
 have b_Budgets_terms := hZ T.eN
 have G_Budgets_planned := @fD P w K mg base a T
 have b_Budgets_planned := eY T.dJ
 have G_Budgets_planned_by := @cP P w K mg base a T
 have b_Budgets_planned_by := cM T.ck
 have G__law_word := @iC P w K mg base a T
 have b__law_word := iw T.da
 refine ⟨_, (ae (vV (i := 3) ND rfl rfl rfl T.iN rfl rfl rfl (fun pn Ee Ex PX => (aj (a9 (ba (bf K HU) (fv 2) ac (aW _)) (aj (bZ (bX (fv 0) T.aV T.iZ G_Budgets_drop (hr.mono (by decide)) b_Budgets_drop .nil PX (FA.pa (aa (fv 1) ad))))) (aj (a9 (ba (bf K HU) (fv 2) ac (aW _)) (aj (bZ (bX (fv 0) T.aV T.ib G_Budgets_terms (hr.mono (by decide)) b_Budgets_terms .nil PX (FA.pa (aa (fv 1) ad))))) (aj (a9 (ba (bf K HU) (fv 2) ac (aW _)) (aj (bZ (bX (fv 0) T.aV T.fu G_Budgets_planned (hr.mono (by decide)) b_Budgets_planned .nil PX (FA.pa (aa (fv 1) (aa ac ad)))))) (aj (bZ (bX (fv 0) T.aV T.cb G_Budgets_planned_by (hr.mono (by decide)) b_Budgets_planned_by .nil PX (FA.pa (aa (fv 1) (aa ac ad))))))))))))) (fun e => (aj (aD (sL G__law_word pH (Room.toC hr (by decide)) rfl T.jz T.da.kp b__law_word .nil xD (FA.pa (aa (fv 3) ad)))))))
  (aj (aD (aq [100, 111, 110, 101])))), ?_⟩
 walk_at "rd"
 cases e : gH os x1 with
 | none =>
  have kr := F7 T hN (i := 7) rfl (kn e)
  split
  ·exact ⟨_, _, hp, fO "drop" _, hN, asK.of ht ⟨d, os, J, by rw [e]; exact kr⟩⟩
  split
  ·exact ⟨_, _, hp, fO "terms" _, hN, asK.of ht ⟨d, os, J, by rw [e]; exact kr⟩⟩
  split
  ·exact ⟨_, _, hp, fO "planned" _, hN, asK.of ht ⟨d, os, J, by rw [e]; exact kr⟩⟩
  ·exact ⟨_, _, hp, fO "planned_by" _, hN, asK.of ht ⟨d, os, J, by rw [e]; exact kr⟩⟩
 | some c =>
  obtain ⟨w0, k⟩ := ks c e
  exact itp w0 ⟨_, _, hp, fO "drop" _, hN, asK.of ht ⟨d, os, J, by rw [e]; exact k⟩⟩
def sp_u9 (a : Adr) : Sp := sp3 fun s t w H Q _ => NoT H /\ asR s fun sp => asR t fun tq => ∃ d bs x w0, x.w = w /\ H tq = some (.lst [x.n, x.p, x.c, x.f, x.l, x.t, w0]) /\ TOk H x /\ SAt a.av a.aA H sp d bs /\ bs.length <= 50 /\
 (duB H bs x < 8 -> ∀ H', Same H H' -> NoT H' -> Q (L2.T (WDS.getD (duB H bs x) [])) H') /\
 (duB H bs x = 8 -> ∀ b H', BOf H x b -> H b.ob = none -> H b.pa = none -> SAt a.av a.aA H' sp d (bs ++ [b]) -> Keep [d] H H' -> NoT H' -> Q (L2.T yb) H')
theorem qM (T : Txt K mg a) : bz P w K mg base (XE P w) 7 a.fk a.jd ["_law_budgets", "_law_terms_here", "_law_weights_here"] (sp_u9 a) := by
 refine T.dI.okX jb (fun vs H Q E h => sp3.len h) (fun cdv A outer s H vs Q E hr h => ?_)
 obtain ⟨x0, x1, x2, rfl, h⟩ := sp3.inv h
 try dsimp only [sp_u9, sp3] at h
 have ND := jb.nd
 obtain ⟨hN, h1⟩ := h
 obtain ⟨p, rfl, h2⟩ := asR.inv h1
 obtain ⟨tq, rfl, d, bs, x, w0, ex, ht, ok, J, len, ke, kk⟩ := asR.inv h2
 have ex : x.w = x2 := ex
 subst ex
 obtain ⟨dx, hp⟩ := J.ob
 have hs := Or.inl (b := SqT K H tq [x.n, x.p, x.c, x.f, x.l, x.t, w0]) (SqL.of (K := K) ht)
 have G_Budgets_put := @jV P w K mg base a T
 have b_Budgets_put := jO T.gP
 have G__law_word := @iC P w K mg base a T
 have b__law_word := iw T.da
 refine ⟨_, (ae (vV (i := 3) ND rfl rfl rfl T.iN rfl rfl rfl (fun pn Ee Ex PX => (aj (bZ (bX (fv 0) T.aV T.k8 G_Budgets_put (hr.mono (by decide)) b_Budgets_put .nil PX (FA.pa (aa (aH (ao K) (fv 1) ac (fun _ _ => rfl)) (aa (aH (ao K) (fv 1) ac (fun _ _ => rfl)) (aa (aH (ao K) (fv 1) ac (fun _ _ => rfl)) (aa (aH (ao K) (fv 1) ac (fun _ _ => rfl)) (aa (aH (ao K) (fv 1) ac (fun _ _ => rfl)) (aa (aH (ao K) (fv 1) ac (fun _ _ => rfl)) (aa (fv 2) ad)))))))))))) (fun e => (aj (aD (sL G__law_word pH (Room.toC hr (by decide)) rfl T.jz T.da.kp b__law_word .nil xD (FA.pa (aa (fv 3) ad)))))))
  (aj (aD (aq [100, 111, 110, 101])))), ?_⟩
 walk_at "rd"
 exact ⟨_, _, hp, fO "put" _, _, _, hs, rfl, _, _, hs, rfl, _, _, hs, rfl, _, _, hs, rfl, _, _, hs, rfl, _, _, hs, rfl, hN, d, bs, ok, J, len, fun C hC H' s n => F7 T n hC fun H2 s2 n2 => ke (List.getElem?_eq_some_iff.mp hC).1 H2 (s.trans s2) n2, kk⟩
open K5
theorem Dx {S O : Addr} {H H1 G : Hp} {p d hq : Addr} {xs ys : List V} {bs : List Bd} {b : Bd} (fq : H hq = none) (g1 : H1 hq = some (.lst xs)) (s1 : Same H H1) (J : SAt S O H p d bs) (JG : SAt S O G p d (bs ++ [b])) (kp : Keep [d] H1 G) (fp : H1 b.pa = none) :
 SAt S O (upd G hq (.lst ys)) p d (bs ++ [b]) /\ Keep [d] H (upd G hq (.lst ys)) := by
 have nd : d ≠ hq := ar J.dc fq
 have gG : G hq = some (.lst xs) := kp _ _ g1 (by simpa using Ne.symm nd)
 have no : ∀ {x : Addr} {z : HO}, G x = some z -> (∀ l, z ≠ .lst l) -> x ∉ [hq] := fun e n m => cS e gG (fun q => n _ q) (zY.mp m)
 obtain ⟨dx, ep⟩ := JG.ob
 refine ⟨JG.keep (X := [hq]) (Keep.refl.put (.head _)) (no ep (by intro _ z; cases z)) (by simpa using nd) fun o ho => ?_, ?_⟩
 ·have A := JG.od o ho
  obtain ⟨dz, ez⟩ := A.ob
  refine ⟨no ez (by intro _ z; cases z), no A.ag.ag (by intro _ z; cases z), no A.ag.wt (by intro _ z; cases z), ?_⟩
  rcases uO.mp ho with h | h
  ·simpa using ar (J.od o h).pa fq
  ·rw [zY.mp h]; simpa using Ne.symm (ar g1 fp)
 ·intro c z e n
  rw [ay (ar e fq)]
  exact kp c z (s1 _ _ e) n
theorem EF {H H1 : Hp} {bs : List Bd} {x : Tm} {v : V} (h : wlV H1 v = wlV H x.w) : duB H1 bs { x with w := v } = duB H bs x := by
 have e : shV H1 { x with w := v } = shV H x := by unfold shV; dsimp only; rw [h]
 unfold duB
 rw [e]
theorem BOf.w_ {H H1 : Hp} {x : Tm} {v : V} {b : Bd} (h : wlV H1 v = wlV H x.w) (B : BOf H1 { x with w := v } b) : BOf H x b :=
 ⟨B.n, B.p, B.c, B.f, B.l, B.t, by rw [<- h]; exact B.w, B.ok, B.ln, B.fl, B.tt⟩
theorem WtX.same {H H' : Hp} {w : V} (x : WtX H w) (s : Same H H') : WtX H' w := by
 rcases x with ⟨q, xs, e, h, l, k⟩ | ⟨t, k, i⟩
 ·exact .inl ⟨q, xs, e, s _ _ h, l, fun y hy => (k y hy).same s⟩
 ·exact .inr ⟨t, dC s k, i⟩
theorem TOk.same {H H' : Hp} {x : Tm} (o : TOk H x) (s : Same H H') : TOk H' x := ⟨⟨o.n.1, o.n.2.same s⟩, ⟨o.p.1, o.p.2.same s⟩, ⟨o.c.1, o.c.2.same s⟩, o.f.same s, o.l.same s, o.t.same s, o.w.same s⟩
def sp_Ak (a : Adr) : Sp := sp2 fun s t H Q _ => NoT H /\ asR s fun sp => asR t fun tq => ∃ d bs x, H tq = some (.lst [x.n, x.p, x.c, x.f, x.l, x.t, x.w]) /\ TOk H x /\ (∀ xs, wlV H x.w = some xs -> xs.all cj = true) /\ SAt a.av a.aA H sp d bs /\ bs.length <= 50 /\
 (duB H bs x < 8 -> ∀ H', Same H H' -> NoT H' -> Q (L2.T (WDS.getD (duB H bs x) [])) H') /\
 (duB H bs x = 8 -> ∀ b H', BOf H x b -> H b.ob = none -> H b.pa = none -> SAt a.av a.aA H' sp d (bs ++ [b]) -> Keep [d] H H' -> NoT H' -> Q (L2.T yb) H')
theorem wN (T : Txt K mg a) : bz P w K mg base (XE P w) 7 a.fF a.qd ["_law_budgets", "_law_terms_here"] (sp_Ak a) := by
 refine T.iH.okX qp (fun vs H Q E h => sp2.len h) (fun cdv A outer s H vs Q E hr h => ?_)
 obtain ⟨x0, x1, rfl, h⟩ := sp2.inv h
 try dsimp only [sp_Ak, sp2] at h
 have ND := qp.nd
 have HU := bA hr
 obtain ⟨hN, h1⟩ := h
 obtain ⟨p, rfl, h2⟩ := asR.inv h1
 obtain ⟨tq, rfl, d, bs, x, ht, ok, fl, J, len, ke, kk⟩ := asR.inv h2
 have sz : 4000 < sizeLine := by rw [uT]; decide
 have G_Budgets_put := @jV P w K mg base a T
 have b_Budgets_put := jO T.gP
 have G__law_word := @iC P w K mg base a T
 have b__law_word := iw T.da
 have c4 : ∃ u, PSs (cO (XE P w) P w K mg base ["_law_budgets", "_law_terms_here", "_law_handed", "_law_word_here", "_law_e"] "_law_put" (af bP) a.fF cdv A outer s H E) (Zg 4 (aw bP)) u /\ ∀ v wd x4 H1, H1 tq = some (.lst [x.n, x.p, x.c, x.f, x.l, x.t, x.w]) -> ((∃ hq q0 xs, v = .ref hq /\ x.w = .ref q0 /\ H1 hq = some (.lst xs) /\ H1 q0 = some (.lst xs) /\ xs.length <= 4000 /\ xs.all cj = true /\ Q (L2.T wd) (upd H1 hq (.lst (xs ++ [.int 7])))) \/ (∃ t, aZ H1 v = some t /\ bJ t "list" = false /\ Q (L2.T wd) H1)) -> u { nx := fun _ H' => Q .non H', rt := Q } [some (.ref p), some (.ref tq), some v, some (L2.T wd), x4] H1 := by
  refine ⟨_, (ae (a9 (bO (aB (bg K) rfl T.aF aC (FA.pa (aa (fv 2) (aa (cF (v := .ty "list") rfl T.gL d_ rfl) ad))))) (ae (a9 (ba (ii K HU) (fv 2) (aH (ao K) (fv 1) ac (fun _ _ => rfl)) (aW _)) (aj (aD (aq [99, 104, 97, 110, 103, 101, 100]))) aL)
   (aj (bZ (d5 K nO Zd Ze dy (fv 2) (FA.pa (aa ac ad)))))) aL)
   (aj (aD (fv 3)))), fun v wd x4 H1 h1 hv => ?_⟩
  walk_at "rd"
  rcases hv with ⟨hq, q0, xs, rfl, e0, g1, g0, lx, fx, k⟩ | ⟨t, hk, hi, k⟩
  ·have e1 : aZ H1 (.ref hq) = some "list" := by simp [aZ, g1]
   simp only [e1]
   refine itp rfl ⟨_, _, .inl (SqL.of h1), rfl, ?_⟩
   rw [e0]
   walk_at "rd"
   exact ⟨true, EqR.flatL (SqL.of g1) (SqL.of g0) fx, itn (by decide) ⟨.inl ⟨_, SqL.of g1⟩, hq, xs, _, rfl, rfl, g1, by omega, k⟩⟩
  ·simp only [hk]
   exact itn (by rw [hi]; decide) k
 obtain ⟨u4, hu4, c4⟩ := c4
 have c2 : ∃ u, PSs (cO (XE P w) P w K mg base ["_law_budgets", "_law_terms_here", "_law_handed", "_law_word_here", "_law_e"] "_law_put" (af bP) a.fF cdv A outer s H E) (Zg 2 (aw bP)) u /\ ∀ v x3 x4 H1, Same H H1 -> NoT H1 -> TOk H1 { x with w := v } -> wlV H1 v = wlV H x.w -> ((∃ hq q0 xs, v = .ref hq /\ x.w = .ref q0 /\ H hq = none /\ H1 hq = some (.lst xs) /\ H q0 = some (.lst xs) /\ xs.length <= 4000 /\ xs.all cj = true) \/ (∃ t, aZ H v = some t /\ bJ t "list" = false)) -> u { nx := fun _ H' => Q .non H', rt := Q } [some (.ref p), some (.ref tq), some v, x3, x4] H1 := by
  refine ⟨_, (ae (aE (i := 3) ND rfl (Or.inl rfl) (aq [100, 111, 110, 101]))
   (ae (vV (i := 4) ND rfl rfl rfl T.iN rfl rfl rfl (fun pn Ee Ex PX => (aj (a9 (sJ (Dq (bX (fv 0) T.aV T.k8 G_Budgets_put (hr.mono (by decide)) b_Budgets_put .nil PX (FA.pa (aa (aH (ao K) (fv 1) ac (fun _ _ => rfl)) (aa (aH (ao K) (fv 1) ac (fun _ _ => rfl)) (aa (aH (ao K) (fv 1) ac (fun _ _ => rfl)) (aa (aH (ao K) (fv 1) ac (fun _ _ => rfl)) (aa (aH (ao K) (fv 1) ac (fun _ _ => rfl)) (aa (aH (ao K) (fv 1) ac (fun _ _ => rfl)) (aa (fv 2) ad))))))))))) (aj (aE (i := 3) ND rfl (Or.inl rfl) (aq [111, 116, 104, 101, 114]))) aL))) (fun e => (aj (aE (i := 3) ND rfl (Or.inl rfl) (sL G__law_word pH (Room.toC hr (by decide)) rfl T.jz T.da.kp b__law_word .nil xD (FA.pa (aa (fv 4) ad)))))))
   hu4)), fun v x3 x4 H1 s1 N1 ok1 ew hv => ?_⟩
  have J1 := J.same s1
  obtain ⟨dx, hp⟩ := J1.ob
  have ht1 := s1 _ _ ht
  have hs := Or.inl (b := SqT K H1 tq [x.n, x.p, x.c, x.f, x.l, x.t, x.w]) (SqL.of (K := K) ht1)
  walk_at "rd"
  rw [<- EF (bs := bs) ew] at ke kk
  refine ⟨_, _, hp, fO "put" _, _, _, hs, rfl, _, _, hs, rfl, _, _, hs, rfl, _, _, hs, rfl, _, _, hs, rfl, _, _, hs, rfl, N1, d, bs, ok1, J1, len, fun C hC G s n => F7 T n hC (Q := fun y G' => u4 { nx := fun _ H' => Q .non H', rt := Q } [some (.ref p), some (.ref tq), some v, some y, none] G') fun G2 s2 n2 => ?_, fun e8 b G bo f1 f2 sa kp nT => ?_⟩
  ·have sG := s1.trans (s.trans s2)
   have kl := ke (List.getElem?_eq_some_iff.mp hC).1
   refine c4 _ _ _ _ (sG _ _ ht) ?_
   rcases hv with ⟨hq, q0, xs, rfl, e0, f0, g1, g0, lx, fx⟩ | ⟨t, hk, hi⟩
   ·exact .inl ⟨hq, q0, xs, rfl, e0, s2 _ _ (s _ _ g1), sG _ _ g0, lx, fx, kl _ (cI sG f0) (aS n2 rfl)⟩
   ·exact .inr ⟨t, dC sG hk, hi, kl _ sG n2⟩
  ·have no : ∀ {y : Addr} {z : HO}, H1 y = some z -> (∀ l, z ≠ .dK l) -> y ∉ [d] := fun e n m => cS e J1.dc (fun q => n _ q) (zY.mp m)
   have kl := kk e8 b
   refine c4 _ _ _ _ (kp _ _ ht1 (no ht1 (by intro _ z; cases z))) ?_
   rcases hv with ⟨hq, q0, xs, rfl, e0, f0, g1, g0, lx, fx⟩ | ⟨t, hk, hi⟩
   ·obtain ⟨J2, k2⟩ := Dx (ys := xs ++ [.int 7]) f0 g1 s1 J sa kp f2
    have g01 := s1 _ _ g0
    exact .inl ⟨hq, q0, xs, rfl, e0, kp _ _ g1 (no g1 (by intro _ z; cases z)), kp _ _ g01 (no g01 (by intro _ z; cases z)), lx, fx, kl _ (bo.w_ ew) (s1.free f1) (s1.free f2) J2 k2 (aS nT rfl)⟩
   ·obtain ⟨q, e, hq⟩ := BP bo.w
    have e : v = .ref q := e
    subst e
    have h1 := dC s1 hk
    have : aZ H1 (.ref q) = some "list" := by simp [aZ, hq]
    rw [this] at h1; cases h1; cases hi
 obtain ⟨u2, hu2, c2⟩ := c2
 refine ⟨_, (ae (aE (i := 2) ND rfl (Or.inl rfl) (aH (ao K) (fv 1) ac (fun _ _ => rfl)))
  (ae (a9 (bO (aB (bg K) rfl T.aF aC (FA.pa (aa (fv 2) (aa (cF (v := .ty "list") rfl T.gL d_ rfl) ad))))) (aj (aE (i := 2) ND rfl (Or.inl rfl) (dB (oV K) rfl T.gL d_ (FA.pa (aa (fv 2) ad))))) aL)
  hu2)), ?_⟩
 walk_at "rd"
 refine ⟨_, _, .inl (SqL.of ht), rfl, ?_⟩
 rcases ok.w with ⟨q, xs, e, hq, lz, kx⟩ | ⟨t, hk, hi⟩
 ·rw [e]
  have e1 : aZ H (.ref q) = some "list" := by simp [aZ, hq]
  simp only [e1]
  refine itp rfl ⟨xs, .inl (SqL.of hq), fun l hl => ?_⟩
  obtain ⟨H1, ee, s1, g1, N1⟩ := alloc (o := HO.lst xs) hl hN rfl
  rw [ee]
  have ew : wlV H1 (.ref l) = wlV H x.w := by rw [e, jH g1, jH hq]
  have o1 := ok.same s1
  exact c2 _ _ _ H1 s1 N1 ⟨o1.n, o1.p, o1.c, o1.f, o1.l, o1.t, .inl ⟨l, xs, rfl, g1, lz, fun y hy => (kx y hy).same s1⟩⟩ ew (.inl ⟨l, q, xs, rfl, e, hl, g1, hq, lz, fl xs (by rw [e]; exact jH hq)⟩)
 ·simp only [hk]
  exact itn (by rw [hi]; decide) (c2 _ _ _ H (Same.refl _) hN ok rfl (.inr ⟨t, hk, hi⟩))
open K5 K17
theorem oQ {ta : TA} {g : TG} {tb : TS} {D : fA} {σ : St} {H : Hp} (h : ta σ H fun vs H1 => ∃ j : Int, vs = [.int j] /\ -(2 ^ 62) <= j /\ j < 2 ^ 62 /\ FE (Itr 0 j.toNat) g tb D σ H1) : rZ (Ct ta) g tb D σ H := h
theorem AA {ta : TA} {g : TG} {tb : TS} {D : fA} {σ : St} {H : Hp} (h : ta σ H fun vs H1 => ∃ i j : Int, vs = [.int i, .int j] /\ (-(2 ^ 62) <= i /\ i < 2 ^ 62 /\ -(2 ^ 62) <= j /\ j < 2 ^ 62) /\ FE (Itr i (j - i).toNat) g tb D σ H1) : rZ (EE ta) g tb D σ H := h
theorem vB {l : List Nat} {i : Int} (h : 0 <= i) : xG l none (some i) = l.take i.toNat := by
 unfold xG
 obtain ⟨j, rfl⟩ := fZ h
 rw [HT.sIx_none, HT.sIx_nat, List.drop_zero, Nat.sub_zero, Zi]
 by_cases hl : j <= l.length
 ·rw [ZJ hl]
 ·rw [Z8 (by walk_at "om"), oF (by walk_at "om"), oF (by walk_at "om")]
theorem AC {l : List Nat} {i : Int} (h : 0 <= i) : xG l (some i) none = l.drop i.toNat := by
 unfold xG
 obtain ⟨j, rfl⟩ := fZ h
 rw [HT.sIx_none, HT.sIx_nat, Zi]
 by_cases hl : j <= l.length
 ·rw [ZJ hl, oF (by simp)]
 ·rw [Z8 (by walk_at "om"), YY (by walk_at "om"), YY (by walk_at "om")]; simp
def LET : List Nat := [97, 98, 99, 100, 101, 102, 103, 104, 105, 106, 107, 108, 109, 110, 111, 112, 113, 114, 115, 116, 117, 118, 119, 120, 121, 122]
theorem Cu {i : Int} (h0 : 0 <= i) (h1 : i < 26) : atI LET i = some (97 + i.toNat) := by
 obtain ⟨j, rfl⟩ : ∃ j : Nat, i = j := ⟨i.toNat, by omega⟩
 refine cJ ?_
 have hb : ∀ k, k < 26 -> LET[k]? = some (97 + k) := by decide
 exact hb j (by omega)
theorem EH {l : List Nat} (h1 : 1 <= l.length) (h2 : l.length <= 12) (h3 : ∀ x ∈ l, 97 <= x /\ x <= 122) : nm l = true := by
 unfold nm lie
 rw [decide_eq_true h1, decide_eq_true h2, YC, YC, u9]
 intro x hx
 have := h3 x hx
 simp; omega
def sp_uf : Sp := sp1 fun x H Q _ => NoT H /\ asI x fun c => ∀ ls : List (List Nat), ls.length = 5 -> (∀ l ∈ ls, nm l = true) -> ∀ q, H q = none -> Q (.ref q) (upd H q (.lst (ls.map L2.T)))
theorem sY (T : Txt K mg a) : bz P w K mg base (XE P w) 1 a.ik a.lY ["_law_cell"] sp_uf := by
 refine T.iA.okG lV (fun vs H Q E h => sp1.len h) (fun cdv A outer s H vs Q E hr h => ?_)
 obtain ⟨x0, rfl, h⟩ := sp1.inv h
 try dsimp only [sp_uf, sp1] at h
 have ND := lV.nd
 have HU := bA hr
 obtain ⟨hN, h1⟩ := h
 obtain ⟨c, rfl, q⟩ := asI.inv h1
 have sz := szl
 refine ⟨hN, _, (ae (aE (i := 1) ND rfl (Or.inr rfl) (aq [97, 98, 99, 100, 101, 102, 103, 104, 105, 106, 107, 108, 109, 110, 111, 112, 113, 114, 115, 116, 117, 118, 119, 120, 121, 122]))
  (ae (aE (i := 2) ND rfl (Or.inl rfl) (ak aY ac (ak aO (fv 0) ac)))
  (ae (aE (i := 3) ND rfl (Or.inr rfl) (ak aY ac (ak aO (ak aR (fv 0) ac) ac)))
  (ae (aE (i := 4) ND rfl (Or.inl rfl) (d5 K YZ PySem.F.slot_str_join PySem.F.type_str_join (rz K) (aq []) (FA.pa (aa (fL rfl (cl := _) (x := "_law_k") (xs := ["_law_k"]) (fr := ["_law_letters", "_law_cell", "_law_step"]) (ks := [1, 0, 3]) (by walk_at "cq") rfl (eW rfl T.iM (FA.pa (aa (fv 2) ad))) (fun _ _ _ _ _ => (a_ (i := 0) (kK (l := ["_law_k", "_law_letters", "_law_cell", "_law_step"]) (by decide)) rfl (Or.inl rfl))) (fun _ _ _ _ _ => eS) (fun _ _ _ _ _ => (aH (ao K) (fv 1) (ak aO (ak aY (ak aR (fv 2) ac) (ak fM (fv 3) (fv 0))) ac) (fun _ _ => rfl)))) ad))))
  (ae (aE (i := 5) ND rfl (Or.inl rfl) (ak aO (ak aR (fv 0) ac) (ak aY (fv 2) ac)))
  (ae (aE (i := 6) ND rfl (Or.inl rfl) (bh (FA.pa ad)))
  (ae (a9 (ba (bf K HU) (ak aO (ak aR (fv 0) ac) ac) ac (aW _)) (ae (aE (i := 7) ND rfl (Or.inr rfl) (cY vK (ak aY (fv 4) (fv 1)) dN (dP ac)))
  (aj (aD (fL rfl (cl := _) (x := "_law_k") (xs := ["_law_k"]) (fr := ["_law_whole_here", "_law_cell"]) (ks := [7, 0]) (by walk_at "cq") rfl (eW rfl T.iM (FA.pa (aa ac ad))) (fun _ _ _ _ _ => (a_ (i := 0) (kK (l := ["_law_k", "_law_whole_here", "_law_cell"]) (by decide)) rfl (Or.inl rfl))) (fun _ _ _ _ _ => eS) (fun _ _ _ _ _ => (cY vK (fv 1) dN (dP (ak aY (ak aY ac (ak aO (fv 2) ac)) (fv 0))))))))) aL)
  (ae (eJ (by passes_own) rfl (eW rfl T.iM (FA.pa (aa ac ad))) (a_ (i := 8) ND rfl (Or.inl rfl)) (ae (aE (i := 9) ND rfl (Or.inl rfl) (aH (ao K) (fv 1) (ak aO (ak aY (ak aR (fv 0) ac) (ak fM ac (fv 8))) ac) (fun _ _ => rfl)))
  (aj (bZ (d5 K nO Zd Ze dy (fv 6) (FA.pa (aa (ak aY (ak aY (cY vK (fv 4) dN (dP (fv 5))) (fv 9)) (cY vK (fv 4) (dP (fv 5)) dN)) ad)))))))
  (aj (aD (fv 6))))))))))), ?_⟩
 walk_at "rd"
 refine cmR (fun _ => True) (fun _ _ _ => trivial) (1 + c % 10).toNat (fun _ => true) (fun j : Nat => L2.T [sg (c / 250) (1 + c / 10 % 25) j]) (fun R r => ?_) (by walk_at "om") (fun j hj H R _ r => r) (fun j hj _ H' R _ r => ?_) (fun D hD => ?_)
 ·walk_at "rd"
  rw [show ((1 + c % 10).toNat : Int) = 1 + c % 10 by walk_at "om"] at r; exact r
 ·walk_at "rd"
  refine ⟨.inl (by walk_at "om"), by walk_at "om", ?_⟩
  show match atI LET ((c / 250 + (1 + c / 10 % 25) * (j : Int)) % 26) with | some c => R (L2.T [c]) H' | none => False
  rw [Cu (by walk_at "om") (by walk_at "om")]
  exact r
 ·refine BL (uF (1 + c % 10).toNat) (fun j : Nat => sg (c / 250) (1 + c / 10 % 25) j) (by rw [al, ZU.mpr (by simp)]) (by rw [List.length_range]; omega) ?_
  refine ⟨by walk_at "om", by walk_at "om", fun p hp => ?_⟩
  have ew : List.map (fun j : Nat => sg (c / 250) (1 + c / 10 % 25) j) (uF (1 + c % 10).toNat) = wd (c / 250) (1 + c / 10 % 25) (1 + c % 10).toNat := rfl
  have hw : (wd (c / 250) (1 + c / 10 % 25) (1 + c % 10).toNat).length <= 10 /\ 1 <= (wd (c / 250) (1 + c / 10 % 25) (1 + c % 10).toNat).length := by simp [wd]; omega
  have hx : ∀ x ∈ wd (c / 250) (1 + c / 10 % 25) (1 + c % 10).toNat, 97 <= x /\ x <= 122 := fun x hx => by
   obtain ⟨k, _, rfl⟩ := Zp.mp hx; exact Gp _ _ _
  have s1 := aJ (HO.lst (List.map (fun j : Nat => L2.T [sg (c / 250) (1 + c / 10 % 25) j]) (List.filter (fun _ => true) (uF (1 + c % 10).toNat)))) hD
  generalize upd H D (HO.lst (List.map (fun j : Nat => L2.T [sg (c / 250) (1 + c / 10 % 25) j]) (List.filter (fun _ => true) (uF (1 + c % 10).toNat)))) = H1 at s1 hp |-
  have p0 : H p = none := s1.free hp
  have a0 : 0 <= c / 6500 % (1 + c % 10 + 1) := Ys _ (by walk_at "om")
  rw [ew]
  generalize wd (c / 250) (1 + c / 10 % 25) (1 + c % 10).toNat = w at hw hx |-
  generalize c / 6500 % (1 + c % 10 + 1) = t at a0 |-
  have hL : ∀ x ∈ LET, 97 <= x /\ x <= 122 := by decide
  have s2 := s1.trans (aJ (HO.lst []) hp)
  split
  ·walk_at "rd"
   refine ⟨by show w.length + 26 <= sizeLine; omega, by rw [uf]; show w.length + 26 <= sizeLine; omega, ?_⟩
   rw [vB (by decide)]
   have hW : ((w ++ LET).take 12).length = 12 := by rw [Zf, uf]; show min 12 (w.length + 26) = 12; omega
   have hV : ∀ x ∈ (w ++ LET).take 12, 97 <= x /\ x <= 122 := fun x hm => by
    rcases uO.mp (ZB hm) with h | h
    ·exact hx x h
    ·exact hL x h
   show fc _ _ _ _ _ _ [_, _, _, _, _, _, _, some (L2.T ((w ++ LET).take 12)), _, _] _ _
   generalize (w ++ LET).take 12 = W at hW hV |-
   refine cmR (fun _ => True) (fun _ _ _ => trivial) 5 (fun _ => true) (fun j : Nat => L2.T (W.take (1 + c % 8 + j).toNat)) (fun R r => r) (by walk_at "om") (fun j hj H R _ r => r) (fun j hj _ H' R _ r => ?_) (fun D hD => ?_)
   ·walk_at "rd"
    refine ⟨by omega, ?_⟩
    rw [vB (by omega)]
    exact r
   ·rw [ZU.mpr (by simp)]
    have e : (uF 5).map (fun j : Nat => L2.T (W.take (1 + c % 8 + j).toNat)) = ((uF 5).map fun j : Nat => W.take (1 + c % 8 + j).toNat).map L2.T := by rw [uY]; rfl
    rw [e]
    refine ⟨_, Gc.one (s2.trans (aJ _ hD)) (s2.free hD) al rfl, q _ rfl (fun l hl => ?_) D (s2.free hD)⟩
    obtain ⟨j, hj, rfl⟩ := Zp.mp hl
    have hj := YI.mp hj
    exact EH (by rw [Zf]; omega) (by rw [Zf]; omega) fun x hm => hV x (ZB hm)
  ·refine oQ ?_
   walk_at "rd"
   refine hR (lo := 0) (n := 5) (fun i σ' H' => Same H H' /\ ∃ ls : List (List Nat), ls.length = i /\ (∀ l ∈ ls, nm l = true) /\ H' p = some (.lst (ls.map L2.T)) /\ ∃ x8 x9, σ' = [some (.int c), some (L2.T LET), some (.int (1 + c % 10)), some (.int (1 + c / 10 % 25)), some (L2.T w), some (.int t), some (.ref p), none, x8, x9]) ⟨s2, [], rfl, (fun _ h => nomatch h), al, none, none, rfl⟩ ?_ ?_
   ·rintro i σ' H' hi ⟨sm, ls, ll, hn, hp', x8, x9, rfl⟩
    walk_at "rd"
    refine ⟨by show 26 <= sizeLine; omega, ?_⟩
    show match atI LET ((c / 71500 + 3 * (0 + (i : Int))) % 26) with | some c_1 => _ | none => False
    rw [Cu (by walk_at "om") (by walk_at "om")]
    walk_at "rd"
    refine ⟨.inl ⟨_, SqL.of hp'⟩, by walk_at "om", ?_⟩
    rw [vB a0, AC a0]
    walk_at "rd"
    have hl : (List.take t.toNat w ++ [97 + ((c / 71500 + 3 * (0 + (i : Int))) % 26).toNat] ++ Zg t.toNat w).length = w.length + 1 := by simp; omega
    refine ⟨by simp; omega, by walk_at "om", by rw [uf] at hl; omega, p, _, _, rfl, rfl, hp', by rw [zl]; omega, cI sm p0, ls ++ [_], by simp [ll], fun l hm => ?_, by rw [al, qc]; rfl, _, _, rfl, rfl⟩
    rcases uO.mp hm with h | h
    ·exact hn l h
    ·rw [zY.mp h]
     refine EH (by rw [hl]; omega) (by rw [hl]; omega) fun x hm => ?_
     rcases uO.mp hm with h | h
     ·rcases uO.mp h with h | h
      ·exact hx x (ZB h)
      ·rw [zY.mp h]; omega
     ·exact hx x (List.mem_of_mem_drop h)
   ·rintro σ' H' ⟨sm, ls, ll, hn, hp', x8, x9, rfl⟩
    walk_at "rd"
    exact ⟨_, Gc.one sm p0 hp' rfl, q ls ll hn p p0⟩
def UPP : List Nat := [65, 66, 67, 68, 69, 70, 71, 72, 73, 74, 75, 76, 77, 78, 79, 80, 81, 82, 83, 84, 85, 86, 87, 88, 89, 90]
theorem CK {i : Int} (h0 : 0 <= i) (h1 : i < 26) : atI UPP i = some (65 + i.toNat) := by
 obtain ⟨j, rfl⟩ := fZ h0
 have hb : ∀ k, k < 26 -> UPP[k]? = some (65 + k) := by decide
 exact cJ (hb j (by omega))
def sp_zj : Sp := sp1 fun x H Q _ => NoT H /\ asI x fun c => ∀ l : List Nat, cur l = true -> Q (L2.T l) H
theorem pB (T : Txt K mg a) : bz P w K mg base (XE P w) 1 a.eM a.hX ["_law_cell"] sp_zj := by
 refine T.eK.okG gY (fun vs H Q E h => sp1.len h) (fun cdv A outer s H vs Q E hr h => ?_)
 obtain ⟨x0, rfl, h⟩ := sp1.inv h
 try dsimp only [sp_zj, sp1] at h
 have ND := gY.nd
 obtain ⟨hN, h1⟩ := h
 obtain ⟨c, rfl, q⟩ := asI.inv h1
 have sz := szl
 refine ⟨hN, _, (ae (aE (i := 1) ND rfl (Or.inl rfl) (aq [65, 66, 67, 68, 69, 70, 71, 72, 73, 74, 75, 76, 77, 78, 79, 80, 81, 82, 83, 84, 85, 86, 87, 88, 89, 90]))
  (aj (aD (ak aY (ak aY (aH (ao K) (fv 1) (ak aO (fv 0) ac) (fun _ _ => rfl)) (aH (ao K) (fv 1) (ak aO (ak aR (fv 0) ac) ac) (fun _ _ => rfl))) (aH (ao K) (fv 1) (ak aO (ak aR (fv 0) ac) ac) (fun _ _ => rfl)))))), ?_⟩
 walk_at "rd"
 rw [show [65, 66, 67, 68, 69, 70, 71, 72, 73, 74, 75, 76, 77, 78, 79, 80, 81, 82, 83, 84, 85, 86, 87, 88, 89, 90] = UPP from rfl, CK (i := c % 26) (by omega) (by omega), CK (i := c / 26 % 26) (by omega) (by omega), CK (i := c / 676 % 26) (by omega) (by omega)]
 refine ⟨by omega, by omega, by omega, by omega, by omega, q _ ?_⟩
 simp [cur, lie]
 omega
def sp_xw : Sp := sp1 fun x H Q _ => NoT H /\ asI x fun c => (0 <= c /\ c < 2147483647) /\ ∀ t : Int, -1000000000000000 <= t /\ t <= 1000000000000000 -> Q (.int t) H
theorem sX (T : Txt K mg a) : bz P w K mg base (XE P w) 1 a.ir a.mq ["_law_cell"] sp_xw := by
 refine T.iu.okG tE (fun vs H Q E h => sp1.len h) (fun cdv A outer s H vs Q E hr h => ?_)
 obtain ⟨x0, rfl, h⟩ := sp1.inv h
 try dsimp only [sp_xw, sp1] at h
 have HU := bA hr
 obtain ⟨hN, h1⟩ := h
 obtain ⟨c, rfl, hc, q⟩ := asI.inv h1
 have sz := szl
 refine ⟨hN, _, (ae (a9 (ba (bf K HU) (ak aO (fv 0) ac) ac (aW _)) (aj (aD (ak cC (ak aO (ak aR (fv 0) ac) ac) ac))) aL)
  (ae (a9 (ba (bf K HU) (ak aO (fv 0) ac) ac (aW _)) (aj (aD (cW (FA.pa (aa ac (aa (ak dR ac ac) (aa (sy nE (ak dR ac ac)) ad)))) (ak aO (ak aR (fv 0) ac) ac) (fun _ _ => rfl)))) aL)
  (aj (aD (ak fM (ak aO (ak fM (fv 0) (fv 0)) (ak dR ac ac)) (ak cC ac (ak fM ac (ak aO (ak aR (fv 0) ac) ac)))))))), ?_⟩
 walk_at "rd"
 have e : (10 : Int) ^ YT 15 = 1000000000000000 := by decide
 rw [e]
 split
 ·exact q _ (by omega)
 split
 ·refine ⟨hN, by decide, by decide, by omega, fun p _ => uk (ns := [0, 1000000000000000, -1000000000000000]) (by omega) (by show _ < (3 : Int); omega) ⟨H, Gc.none (Same.refl _), q _ ?_⟩⟩
  have h3 : (c / 4 % 3).toNat = 0 \/ (c / 4 % 3).toNat = 1 \/ (c / 4 % 3).toNat = 2 := by omega
  rcases h3 with h | h | h <;> rw [h] <;> decide
 ·generalize c * c = cc
  refine ⟨.inl (by omega), by decide, by decide, .inr (by omega), q _ ?_⟩
  have h : c / 4 % 2 = 0 \/ c / 4 % 2 = 1 := by omega
  rcases h with h | h <;> rw [h] <;> omega
theorem Be {ws : List Int} (h : ∀ w ∈ ws, 0 <= w) : 0 <= ws.sum := by
 induction ws with
 | nil => exact Y8 _
 | cons z ws ih =>
  rw [ZD]
  have := h z (.head _)
  have := ih fun w hw => h w (.tail _ hw)
  omega
theorem zV {ws : List Int} (h : ∀ w ∈ ws, 0 <= w) {x : Int} (hx : x ∈ ws) (h0 : 0 < x) : 0 < ws.sum := by
 induction ws with
 | nil => cases hx
 | cons y ws ih =>
  rw [ZD]
  have hy := h y (.head _)
  have hr := Be fun w hw => h w (.tail _ hw)
  rcases ve.mp hx with rfl | hx
  ·omega
  ·have := ih (fun w hw => h w (.tail _ hw)) hx
   omega
def sp_qh : Sp := sp2 fun x y H Q _ => NoT H /\ asI x fun c => asI y fun m => (1 <= m /\ m <= 60) /\ ∀ (ws : List Int) q H', (ws.length : Int) = m -> (∀ w ∈ ws, 0 <= w /\ w <= 1000000000) -> 0 < ws.sum -> H q = none -> Same H H' -> NoT H' -> H' q = some (.lst (ws.map V.int)) -> Q (.ref q) H'
theorem qP (T : Txt K mg a) : bz P w K mg base (XE P w) 2 a.fJ a.iR ["_law_cell", "_law_many"] sp_qh := by
 refine T.fQ.okX iT (fun vs H Q E h => sp2.len h) (fun cdv A outer s H vs Q E hr h => ?_)
 obtain ⟨x0, x1, rfl, h⟩ := sp2.inv h
 try dsimp only [sp_qh, sp2] at h
 have ND := iT.nd
 have HU := bA hr
 obtain ⟨hN, h1⟩ := h
 obtain ⟨c, rfl, h2⟩ := asI.inv h1
 obtain ⟨m, rfl, hm, q⟩ := asI.inv h2
 have sz := szl
 have G__law_mixed := @dh P w K mg base a T
 have b__law_mixed := dj T.aX
 refine ⟨_, (ae (aE (i := 2) ND rfl (Or.inl rfl) (bh (FA.pa ad)))
  (ae (eJ (by passes_own) rfl (eW rfl T.iM (FA.pa (aa (fv 1) ad))) (a_ (i := 3) ND rfl (Or.inl rfl)) (ae (aE (i := 4) ND rfl (Or.inl rfl) (au G__law_mixed (hr.mono (by decide)) rfl T.bi T.aX.kp b__law_mixed .nil aQ (FA.pa (aa (fv 0) (aa (fv 3) ad)))))
  (aj (bZ (d5 K nO Zd Ze dy (fv 2) (FA.pa (aa (cW (FA.pa (aa (ak aO (ak aR (fv 4) ac) ac) (aa (ak aO (ak aR (fv 4) ac) ac) (aa (ak aO (ak aR (fv 4) ac) (ak aY (ak dR ac ac) ac)) (aa (ak dR ac ac) (aa (ak aO (ak aR (fv 4) ac) ac) (aa ac (aa ac (aa ac ad))))))))) (ak aO (fv 4) ac) (fun _ _ => rfl)) ad)))))))
  (ae (a9 (ba (bf K HU) (aB (ow K rfl) rfl T.wJ rA (FA.pa (aa (fv 2) ad))) ac (aW _)) (aj (jZ ac (pF (fv 2) (ak aO (fv 0) (fv 1)) ic))) aL)
  (aj (aD (fv 2)))))), ?_⟩
 walk_at "rd"
 have e9 : (10 : Int) ^ YT 9 = 1000000000 := by decide
 refine ⟨by omega, fun p hp => oQ ?_⟩
 walk_at "rd"
 refine ⟨by omega, by omega, hR (lo := 0) (n := m.toNat) (fun i σ' H' => Same H H' /\ NoT H' /\ ∃ vs : List Int, vs.length = i /\ (∀ w ∈ vs, 0 <= w /\ w <= 1000000000) /\ H' p = some (.lst (vs.map V.int)) /\ ∃ x3 x4, σ' = [some (.int c), some (.int m), some (.ref p), x3, x4]) ⟨aJ _ hp, aS hN rfl, [], rfl, (fun _ h => nomatch h), al, none, none, rfl⟩ ?_ ?_⟩
 ·rintro i σ' H' hi ⟨sm, nT, vs, lv, hv, hp', x3, x4, rfl⟩
  walk_at "rd"
  refine ⟨⟨by omega, by omega⟩, fun o o0 o1 => ?_⟩
  rw [e9]
  refine ⟨.inl ⟨_, SqL.of hp'⟩, nT, by decide, by decide, by decide, by omega, fun p1 _ => uk (ns := [o / 8 % 4, o / 8 % 4, o / 8 % (1000000000 + 1), 1000000000, o / 8 % 4, 0, 1, 2]) (by omega) (by show _ < (8 : Int); omega) ?_⟩
  have hx : ∀ x ∈ [o / 8 % 4, o / 8 % 4, o / 8 % (1000000000 + 1), 1000000000, o / 8 % 4, 0, 1, 2], 0 <= x /\ x <= 1000000000 := by
   simp only [List.forall_mem_cons, uD, false_imp_iff, implies_true, and_true]
   omega
  have hy : List.getD [o / 8 % 4, o / 8 % 4, o / 8 % (1000000000 + 1), 1000000000, o / 8 % 4, 0, 1, 2] (o % 8).toNat 0 ∈ [o / 8 % 4, o / 8 % 4, o / 8 % (1000000000 + 1), 1000000000, o / 8 % 4, 0, 1, 2] := by
   rw [List.getD_eq_getElem?_getD, List.getElem?_eq_getElem (by show _ < 8; omega)]; exact ZP _
  have hz := hx _ hy
  generalize List.getD [o / 8 % 4, o / 8 % 4, o / 8 % (1000000000 + 1), 1000000000, o / 8 % 4, 0, 1, 2] (o % 8).toNat 0 = y at hz |-
  refine ⟨p, _, _, rfl, rfl, hp', by rw [zl]; omega, cI sm hp, aS nT rfl, vs ++ [y], by simp [lv], fun z hm => ?_, by rw [al, qc]; rfl, _, _, rfl, rfl⟩
  rcases uO.mp hm with h | h
  ·exact hv z h
  ·rw [zY.mp h]; exact hz
 ·rintro σ' H' ⟨sm, nT, vs, lv, hv, hp', x3, x4, rfl⟩
  walk_at "rd"
  refine ⟨vs, .inl (SqL.of hp'), ?_⟩
  by_cases h0 : vs.sum = 0
  ·have b0 : 0 <= c % m := Ys _ (by omega)
   have b1 : c % m < m := Yb _ (by omega)
   obtain ⟨j, ej⟩ := fZ b0
   have lj : j < vs.length := by omega
   refine itp h0 ⟨by omega, p, _, _, j, rfl, rfl, hp', by rw [ej, zl]; exact xI lj, ?_⟩
   have ev : (vs.map V.int).set j (V.int 1) = (vs.set j 1).map V.int := by rw [List.map_set]
   rw [ev]
   have hs : ∀ w ∈ vs.set j 1, 0 <= w /\ w <= 1000000000 := fun w hw => by
    rcases List.mem_or_eq_of_mem_set hw with h | rfl
    ·exact hv w h
    ·omega
   exact q _ p _ (by rw [List.length_set]; omega) hs (zV (fun w hw => (hs w hw).1) (List.mem_set lj _) (by omega)) hp (cI sm hp) (aS nT rfl) al
  ·have := Be fun w hw => (hv w hw).1
   exact itn h0 (q vs p _ (by omega) hv (by omega) hp sm nT hp')
open K5 K17
structure GOk (nms : List (List Nat)) (b : Bd) : Prop where
 mn : b.nm ∈ nms
 nn : nm b.nm = true
 pt : uq b.pt = true
 pl : (∀ c ∈ b.pt, c < 128) /\ b.pt.length <= 65
 cu : cur b.cu = true
 fl : 0 <= b.f /\ b.f <= b.l /\ b.l <= 4799 /\ b.l < b.f + 60
 tt : -1000000000000000 <= b.t /\ b.t <= 1000000000000000
 ws : (∀ w ∈ b.ws, 0 <= w /\ w <= 1000000000) /\ 1 <= b.ws.length /\ b.ws.length <= 60 /\ 0 < b.ws.sum
 ln : (b.ws.length : Int) = b.l - b.f + 1
structure LAt (H : Hp) (q wq : Addr) (b : Bd) : Prop where
 q : H q = some (.lst [L2.T b.nm, L2.T b.pt, L2.T b.cu, .int b.f, .int b.l, .int b.t, .ref wq])
 w : H wq = some (.lst (b.ws.map V.int))
theorem LAt.same {H H' : Hp} {q wq : Addr} {b : Bd} (x : LAt H q wq b) (s : Same H H') : LAt H' q wq b := ⟨s _ _ x.q, s _ _ x.w⟩
theorem Hb {l : List Nat} (h : nm l = true) : 58 ∉ l := fun m => by have := (j3 h).2.2 58 m; omega
theorem Dy : ∀ {ps : List (List Nat)}, ps ≠ [] -> ps.length <= 5 -> (∀ l ∈ ps, nm l = true) -> uq (bI [58] ps) = true /\ (∀ c ∈ bI [58] ps, c < 128) /\ (bI [58] ps).length <= 65 := by
 intro ps h0 h5 hn
 have e := oA 58 ps h0 fun p hp => Hb (hn p hp)
 refine ⟨?_, ?_⟩
 ·unfold uq
  rw [e, decide_eq_true (show 1 <= ps.length from List.length_pos_iff.mpr h0), decide_eq_true (show ps.length <= 6 by omega), u9.mpr hn]; rfl
 ·have g : ∀ qs : List (List Nat), (∀ l ∈ qs, nm l = true) -> (∀ c ∈ bI [58] qs, c < 128) /\ (bI [58] qs).length <= 13 * qs.length := by
   intro qs
   induction qs with
   | nil => intro _; exact ⟨by simp [bI], by simp [bI]⟩
   | cons x r ih =>
    intro hq
    obtain ⟨i1, i2⟩ := ih fun l hl => hq l (.tail _ hl)
    have hx := j3 (hq x (.head _))
    cases r with
    | nil => exact ⟨fun c hc => by have := hx.2.2 c (by simpa [bI] using hc); omega, by simp [bI]; omega⟩
    | cons y r =>
     rw [bI]
     refine ⟨fun c hc => ?_, ?_⟩
     ·rcases uO.mp hc with h | h
      ·rcases uO.mp h with h | h
       ·have := hx.2.2 c h; omega
       ·rw [zY.mp h]; decide
      ·exact i1 c h
     ·rw [uf, uf, ZH, ql (a := x)]; omega
  obtain ⟨g1, g2⟩ := g ps hn
  exact ⟨g1, by omega⟩
theorem FP {ps : List (List Nat)} (h : ps.length <= 5) (hn : ∀ l ∈ ps, nm l = true) : Az [58] ps := by
 have g : (ps.map Yh).sum <= 12 * ps.length := by
  clear h
  induction ps with
  | nil => exact zR _
  | cons x r ih =>
   have := ih fun l hl => hn l (.tail _ hl)
   have := j3 (hn x (.head _))
   rw [ud, ZD, ql]; omega
 unfold Az
 rw [ZH]; omega
def sp_ve : Sp := sp2 fun x y H Q _ => NoT H /\ asI x fun c => asR y fun nq => ∃ nms : List (List Nat), H nq = some (.lst (nms.map L2.T)) /\ nms.length = 5 /\ (∀ l ∈ nms, nm l = true) /\ ∀ b q wq H', GOk nms b -> LAt H' q wq b -> H q = none -> H wq = none -> Same H H' -> NoT H' -> Q (.ref q) H'
theorem tX (T : Txt K mg a) : bz P w K mg base (XE P w) 3 a.dU a.ml ["_law_cell", "_law_names_here"] sp_ve := by
 refine T.iz.okX lW (fun vs H Q E h => sp2.len h) (fun cdv A outer s H vs Q E hr h => ?_)
 obtain ⟨x0, x1, rfl, h⟩ := sp2.inv h
 try dsimp only [sp_ve, sp2] at h
 have ND := lW.nd
 have HU := bA hr
 obtain ⟨hN, h1⟩ := h
 obtain ⟨c, rfl, h2⟩ := asI.inv h1
 obtain ⟨nq, rfl, nms, hq, l5, hn, k⟩ := asR.inv h2
 have sz := szl
 have G__law_weights := @qP P w K mg base a T
 have b__law_weights := qO T.fQ
 have G__law_mixed := @dh P w K mg base a T
 have b__law_mixed := dj T.aX
 have G__law_total := @sX P w K mg base a T
 have b__law_total := tP T.iu
 have G__law_currency := @pB P w K mg base a T
 have b__law_currency := qa T.eK
 have c4 : ∃ u, PSs (cO (XE P w) P w K mg base ["_law_cell", "_law_names_here", "_law_many", "_law_first", "_law_path", "_law_currency_here", "_law_total_here", "_law_name"] "_law_terms" (af bv) a.dU cdv A outer s H E) (Zg 4 (aw bv)) u /\ ∀ (m f : Int) pt H1, (1 <= m /\ m <= 60) -> (0 <= f /\ f < 4801 - m) -> (uq pt = true /\ (∀ c ∈ pt, c < 128) /\ pt.length <= 65) -> Same H H1 -> NoT H1 -> u { nx := fun _ H' => Q .non H', rt := Q } [some (.int c), some (.ref nq), some (.int m), some (.int f), some (L2.T pt), none, none, none] H1 := by
  refine ⟨_, (ae (aE (i := 5) ND rfl (Or.inl rfl) (au G__law_currency (hr.mono (by decide)) rfl T.qF T.eK.kp b__law_currency .nil aQ (FA.pa (aa (ak aR (au G__law_mixed (hr.mono (by decide)) rfl T.bi T.aX.kp b__law_mixed .nil aQ (FA.pa (aa (fv 0) (aa ac ad)))) ac) ad))))
   (ae (aE (i := 6) ND rfl (Or.inl rfl) (au G__law_total (hr.mono (by decide)) rfl T.wD T.iu.kp b__law_total .nil aQ (FA.pa (aa (ak aR (au G__law_mixed (hr.mono (by decide)) rfl T.bi T.aX.kp b__law_mixed .nil aQ (FA.pa (aa (fv 0) (aa ac ad)))) ac) ad))))
   (ae (aE (i := 7) ND rfl (Or.inl rfl) (aH (ao K) (fv 1) (ak aO (ak aR (au G__law_mixed (hr.mono (by decide)) rfl T.bi T.aX.kp b__law_mixed .nil aQ (FA.pa (aa (fv 0) (aa ac ad)))) ac) ac) (fun _ _ => rfl)))
   (aj (aD (bh (FA.pa (aa (fv 7) (aa (fv 4) (aa (fv 5) (aa (fv 3) (aa (ak cC (ak aY (fv 3) (fv 2)) ac) (aa (fv 6) (aa (au G__law_weights (hr.mono (by decide)) rfl T.rV T.fQ.kp b__law_weights .nil aQ (FA.pa (aa (au G__law_mixed (hr.mono (by decide)) rfl T.bi T.aX.kp b__law_mixed .nil aQ (FA.pa (aa (fv 0) (aa ac ad)))) (aa (fv 2) ad)))) ad)))))))))))))), fun m f pt H1 hm hf hp s1 N1 => ?_⟩
  walk_at "rd"
  refine fun i1 b1 b2 => ⟨N1, fun cu hc i2 b3 b4 => ⟨N1, ⟨by omega, by omega⟩, fun t ht i3 b5 b6 => ?_⟩⟩
  obtain ⟨j, ej⟩ := fZ (show 0 <= i3 / 9 % 5 by omega)
  have lj : j < nms.length := by omega
  refine ⟨_, _, .inl (SqL.of (s1 _ _ hq)), by rw [ej]; exact cJ (by rw [List.getElem?_map, List.getElem?_eq_getElem lj]; rfl), fun i4 b7 b8 => ⟨N1, hm, fun ws wq H2 lw hw sw fw s2 N2 gw => ⟨by omega, fun q fq => ?_⟩⟩⟩
  obtain ⟨H3, ee, s3, g3, N3⟩ := alloc (o := HO.lst [L2.T nms[j], L2.T pt, L2.T cu, .int f, .int (f + m - 1), .int t, .ref wq]) fq N2 rfl
  rw [ee]
  exact k ⟨nms[j], 0, 0, 0, 0, pt, cu, f, f + m - 1, t, ws⟩ q wq H3 ⟨ZP lj, hn _ (ZP lj), hp.1, hp.2, hc, ⟨hf.1, by show f <= f + m - 1; omega, by show f + m - 1 <= 4799; omega, by show f + m - 1 < f + 60; omega⟩, ht, ⟨hw, by show 1 <= ws.length; omega, by show ws.length <= 60; omega, sw⟩, by show (ws.length : Int) = f + m - 1 - f + 1; omega⟩ ⟨g3, s3 _ _ gw⟩ ((s1.trans s2).free fq) (s1.free fw) (s1.trans (s2.trans s3)) N3
 obtain ⟨u4, hu4, c4⟩ := c4
 have c2 : ∃ u, PSs (cO (XE P w) P w K mg base ["_law_cell", "_law_names_here", "_law_many", "_law_first", "_law_path", "_law_currency_here", "_law_total_here", "_law_name"] "_law_terms" (af bv) a.dU cdv A outer s H E) (Zg 2 (aw bv)) u /\ ∀ (m : Int), (1 <= m /\ m <= 60) -> u { nx := fun _ H' => Q .non H', rt := Q } [some (.int c), some (.ref nq), some (.int m), none, none, none, none, none] H := by
  refine ⟨_, (ae (aE (i := 3) ND rfl (Or.inl rfl) (ak aO (ak aR (au G__law_mixed (hr.mono (by decide)) rfl T.bi T.aX.kp b__law_mixed .nil aQ (FA.pa (aa (fv 0) (aa ac ad)))) ac) (ak cC ac (fv 2))))
   (ae (aE (i := 4) ND rfl (Or.inl rfl) (d5 K YZ PySem.F.slot_str_join PySem.F.type_str_join (rz K) (aq [58]) (FA.pa (aa (cY (fj K) (fv 1) dN (dP (ak aY ac (ak aO (ak aR (au G__law_mixed (hr.mono (by decide)) rfl T.bi T.aX.kp b__law_mixed .nil aQ (FA.pa (aa (fv 0) (aa ac ad)))) ac) ac)))) ad))))
   hu4)), fun m hm => ?_⟩
  walk_at "rd"
  refine fun i1 b1 b2 => ⟨by omega, fun i2 b3 b4 => ⟨nq, _, rfl, SqL.of hq, fun p fp => ?_⟩⟩
  rw [kQ _ (by omega), <- YO]
  obtain ⟨H1, ee, s1, g1, N1⟩ := alloc (o := HO.lst ((nms.take (1 + i2 / 7 % 5).toNat).map L2.T)) fp hN rfl
  rw [ee]
  have lt : (nms.take (1 + i2 / 7 % 5).toNat).length <= 5 := by rw [Zf]; omega
  have ht : ∀ l ∈ nms.take (1 + i2 / 7 % 5).toNat, nm l = true := fun l hl => hn l (ZB hl)
  have b5 : 0 <= i1 / 3 % (4801 - m) := Ys _ (by omega)
  have b6 : i1 / 3 % (4801 - m) < 4801 - m := Yb _ (by omega)
  refine ⟨_, SqL.of g1, FP lt ht, c4 m _ _ H1 hm ⟨b5, b6⟩ (Dy (fun z => ?_) lt ht) s1 N1⟩
  have := congrArg Yh z
  rw [Zf, Y2] at this
  omega
 obtain ⟨u2, hu2, c2⟩ := c2
 refine ⟨_, (ae (aE (i := 2) ND rfl (Or.inl rfl) (ak aY ac (ak aO (fv 0) ac)))
  (ae (a9 (ba (bf K HU) (ak aO (ak aR (fv 0) ac) ac) ac (aW _)) (aj (aE (i := 2) ND rfl (Or.inl rfl) (ak aY ac (ak aO (ak aR (fv 0) ac) ac)))) aL)
  hu2)), ?_⟩
 walk_at "rd"
 split
 ·exact c2 _ (by omega)
 ·exact c2 _ (by omega)
open K5 K17
def wyI (w : Int) : Nat := if w < 4 then w.toNat else w.toNat - 1
def BadS (H : Hp) (b : Bd) (v : V) : Prop := (∃ q xs, v = .ref q /\ H q = some (.lst xs) /\ xs.length <= 4000 /\ xs.all cj = true /\ (wOk xs = false \/ ¬ (xs.length : Int) = b.l - b.f + 1)) \/ (∃ t, aZ H v = some t /\ bJ t "list" = false)
theorem BadS.same {H H' : Hp} {b : Bd} {v : V} (x : BadS H b v) (s : Same H H') : BadS H' b v := by
 rcases x with ⟨q, xs, e, h, r⟩ | ⟨t, k, i⟩
 ·exact .inl ⟨q, xs, e, s _ _ h, r⟩
 ·exact .inr ⟨t, dC s k, i⟩
theorem BadS.ne {H : Hp} {b : Bd} {v : V} {p : Addr} (x : BadS H b v) (f : H p = none) : v ≠ .ref p := by
 rintro rfl
 rcases x with ⟨q, xs, e, h, r⟩ | ⟨t, k, i⟩
 ·cases e; rw [f] at h; cases h
 ·simp [aZ, f] at k
theorem BadS.put {H : Hp} {b : Bd} {v : V} {p : Addr} {o : HO} (x : BadS H b v) (n : v ≠ .ref p) : BadS (upd H p o) b v := by
 rcases x with ⟨q, xs, rfl, h, r⟩ | ⟨t, k, i⟩
 ·exact .inl ⟨q, xs, rfl, (ay (by rintro rfl; exact n rfl)).trans h, r⟩
 ·refine .inr ⟨t, ?_, i⟩
  cases v with
  | ref q =>
   have hq : upd H p o q = H q := ay (by rintro rfl; exact n rfl)
   unfold aZ at k |-
   simp only [hq]; exact k
  | _ => exact k
theorem mZ (ws : List Int) : (ws.map V.int).all cj = true := by rw [Yq]; exact u9.mpr fun _ _ => rfl
theorem DD {H : Hp} {b : Bd} {q : Addr} {ws us : List Int} {x : V} (h : H q = some (.lst (ws.map V.int ++ [x] ++ us.map V.int))) (fx : cj x = true) (ax : amg x 0 1000000000 = false) (hl : ws.length + us.length <= 3000) : BadS H b (.ref q) := by
 refine .inl ⟨q, _, rfl, h, ?_, ?_, .inl ?_⟩
 ·rw [uf, uf, zl, zl, ZH]; omega
 ·rw [Y3, Y3, mZ, mZ]
  simp [fx]
 ·unfold wOk
  have : (ws.map V.int ++ [x] ++ us.map V.int).all (fun x => amg x 0 1000000000) = false := by
   rw [Y3, Y3]; simp [ax]
  rw [this, YH, Bool.false_and]
def Odd (H : Hp) (b : Bd) (w : Int) (v : V) : Prop :=
 (w = 0 -> okV v /\ Kd H v /\ nameV v = false) /\ (w = 1 -> okP v /\ Kd H v /\ je v = false) /\ (w = 2 -> okV v /\ Kd H v /\ sM v = false) /\ (w = 3 -> Kd H v /\ mns v (.int b.l) = false) /\ (w = 4 -> Kd H v /\ mns (.int b.f) v = false) /\ (w = 5 -> Kd H v /\ amg v (-1000000000000000) 1000000000000000 = false) /\
 (w = 6 -> BadS H b v)
def Fr (H : Hp) (v : V) : Prop := ∀ p, v = .ref p -> H p = none
def sp_B0 : Sp := sp3 fun x y z H Q _ => NoT H /\ asI x fun w => asR y fun q => asI z fun c => ∃ b wq nms, (0 <= w /\ w <= 6) /\ LAt H q wq b /\ GOk nms b /\ ∀ v t H', H t = none -> H' t = some (.tup [.int w, v, L2.T (WDS.getD (wyI w) [])]) -> Odd H' b w v -> Fr H v -> Same H H' -> NoT H' -> Q (.ref t) H'
theorem sqa {H : Hp} {q : Addr} {xs : List V} (h : H q = some (.lst xs)) : SqL K H q xs \/ SqT K H q xs := .inl (SqL.of h)
theorem vQ {H : Hp} {v : V} (f : cj v = true) : Kd H v := by
 cases v with
 | non => exact ⟨_, rfl⟩
 | bl => exact ⟨_, rfl⟩
 | int => exact ⟨_, rfl⟩
 | str => exact ⟨_, rfl⟩
 | _ => cases f
def Pk (R : V -> Prop) (H H1 : Hp) (v : V) : Prop := R v /\ (cj v = true \/ ∃ p o, v = .ref p /\ H p = none /\ H1 p = some o /\ ∃ ys, o = .lst ys \/ o = .tup ys \/ o = .dK [])
theorem mx {xs : List V} {H H1 : Hp} {Q : VK} {i : Int} (R : V -> Prop) (hN : NoT H) (h0 : 0 <= i) (h1 : i < xs.length) (h : ∀ v ∈ xs, Pk R H H1 v) (k : ∀ v H', Same H H' -> NoT H' -> R v -> Kd H' v -> Fr H v -> Q v H') : mf xs H H1 Q (.int i) := by
 obtain ⟨j, rfl⟩ : ∃ j : Nat, i = j := ⟨i.toNat, by omega⟩
 have hj : j < xs.length := by omega
 have e : atI xs (j : Int) = some xs[j] := cJ (List.getElem?_eq_getElem hj)
 obtain ⟨r, f | ⟨p, o, ev, hp, ho, ys, eo⟩⟩ := h _ (ZP hj)
 ·have q := k _ H (Same.refl _) hN r (vQ f) fun p e => by rw [e] at f; cases f
  unfold mf
  simp only [e]
  split
  ·rename_i q' e'
   injection e' with e'
   rw [e'] at f; cases f
  ·rename_i v _ e'
   injection e' with e'
   rw [e'] at q; exact q
  ·rename_i e'; cases e'
 ·rw [ev] at e r
  have pl : pf o = true := by rcases eo with rfl | rfl | rfl <;> rfl
  have nt : mJ o = true := by rcases eo with rfl | rfl | rfl <;> rfl
  have hk : Kd (upd H p o) (.ref p) := by
   rcases eo with rfl | rfl | rfl
   ·exact ⟨"list", by simp [aZ, al]⟩
   ·exact ⟨"tuple", by simp [aZ, al]⟩
   ·exact ⟨"dict", by simp [aZ, al]⟩
  exact xZ e hp ho pl (k _ _ (aJ _ hp) (aS hN nt) r hk fun p' e' => by cases e'; exact hp)
theorem pkF {R : V -> Prop} {H H1 : Hp} {v : V} (r : R v) (f : cj v = true := by rfl) : Pk R H H1 v := ⟨r, .inl f⟩
theorem fa {α : Type} {P : α -> Prop} {x : α} {l : List α} (h : P x) (t : ∀ y ∈ l, P y) : ∀ y ∈ x :: l, P y := fun y m => by
 rcases ve.mp m with rfl | m
 ·exact h
 ·exact t y m
theorem fn {α : Type} {P : α -> Prop} : ∀ y ∈ ([] : List α), P y := fun _ m => nomatch m
theorem jQ {i j : Int} (h : ¬ (0 <= i /\ i <= 4799 /\ i <= j /\ j < i + 60 /\ 0 <= j /\ j <= 4799)) : mns (.int i) (.int j) = false := by
 cases e : mns (.int i) (.int j) with
 | false => rfl
 | true =>
  obtain ⟨i', j', e1, e2, g⟩ := qV e
  cases e1; cases e2
  exact absurd (by omega) h
theorem ur {x : V} (h : ∀ i : Int, x ≠ .int i) (y : V) : mns x y = false /\ mns y x = false := by
 constructor
 ·cases e : mns x y with
  | false => rfl
  | true => obtain ⟨i', j', e1, e2, g⟩ := qV e; exact absurd e1 (h _)
 ·cases e : mns y x with
  | false => rfl
  | true => obtain ⟨i', j', e1, e2, g⟩ := qV e; exact absurd e2 (h _)
theorem wj {i lo hi : Int} (h : ¬ (lo <= i /\ i <= hi)) : amg (.int i) lo hi = false := by
 cases e : amg (.int i) lo hi with
 | false => rfl
 | true => obtain ⟨i', e1, g⟩ := lb e; cases e1; exact absurd g h
theorem vf {H : Hp} {p : Addr} (h : H p = none) : Fr H (.ref p) := fun _ e => by cases e; exact h
theorem a8 (w : Int) {n : Int} {p : Prop} (h : w ≠ n) : w = n -> p := fun e => absurd e h
theorem fB {l : List Nat} (h : (∀ c ∈ l, c < 128) /\ l.length <= 1000) : okV (L2.T l) := fun _ e => by cases e; exact h
theorem nJ {l : List Nat} (h : (∀ c ∈ l, c < 128) /\ l.length <= 199) : okP (L2.T l) := fun _ e => by cases e; exact h
theorem rh (s x : List Nat) : ∀ (r : List (List Nat)), r ≠ [] -> bI s (r ++ [x]) = bI s r ++ s ++ x
 | [], h => absurd rfl h
 | [y], _ => by simp [bI]
 | y :: z :: r, _ => by
  have := rh s x (z :: r) (by simp)
  rw [Z9, Z9, bI, <- Z9, this, bI]
  simp
theorem zE {v n : List Nat} (hn : 58 ∉ n) : spN 58 (v ++ 58 :: n) = spN 58 v ++ [n] := by
 have h := oA 58 (spN 58 v ++ [n]) (by simp) fun p hp => by
  rcases uO.mp hp with h | h
  ·exact k9 58 v p h
  ·rw [zY.mp h]; exact hn
 rw [rh _ _ _ (rE 58 v), wO] at h
 rw [<- h]; simp
theorem El (l : List Nat) : je (L2.T (l ++ [58, 58, 98])) = false := by
 have e : spN 58 (l ++ [58, 58, 98]) = spN 58 l ++ [[]] ++ [[98]] := by
  have h1 := zE (v := l ++ [58]) (n := [98]) (by decide)
  rw [zE (v := l) (n := []) (by decide)] at h1
  rw [<- h1]; simp
 have e2 : (spN 58 (l ++ [58, 58, 98])).all nm = false := by rw [e]; simp [show nm [] = false from rfl]
 show (_ && _ && (spN 58 (l ++ [58, 58, 98])).all nm) = false
 rw [e2, YH]
theorem F_ (n : Nat) : (vd ((n : Nat) : Int).toNat [V.int 0]).flatten = (vd n (0 : Int)).map V.int := by
 rw [Zi, List.map_replicate]
 induction n with
 | zero => rfl
 | succ n ih => rw [Zj, Z0, ih, Zj]; rfl
theorem Cc (n : Nat) : (decide (0 < (vd n (0 : Int)).sum)) = false := by
 have e : (vd n (0 : Int)).sum = 0 := by
  induction n with
  | zero => rfl
  | succ n ih => rw [Zj, ZD, ih]; rfl
 rw [e]; rfl
theorem xS (xs : List V) (n : Nat) : xY xs (some (n : Int)) none = xs.drop n := by
 unfold xY
 rw [HT.sIx_none, HT.sIx_nat]
 by_cases h : n <= xs.length
 ·rw [ZJ h, oF (by rw [YE]; omega)]
 ·rw [Z8 (by omega), YY (zR _), YY (by omega), List.take_nil]
theorem wZ (T : Txt K mg a) : bz P w K mg base (XE P w) 2 a.d0 a.qf ["_law_way", "_law_terms_here", "_law_cell"] sp_B0 := by
 refine T.nC.okX qg (fun vs H Q E h => sp3.len h) (fun cdv A outer s H vs Q E hr h => ?_)
 obtain ⟨x0, x1, x2, rfl, h⟩ := sp3.inv h
 try dsimp only [sp_B0, sp3] at h
 have ND := qg.nd
 have HU := bA hr
 obtain ⟨hN, h1⟩ := h
 obtain ⟨wy, rfl, h2⟩ := asI.inv h1
 obtain ⟨q, rfl, h3⟩ := asR.inv h2
 obtain ⟨c, rfl, b, wq, nms, hw, La, B, k⟩ := asI.inv h3
 have sz := szl
 have hs := sqa (K := K) La.q
 have fl := B.fl
 have bw := B.ws
 have bl := B.ln
 have c10 : ∃ u, PSs (cO (XE P w) P w K mg base ["_law_way", "_law_terms_here", "_law_cell", "_law_far", "_law_many", "_law_at", "_law_some", "_law_thing"] "_law_odd" (af bB) a.d0 cdv A outer s H E) (Zg 10 (aw bB)) u /\ ∀ (far mn i5 : Int) so xs H1, wy = 6 -> 0 <= far -> (0 <= i5 /\ i5 < b.ws.length) -> Same H H1 -> NoT H1 -> H so = none -> H1 so = some (.lst xs) -> xs.length = 7 -> (∀ v ∈ xs, BadS H1 b v /\ v ≠ .ref so /\ Fr H v) -> u { nx := fun _ H' => Q .non H', rt := Q } [some (.int wy), some (.ref q), some (.int c), some (.int far), some (.int mn), some (.int i5), some (.ref so), none] H1 := by
  refine ⟨_, (ae (eJ (by passes_own) rfl (CY K (dW (FA.pa (aa (ak cC (sy nE ac) (fv 3)) (aa (ak aY (ak aY (ak dR ac ac) ac) (fv 3)) (aa dk (aa (aq [49]) ad))))))) (a_ (i := 7) ND rfl (Or.inl rfl)) (aj (bZ (d5 K nO Zd Ze dy (fv 6) (FA.pa (aa (ak nj (ak nj (cY (fj K) (aH (ao K) (fv 1) ac (fun _ _ => rfl)) dN (dP (fv 5))) (bh (FA.pa (aa (fv 7) ad)))) (cY (fj K) (aH (ao K) (fv 1) ac (fun _ _ => rfl)) (dP (ak aY (fv 5) ac)) dN)) ad))))))
   (aj (aD (dW (FA.pa (aa ac (aa (aH (ao K) (fv 6) (ak aO (fv 2) ac) (fun _ _ => rfl)) (aa (aq [115, 104, 97, 114, 101]) ad)))))))), fun far mn i5 so xs H1 ew f0 hi s1 N1 fso gso lx hx => ?_⟩
  walk_at "rd"
  refine Br ?_
  walk_at "rd"
  have e9 : (10 : Int) ^ YT 9 = 1000000000 := by decide
  rw [e9]
  refine ⟨by decide, by omega, fun tp ftp => ?_⟩
  obtain ⟨H2, ee, s2, g2, N2⟩ := alloc (o := HO.tup [V.int (-1 - far), V.int (1000000000 + 1 + far), V.bl true, L2.T [49]]) ftp N1 rfl
  rw [ee]
  have hy : ∀ v ∈ [V.int (-1 - far), V.int (1000000000 + 1 + far), V.bl true, L2.T [49]], cj v = true /\ amg v 0 1000000000 = false := fa ⟨rfl, wj (by omega)⟩ (fa ⟨rfl, wj (by omega)⟩ (fa ⟨rfl, rfl⟩ (fa ⟨rfl, rfl⟩ fn)))
  refine BS (SqT.of g2) (CT (xs := [V.int (-1 - far), V.int (1000000000 + 1 + far), V.bl true, L2.T [49]]) (fun i σ' G => Same H G /\ NoT G /\ G tp = some (.tup [V.int (-1 - far), V.int (1000000000 + 1 + far), V.bl true, L2.T [49]]) /\ ∃ ys x7, G so = some (.lst ys) /\ ys.length = 7 + i /\ (∀ v ∈ ys, BadS G b v /\ v ≠ .ref so /\ Fr H v) /\ σ' = [some (.int wy), some (.ref q), some (.int c), some (.int far), some (.int mn), some (.int i5), some (.ref so), x7]) ⟨s1.trans s2, N2, g2, xs, none, s2 _ _ gso, lx, fun v hv => ⟨(hx v hv).1.same s2, (hx v hv).2⟩, rfl⟩ (fun i σ' G _ h => SqT.of h.2.2.1) ?_ ?_)
  ·rintro i x σ' G hxi ⟨sG, nG, gt, ys, x7, gs, ly, hb, rfl⟩
   obtain ⟨fx, ax⟩ := hy x (qh hxi)
   have hG := sqa (K := K) (sG _ _ La.q)
   walk_at "rd"
   obtain ⟨j, rfl⟩ := fZ hi.1
   refine ⟨.inl ⟨_, SqL.of gs⟩, _, _, hG, rfl, wq, _, rfl, SqL.of (sG _ _ La.w), fun p1 f1 => ?_⟩
   rw [kQ _ (by omega), Zi, <- YO]
   obtain ⟨G1, ee, t1, g1, M1⟩ := alloc (o := HO.lst ((b.ws.take j).map V.int)) f1 nG rfl
   rw [ee]
   refine ⟨by omega, fun p2 f2 => ?_⟩
   obtain ⟨G2, ee, t2, k2, M2⟩ := alloc (o := HO.lst [x]) f2 M1 rfl
   rw [ee]
   have lt : (b.ws.take j).length = j := by rw [Zf]; omega
   have ld : (b.ws.drop (j + 1)).length = b.ws.length - (j + 1) := YE
   refine ⟨_, _, t2 _ _ g1, k2, by rw [zl, lt]; show j + 1 <= sizeLine; omega, fun p3 f3 => ?_⟩
   obtain ⟨G3, ee, t3, k3, M3⟩ := alloc (o := HO.lst ((b.ws.take j).map V.int ++ [x])) f3 M2 rfl
   rw [ee]
   have s3 := sG.trans (t1.trans (t2.trans t3))
   refine ⟨_, _, sqa (s3 _ _ La.q), rfl, wq, _, rfl, SqL.of (s3 _ _ La.w), fun p4 f4 => ?_⟩
   rw [show (some ((j : Int) + 1)) = some ((j + 1 : Nat) : Int) from rfl, xS, <- List.map_drop]
   obtain ⟨G4, ee, t4, k4, M4⟩ := alloc (o := HO.lst ((b.ws.drop (j + 1)).map V.int)) f4 M3 rfl
   rw [ee]
   refine ⟨_, _, t4 _ _ k3, k4, by rw [uf, zl, zl, lt, ld]; show j + 1 + _ <= sizeLine; omega, fun p5 f5 => ?_⟩
   obtain ⟨G5, ee, t5, k5, M5⟩ := alloc (o := HO.lst ((b.ws.take j).map V.int ++ [x] ++ (b.ws.drop (j + 1)).map V.int)) f5 M4 rfl
   rw [ee]
   have u5 := t1.trans (t2.trans (t3.trans (t4.trans t5)))
   have v5 := DD (b := b) k5 fx ax (by rw [lt, ld]; omega)
   have gs4 := (t1.trans (t2.trans (t3.trans t4))) _ _ gs
   have n5 : V.ref p5 ≠ V.ref so := fun z => by injection z with z; rw [z, gs4] at f5; cases f5
   refine ⟨so, _, _, rfl, rfl, u5 _ _ gs, by rw [ly]; have := (List.getElem?_eq_some_iff.mp hxi).1; show 7 + i < sizeLine; change i < 4 at this; omega, cI (sG.trans u5) fso, aS M5 rfl, (ay (cS gt gs)).trans (u5 _ _ gt), _, _, al, by rw [uf, ly]; rfl, fun v hv => ?_, rfl⟩
   rcases uO.mp hv with h | h
   ·exact ⟨((hb v h).1.same u5).put (hb v h).2.1, (hb v h).2⟩
   ·rw [zY.mp h]
    exact ⟨v5.put n5, n5, fun p e => by cases e; exact (s3.trans t4).free f5⟩
  ·rintro σ' G ⟨sG, nG, gt, ys, x7, gs, ly, hb, rfl⟩
   walk_at "rd"
   obtain ⟨j, ej⟩ := fZ (show 0 <= c % 11 by omega)
   have lj : j < ys.length := by rw [ly]; show j < 11; omega
   refine ⟨_, _, sqa gs, by rw [ej]; exact cJ (List.getElem?_eq_getElem lj), by omega, fun t ft => ?_⟩
   have B5 := (hb _ (ZP lj)).1
   subst ew
   exact k _ t _ (sG.free ft) al ⟨a8 _ (by decide), a8 _ (by decide), a8 _ (by decide), a8 _ (by decide), a8 _ (by decide), a8 _ (by decide), fun _ => B5.same (aJ _ ft)⟩ (hb _ (ZP lj)).2.2 (sG.trans (aJ _ ft)) (aS nG rfl)
 obtain ⟨u10, hu10, c10⟩ := c10
 have c7 : ∃ u, PSs (cO (XE P w) P w K mg base ["_law_way", "_law_terms_here", "_law_cell", "_law_far", "_law_many", "_law_at", "_law_some", "_law_thing"] "_law_odd" (af bB) a.d0 cdv A outer s H E) (Zg 7 (aw bB)) u /\ ∀ (far : Int), 0 <= far -> wy = 6 -> u { nx := fun _ H' => Q .non H', rt := Q } [some (.int wy), some (.ref q), some (.int c), some (.int far), none, none, none, none] H := by
  refine ⟨_, (ae (aE (i := 4) ND rfl (Or.inl rfl) (aB (eh K) rfl T.lX gN (FA.pa (aa (aH (ao K) (fv 1) ac (fun _ _ => rfl)) ad))))
   (ae (aE (i := 5) ND rfl (Or.inl rfl) (ak aO (ak aR (fv 2) ac) (fv 4)))
   (ae (aE (i := 6) ND rfl (Or.inl rfl) (bh (FA.pa (aa (ak nj (aH (ao K) (fv 1) ac (fun _ _ => rfl)) (bh (FA.pa (aa ac ad)))) (aa (cY (fj K) (aH (ao K) (fv 1) ac (fun _ _ => rfl)) (dP ac) dN) (aa (ak ww (bh (FA.pa (aa ac ad))) (fv 4)) (aa (dB (sU K) rfl T.qQ oW (FA.pa (aa (aH (ao K) (fv 1) ac (fun _ _ => rfl)) ad))) (aa fS (aa (bh (FA.pa ad)) (aa (ak ww (bh (FA.pa (aa ac ad))) ac) ad))))))))))
   hu10))), fun far f0 ew => ?_⟩
  have lz : b.ws.length < sizeLine := by omega
  walk_at "rd"
  refine ⟨_, _, hs, rfl, b.ws.map V.int, .inl (SqL.of La.w), ?_⟩
  rw [zl]
  walk_at "rd"
  have b0 : 0 <= c / 11 % (b.ws.length : Int) := Ys _ (by omega)
  have b1 : c / 11 % (b.ws.length : Int) < b.ws.length := Yb _ (by omega)
  generalize c / 11 % (b.ws.length : Int) = i5 at b0 b1 |-
  refine ⟨by omega, _, _, hs, rfl, by omega, fun p1 f1 => ?_⟩
  obtain ⟨H1, ee, s1, g1, N1⟩ := alloc (o := HO.lst [V.int 1]) f1 hN rfl
  rw [ee]
  refine ⟨_, _, s1 _ _ La.w, g1, by rw [zl]; show b.ws.length + 1 <= sizeLine; omega, fun p2 f2 => ?_⟩
  obtain ⟨H2, ee, s2, g2, N2⟩ := alloc (o := HO.lst (b.ws.map V.int ++ [V.int 1])) f2 N1 rfl
  rw [ee]
  have s12 := s1.trans s2
  refine ⟨_, _, sqa (s12 _ _ La.q), rfl, wq, _, rfl, SqL.of (s12 _ _ La.w), fun p3 f3 => ?_⟩
  rw [show (some (1 : Int)) = some ((1 : Nat) : Int) from rfl, xS]
  obtain ⟨H3, ee, s3, g3, N3⟩ := alloc (o := HO.lst ((b.ws.map V.int).drop 1)) f3 N2 rfl
  rw [ee]
  refine ⟨by omega, fun p4 f4 => ⟨_, al, by omega, by omega, ?_⟩⟩
  have s13 := s12.trans s3
  obtain ⟨H4, ee, s4, g4, N4⟩ := alloc (o := HO.lst [V.int 0]) f4 N3 rfl
  rw [ee]
  have s14 := s13.trans s4
  refine ⟨by show 1 * _ <= sizeLine; omega, fun p5 f5 => ?_⟩
  obtain ⟨H5, ee, s5, g5, N5⟩ := alloc (o := HO.lst (vd ((b.ws.length : Nat) : Int).toNat [V.int 0]).flatten) f5 N4 rfl
  rw [ee]
  have s15 := s14.trans s5
  refine ⟨_, _, sqa (s15 _ _ La.q), rfl, _, .inl ⟨SqL.of (s15 _ _ La.w), fun p6 f6 => ⟨by omega, fun p7 f7 => ⟨by omega, fun p8 f8 => ?_⟩⟩⟩⟩
  obtain ⟨H6, ee, s6, g6, N6⟩ := alloc (o := HO.tup (b.ws.map V.int)) f6 N5 rfl
  rw [ee] at f7 f8 |-
  obtain ⟨H7, ee, s7, g7, N7⟩ := alloc (o := HO.lst []) f7 N6 rfl
  rw [ee] at f8 |-
  refine ⟨_, al, by show 1 * _ <= sizeLine; omega, ?_⟩
  obtain ⟨H8, ee, s8, g8, N8⟩ := alloc (o := HO.lst [V.int 1]) f8 N7 rfl
  rw [ee]
  intro p9 f9
  obtain ⟨H9, ee, s9, g9, N9⟩ := alloc (o := HO.lst (vd (YT 61) [V.int 1]).flatten) f9 N8 rfl
  rw [ee]
  refine ⟨by omega, fun so fso => ?_⟩
  obtain ⟨Hf, ee, sf, gf, Nf⟩ := alloc (o := HO.lst [V.ref p2, V.ref p3, V.ref p5, V.ref p6, V.non, V.ref p7, V.ref p9]) fso N9 rfl
  rw [ee]
  have z8 := s8.trans s9
  have z7 := s7.trans z8
  have z6 := s6.trans z7
  have z5 := s5.trans z6
  have z4 := s4.trans z5
  have z3 := s3.trans z4
  have g6f := z7 _ _ g6
  have hB : ∀ v ∈ [V.ref p2, V.ref p3, V.ref p5, V.ref p6, V.non, V.ref p7, V.ref p9], BadS H9 b v := ?_
  ·have hF : ∀ v ∈ [V.ref p2, V.ref p3, V.ref p5, V.ref p6, V.non, V.ref p7, V.ref p9], Fr H v := fa (vf (s1.free f2)) (fa (vf (s12.free f3)) (fa (vf (s14.free f5)) (fa (vf (s15.free f6)) (fa (fun _ z => nomatch z) (fa (vf ((s15.trans s6).free f7)) (fa (vf ((s15.trans (s6.trans (s7.trans s8))).free f9)) fn))))))
   exact c10 far _ i5 so _ Hf ew f0 ⟨b0, b1⟩ ((s12.trans z3).trans sf) Nf ((s12.trans z3).free fso) gf rfl fun v hv => ⟨(hB v hv).same sf, (hB v hv).ne fso, hF v hv⟩
  refine fa (.inl ⟨p2, _, rfl, z3 _ _ g2, ?_, by rw [Y3, mZ]; rfl, .inr ?_⟩) (fa (.inl ⟨p3, _, rfl, z4 _ _ g3, ?_, by rw [<- List.map_drop]; exact mZ _, .inr ?_⟩) (fa (.inl ⟨p5, _, rfl, z6 _ _ g5, ?_, ?_, .inl ?_⟩) (fa (.inr ⟨"tuple", by simp [aZ, g6f], rfl⟩) (fa (.inr ⟨_, rfl, rfl⟩) (fa (.inl ⟨p7, _, rfl, z8 _ _ g7, by decide, rfl, .inl rfl⟩) (fa (.inl ⟨p9, _, rfl, g9, by decide, by decide, .inl (by decide)⟩) fn))))))
  ·rw [uf, zl]; show b.ws.length + 1 <= 4000; omega
  ·rw [uf, zl, ZH]; omega
  ·rw [YE, zl]; omega
  ·rw [YE, zl]; omega
  ·rw [F_, zl, ZG]; omega
  ·rw [F_]; exact mZ _
  ·rw [F_]
   unfold wOk
   rw [qT, Cc, YH]
 obtain ⟨u7, hu7, c7⟩ := c7
 have c4 : ∃ u, PSs (cO (XE P w) P w K mg base ["_law_way", "_law_terms_here", "_law_cell", "_law_far", "_law_many", "_law_at", "_law_some", "_law_thing"] "_law_odd" (af bB) a.d0 cdv A outer s H E) (Zg 4 (aw bB)) u /\ ∀ (far : Int), 0 <= far -> 3 <= wy -> u { nx := fun _ H' => Q .non H', rt := Q } [some (.int wy), some (.ref q), some (.int c), some (.int far), none, none, none, none] H := by
  refine ⟨_, (ae (a9 (ba (bf K HU) (fv 0) ac (aW _)) (aj (aD (dW (FA.pa (aa ac (aa (cW (FA.pa (aa (ak cC (sy nE ac) (fv 3)) (aa (ak aY (aH (ao K) (fv 1) ac (fun _ _ => rfl)) ac) (aa dk (aa fS (aa (aq [51]) (aa (ak aY ac (fv 3)) (aa (ak cC (aH (ao K) (fv 1) ac (fun _ _ => rfl)) ac) ad)))))))) (ak aO (fv 2) ac) (fun _ _ => rfl)) (aa (aq [109, 111, 110, 116, 104]) ad))))))) aL)
   (ae (a9 (ba (bf K HU) (fv 0) ac (aW _)) (aj (aD (dW (FA.pa (aa ac (aa (cW (FA.pa (aa (ak aY ac (fv 3)) (aa (ak cC (sy nE ac) (fv 3)) (aa dk (aa fS (aa (aq [51]) (aa (ak cC (aH (ao K) (fv 1) ac (fun _ _ => rfl)) ac) (aa (ak aY (aH (ao K) (fv 1) ac (fun _ _ => rfl)) ac) ad)))))))) (ak aO (fv 2) ac) (fun _ _ => rfl)) (aa (aq [109, 111, 110, 116, 104]) ad))))))) aL)
   (ae (a9 (ba (bf K HU) (fv 0) ac (aW _)) (aj (aD (dW (FA.pa (aa ac (aa (cW (FA.pa (aa (ak aY (ak aY (ak dR ac ac) ac) (fv 3)) (aa (ak cC (ak cC (sy nE (ak dR ac ac)) ac) (fv 3)) (aa dk (aa fS (aa (aq [53]) ad)))))) (ak aO (fv 2) ac) (fun _ _ => rfl)) (aa (aq [97, 109, 111, 117, 110, 116]) ad))))))) aL)
   hu7))), fun far f0 ew => ?_⟩
  walk_at "rd"
  by_cases h3 : wy = 3
  ·subst h3
   refine itp rfl ⟨hN, _, _, hs, rfl, ?_⟩
   walk_at "rd"
   refine ⟨_, _, hs, rfl, ?_⟩
   walk_at "rd"
   refine ⟨by omega, fun p _ => mx (fun v => mns v (.int b.l) = false) hN (by omega) (by show _ < (7 : Int); omega) (fa (pkF (jQ (by omega))) (fa (pkF (jQ (by omega))) (fa (pkF (ur (by intro _ z; cases z) _).1) (fa (pkF (ur (by intro _ z; cases z) _).1) (fa (pkF (ur (by intro _ z; cases z) _).1) (fa (pkF (jQ (by omega))) (fa (pkF (jQ (by omega))) fn))))))) fun v H1 s1 N1 r kd fr => ⟨by omega, fun t ft => ?_⟩⟩
   have s2 := aJ (HO.tup [V.int 3, v, L2.T [109, 111, 110, 116, 104]]) ft
   exact k v t _ (s1.free ft) al ⟨a8 _ (by decide), a8 _ (by decide), a8 _ (by decide), fun _ => ⟨kd.same s2, r⟩, a8 _ (by decide), a8 _ (by decide), a8 _ (by decide)⟩ fr (s1.trans s2) (aS N1 rfl)
  refine itn h3 ?_
  by_cases h4 : wy = 4
  ·subst h4
   refine itp rfl ⟨hN, _, _, hs, rfl, ?_⟩
   walk_at "rd"
   refine ⟨_, _, hs, rfl, ?_⟩
   walk_at "rd"
   refine ⟨by omega, fun p _ => mx (fun v => mns (.int b.f) v = false) hN (by omega) (by show _ < (7 : Int); omega) (fa (pkF (jQ (by omega))) (fa (pkF (jQ (by omega))) (fa (pkF (ur (by intro _ z; cases z) _).2) (fa (pkF (ur (by intro _ z; cases z) _).2) (fa (pkF (ur (by intro _ z; cases z) _).2) (fa (pkF (jQ (by omega))) (fa (pkF (jQ (by omega))) fn))))))) fun v H1 s1 N1 r kd fr => ⟨by omega, fun t ft => ?_⟩⟩
   have s2 := aJ (HO.tup [V.int 4, v, L2.T [109, 111, 110, 116, 104]]) ft
   exact k v t _ (s1.free ft) al ⟨a8 _ (by decide), a8 _ (by decide), a8 _ (by decide), a8 _ (by decide), fun _ => ⟨kd.same s2, r⟩, a8 _ (by decide), a8 _ (by decide)⟩ fr (s1.trans s2) (aS N1 rfl)
  refine itn h4 ?_
  by_cases h5 : wy = 5
  ·subst h5
   have e15 : (10 : Int) ^ YT 15 = 1000000000000000 := by decide +kernel
   rw [e15]
   refine itp rfl ⟨hN, by decide, by decide, by omega, fun p _ => mx (fun v => amg v (-1000000000000000) 1000000000000000 = false) hN (by omega) (by show _ < (5 : Int); omega) (fa (pkF (wj (by omega))) (fa (pkF (wj (by omega))) (fa (pkF rfl) (fa (pkF rfl) (fa (pkF rfl) fn))))) fun v H1 s1 N1 r kd fr => ⟨by omega, fun t ft => ?_⟩⟩
   have s2 := aJ (HO.tup [V.int 5, v, L2.T [97, 109, 111, 117, 110, 116]]) ft
   exact k v t _ (s1.free ft) al ⟨a8 _ (by decide), a8 _ (by decide), a8 _ (by decide), a8 _ (by decide), a8 _ (by decide), fun _ => ⟨kd.same s2, r⟩, a8 _ (by decide)⟩ fr (s1.trans s2) (aS N1 rfl)
  exact itn h5 (c7 far f0 (by omega))
 obtain ⟨u4, hu4, c4⟩ := c4
 refine ⟨_, (ae (aE (i := 3) ND rfl (Or.inl rfl) (ak aO (ak aR (fv 2) ac) (ak dR ac ac)))
  (ae (a9 (ba (bf K HU) (fv 0) ac (aW _)) (aj (aD (dW (FA.pa (aa ac (aa (cW (FA.pa (aa (aq []) (aa (ak Di (aq [97]) ac) (aa (ak aY (aH (ao K) (fv 1) ac (fun _ _ => rfl)) (aq [65])) (aa (aq [97, 32, 98]) (aa fS (aa ac (aa (bh (FA.pa (aa (aq [97]) ad))) ad)))))))) (ak aO (fv 2) ac) (fun _ _ => rfl)) (aa (aq [110, 97, 109, 101]) ad))))))) aL)
  (ae (a9 (ba (bf K HU) (fv 0) ac (aW _)) (aj (aD (dW (FA.pa (aa ac (aa (cW (FA.pa (aa (aq []) (aa (aq [58, 97]) (aa (aq [97, 58]) (aa (ak aY (aH (ao K) (fv 1) ac (fun _ _ => rfl)) (aq [58, 58, 98])) (aa (aq [97, 58, 66]) (aa (d5 K YZ PySem.F.slot_str_join PySem.F.type_str_join (rz K) (aq [58]) (FA.pa (aa (ak ww (bh (FA.pa (aa (aq [97]) ad))) ac) ad))) (aa fS (aa ac ad))))))))) (ak aO (fv 2) ac) (fun _ _ => rfl)) (aa (aq [112, 97, 116, 104]) ad))))))) aL)
  (ae (a9 (ba (bf K HU) (fv 0) ac (aW _)) (aj (aD (dW (FA.pa (aa ac (aa (cW (FA.pa (aa (aq []) (aa (aq [65, 66]) (aa (aq [65, 66, 67, 68]) (aa (aq [65, 66, 99]) (aa (aq [65, 32, 67]) (aa fS (aa ac ad)))))))) (ak aO (fv 2) ac) (fun _ _ => rfl)) (aa (aq [99, 117, 114, 114, 101, 110, 99, 121]) ad))))))) aL)
  hu4)))), ?_⟩
 walk_at "rd"
 have far0 : 0 <= c / 60 % 10 ^ YT 20 := Ys _ (by decide)
 refine ⟨by decide, by decide, ?_⟩
 by_cases h0 : wy = 0
 ·subst h0
  have h12 := j3 B.nn
  have nA : nm (b.nm ++ [65]) = false := by
   cases e : nm (b.nm ++ [65]) with
   | false => rfl
   | true => have := (j3 e).2.2 65 (by simp); omega
  refine itp rfl ⟨hN, by decide, _, _, hs, rfl, ?_⟩
  walk_at "rd"
  refine ⟨by show b.nm.length + 1 <= sizeLine; omega, by omega, fun p fp => ⟨aJ _ fp, by omega, fun p1 _ => mx (fun v => okV v /\ nameV v = false) hN (by omega) (by show _ < (7 : Int); omega) (fa (pkF ⟨fB (by decide), rfl⟩) (fa (pkF ⟨fB (by decide), by decide⟩) (fa (pkF ⟨fB ⟨fun c hc => ?_, by rw [uf, ZH]; omega⟩, nA⟩) (fa (pkF ⟨fB (by decide), by decide⟩) (fa (pkF ⟨(fun _ z => nomatch z), rfl⟩) (fa (pkF ⟨(fun _ z => nomatch z), rfl⟩) (fa ⟨⟨(fun _ z => nomatch z), rfl⟩, .inr ⟨p, _, rfl, fp, al, _, .inl rfl⟩⟩ fn))))))) fun v H1 s1 N1 r kd fr => ⟨by omega, fun t ft => ?_⟩⟩⟩
  ·rcases uO.mp hc with h | h
   ·have := h12.2.2 c h; omega
   ·rw [zY.mp h]; decide
  have s2 := aJ (HO.tup [V.int 0, v, L2.T [110, 97, 109, 101]]) ft
  exact k v t _ (s1.free ft) al ⟨fun _ => ⟨r.1, kd.same s2, r.2⟩, a8 _ (by decide), a8 _ (by decide), a8 _ (by decide), a8 _ (by decide), a8 _ (by decide), a8 _ (by decide)⟩ fr (s1.trans s2) (aS N1 rfl)
 refine itn h0 ?_
 by_cases h1 : wy = 1
 ·subst h1
  have pl := B.pl
  refine itp rfl ⟨hN, _, _, hs, rfl, ?_⟩
  walk_at "rd"
  refine ⟨by show b.pt.length + 3 <= sizeLine; omega, by omega, fun p fp => ⟨_, al, by show 1 * 7 <= sizeLine; omega, fun p1 fp1 => ⟨vd 7 [97], SqL.of al, by unfold Az; decide, (aJ _ fp).trans (aJ _ fp1), by omega, fun p2 _ => mx (fun v => okP v /\ je v = false) hN (by omega) (by show _ < (8 : Int); omega) (fa (pkF ⟨nJ (by decide), by decide⟩) (fa (pkF ⟨nJ (by decide), by decide⟩) (fa (pkF ⟨nJ (by decide), by decide⟩) (fa (pkF ⟨nJ ⟨fun c hc => ?_, by rw [uf]; show b.pt.length + 3 <= 199; omega⟩, El b.pt⟩) (fa (pkF ⟨nJ (by decide), by decide⟩) (fa (pkF ⟨nJ (by decide), by decide⟩) (fa (pkF ⟨(fun _ z => nomatch z), rfl⟩) (fa (pkF ⟨(fun _ z => nomatch z), rfl⟩) fn)))))))) fun v H1 s1 N1 r kd fr => ⟨by omega, fun t ft => ?_⟩⟩⟩⟩
  ·rcases uO.mp hc with h | h
   ·exact pl.1 c h
   ·have : ∀ c ∈ [58, 58, 98], c < 128 := by decide
    exact this c h
  have s2 := aJ (HO.tup [V.int 1, v, L2.T [112, 97, 116, 104]]) ft
  exact k v t _ (s1.free ft) al ⟨a8 _ (by decide), fun _ => ⟨r.1, kd.same s2, r.2⟩, a8 _ (by decide), a8 _ (by decide), a8 _ (by decide), a8 _ (by decide), a8 _ (by decide)⟩ fr (s1.trans s2) (aS N1 rfl)
 refine itn h1 ?_
 by_cases h2 : wy = 2
 ·subst h2
  refine itp rfl ⟨hN, by omega, fun p _ => mx (fun v => okV v /\ sM v = false) hN (by omega) (by show _ < (7 : Int); omega) (fa (pkF ⟨fB (by decide), rfl⟩) (fa (pkF ⟨fB (by decide), by decide⟩) (fa (pkF ⟨fB (by decide), by decide⟩) (fa (pkF ⟨fB (by decide), by decide⟩) (fa (pkF ⟨fB (by decide), by decide⟩) (fa (pkF ⟨(fun _ z => nomatch z), rfl⟩) (fa (pkF ⟨(fun _ z => nomatch z), rfl⟩) fn))))))) fun v H1 s1 N1 r kd fr => ⟨by omega, fun t ft => ?_⟩⟩
  have s2 := aJ (HO.tup [V.int 2, v, L2.T [99, 117, 114, 114, 101, 110, 99, 121]]) ft
  exact k v t _ (s1.free ft) al ⟨a8 _ (by decide), a8 _ (by decide), fun _ => ⟨r.1, kd.same s2, r.2⟩, a8 _ (by decide), a8 _ (by decide), a8 _ (by decide), a8 _ (by decide)⟩ fr (s1.trans s2) (aS N1 rfl)
 exact itn h2 (c4 _ far0 (by omega))
open K5 K17
def tmO (b : Bd) (wq : Addr) : Tm := ⟨L2.T b.nm, L2.T b.pt, L2.T b.cu, .int b.f, .int b.l, .int b.t, .ref wq⟩
def Tm.set (x : Tm) (i : Int) (v : V) : Tm := if i = 0 then { x with n := v } else if i = 1 then { x with p := v } else if i = 2 then { x with c := v } else if i = 3 then { x with f := v } else if i = 4 then { x with l := v } else if i = 5 then { x with t := v } else { x with w := v }
theorem Tm.vs_set {x : Tm} {i : Int} {v : V} (h : 0 <= i /\ i <= 6) : x.vs.set i.toNat v = (x.set i v).vs := by
 obtain rfl | rfl | rfl | rfl | rfl | rfl | rfl : i = 0 \/ i = 1 \/ i = 2 \/ i = 3 \/ i = 4 \/ i = 5 \/ i = 6 := by omega
 all_goals rfl
structure Spl (H : Hp) (b : Bd) (wq : Addr) (w1 : Int) (x : Tm) : Prop where
 n : (x.n = L2.T b.nm /\ w1 ≠ 0) \/ (Odd H b 0 x.n /\ w1 <= 0)
 p : (x.p = L2.T b.pt /\ w1 ≠ 1) \/ (Odd H b 1 x.p /\ w1 <= 1)
 c : (x.c = L2.T b.cu /\ w1 ≠ 2) \/ (Odd H b 2 x.c /\ w1 <= 2)
 f : (x.f = .int b.f /\ w1 ≠ 3) \/ (Odd H b 3 x.f /\ w1 <= 3)
 l : (x.l = .int b.l /\ w1 ≠ 4) \/ (Odd H b 4 x.l /\ w1 <= 4)
 t : (x.t = .int b.t /\ w1 ≠ 5) \/ (Odd H b 5 x.t /\ w1 <= 5)
 w : (x.w = .ref wq /\ w1 ≠ 6) \/ (Odd H b 6 x.w /\ w1 <= 6)
 fl : w1 = 3 -> x.l = .int b.l
theorem Spl.one {H : Hp} {b : Bd} {wq : Addr} {w1 : Int} {v : V} (h : 0 <= w1 /\ w1 <= 6) (o : Odd H b w1 v) : Spl H b wq w1 ((tmO b wq).set w1 v) := by
 obtain rfl | rfl | rfl | rfl | rfl | rfl | rfl : w1 = 0 \/ w1 = 1 \/ w1 = 2 \/ w1 = 3 \/ w1 = 4 \/ w1 = 5 \/ w1 = 6 := by omega
 all_goals exact ⟨by first | exact .inr ⟨o, by decide⟩ | exact .inl ⟨rfl, by decide⟩, by first | exact .inr ⟨o, by decide⟩ | exact .inl ⟨rfl, by decide⟩, by first | exact .inr ⟨o, by decide⟩ | exact .inl ⟨rfl, by decide⟩, by first | exact .inr ⟨o, by decide⟩ | exact .inl ⟨rfl, by decide⟩, by first | exact .inr ⟨o, by decide⟩ | exact .inl ⟨rfl, by decide⟩, by first | exact .inr ⟨o, by decide⟩ | exact .inl ⟨rfl, by decide⟩, by first | exact .inr ⟨o, by decide⟩ | exact .inl ⟨rfl, by decide⟩, by first | exact fun _ => rfl | exact fun z => absurd z (by decide)⟩
theorem Spl.two {H : Hp} {b : Bd} {wq : Addr} {w1 w2 : Int} {v : V} {x : Tm} (s : Spl H b wq w1 x) (h : 0 <= w1 /\ w1 <= w2 /\ w2 <= 6) (n : ¬ (w1 = 3 /\ w2 = 4)) (o : Odd H b w2 v) : Spl H b wq w1 (x.set w2 v) := by
 obtain ⟨s0, s1, s2, s3, s4, s5, s6, s7⟩ := s
 obtain rfl | rfl | rfl | rfl | rfl | rfl | rfl : w2 = 0 \/ w2 = 1 \/ w2 = 2 \/ w2 = 3 \/ w2 = 4 \/ w2 = 5 \/ w2 = 6 := by omega
 ·exact ⟨.inr ⟨o, h.2.1⟩, s1, s2, s3, s4, s5, s6, s7⟩
 ·exact ⟨s0, .inr ⟨o, h.2.1⟩, s2, s3, s4, s5, s6, s7⟩
 ·exact ⟨s0, s1, .inr ⟨o, h.2.1⟩, s3, s4, s5, s6, s7⟩
 ·exact ⟨s0, s1, s2, .inr ⟨o, h.2.1⟩, s4, s5, s6, s7⟩
 ·exact ⟨s0, s1, s2, s3, .inr ⟨o, h.2.1⟩, s5, s6, fun z => absurd ⟨z, rfl⟩ n⟩
 ·exact ⟨s0, s1, s2, s3, s4, .inr ⟨o, h.2.1⟩, s6, s7⟩
 ·exact ⟨s0, s1, s2, s3, s4, s5, .inr ⟨o, h.2.1⟩, s7⟩
structure SpX (H : Hp) (b : Bd) (x : Tm) (i : Nat) : Prop where
 ok : TOk H x
 fl : ∀ xs, wlV H x.w = some xs -> xs.all cj = true
 du : ∀ bs, duB H bs x = i
 i5 : i < 6
 sh : i = 5 -> x = { tmO b 0 with w := x.w } /\ BadS H b x.w
theorem BadS.wt {H : Hp} {b : Bd} {v : V} (h : BadS H b v) : WtX H v /\ (∀ xs, wlV H v = some xs -> xs.all cj = true) /\ ∀ x : Tm, x.f = .int b.f -> x.l = .int b.l -> x.w = v -> shV H x = false := by
 rcases h with ⟨q, xs, rfl, h, l, f, o⟩ | ⟨t, k, i⟩
 ·refine ⟨.inl ⟨q, xs, rfl, h, l, fun y hy => vQ (u9.mp f y hy)⟩, fun ys e => ?_, fun x e1 e2 e3 => ?_⟩
  ·rw [jH h] at e; cases e; exact f
  ·unfold shV
   rw [e3, jH h, e1, e2]
   show (wOk xs && decide ((xs.length : Int) = b.l - b.f + 1)) = false
   rcases o with o | o
   ·rw [o]; rfl
   ·rw [decide_eq_false o, YH]
 ·have e : wlV H v = none := by
   cases h : wlV H v with
   | none => rfl
   | some xs =>
    obtain ⟨q, rfl, hq⟩ := BP h
    have : aZ H (.ref q) = some "list" := by simp [aZ, hq]
    rw [this] at k; cases k; cases i
  refine ⟨.inr ⟨t, k, i⟩, (fun ys h => by rw [e] at h; cases h), fun x _ _ e3 => ?_⟩
  unfold shV
  rw [e3, e]
theorem BQ {l : List Nat} (h : nm l = true) : ok l := by
 obtain ⟨h1, h2, h3⟩ := j3 h
 exact ⟨fun c hc => by have := h3 c hc; omega, by omega⟩
theorem yw {l : List Nat} (h : cur l = true) : ok l := by
 unfold cur lie at h
 simp only [ZO, decide_eq_true_eq, u9] at h
 exact ⟨fun c hc => by have := h.2 c hc; omega, by omega⟩
theorem Aj {nms : List (List Nat)} {b : Bd} (B : GOk nms b) : mns (.int b.f) (.int b.l) = true := by
 have := B.fl
 show ((decide (0 <= b.f) && decide (b.f <= 4799)) && (decide (0 <= b.l) && decide (b.l <= 4799)) && (decide (b.f <= b.l) && decide (b.l < b.f + 60))) = true
 simp only [ZO, decide_eq_true_eq]
 omega
theorem zO {nms : List (List Nat)} {b : Bd} (B : GOk nms b) : amg (.int b.t) (-1000000000000000) 1000000000000000 = true := by
 show (decide _ && decide _) = true
 rw [decide_eq_true B.tt.1, decide_eq_true B.tt.2]; rfl
theorem om {nms : List (List Nat)} {b : Bd} (B : GOk nms b) {H : Hp} {wq : Addr} (h : H wq = some (.lst (b.ws.map V.int))) : WtX H (.ref wq) /\ ∀ xs, wlV H (.ref wq) = some xs -> xs.all cj = true := by
 have := B.ws
 refine ⟨.inl ⟨wq, _, rfl, h, by rw [zl]; omega, fun y hy => ?_⟩, fun xs e => ?_⟩
 ·obtain ⟨i, _, rfl⟩ := Zp.mp hy
  exact ⟨_, rfl⟩
 ·rw [jH h] at e; cases e; exact mZ _
theorem Spl.x {H : Hp} {nms : List (List Nat)} {b : Bd} {wq : Addr} {w1 : Int} {x : Tm} (s : Spl H b wq w1 x) (h : 0 <= w1 /\ w1 <= 6) (B : GOk nms b) (hw : H wq = some (.lst (b.ws.map V.int))) : SpX H b x (wyI w1) := by
 obtain ⟨n, p, c, f, l, t, w⟩ := x
 obtain ⟨s0, s1, s2, s3, s4, s5, s6, s7⟩ := s
 dsimp only at s0 s1 s2 s3 s4 s5 s6 s7
 have gw := om B hw
 have ok : TOk H ⟨n, p, c, f, l, t, w⟩ := by
  refine ⟨?_, ?_, ?_, ?_, ?_, ?_, ?_⟩ <;> dsimp only
  ·rcases s0 with ⟨rfl, _⟩ | ⟨o, _⟩
   ·exact ⟨fB (BQ B.nn), _, rfl⟩
   ·have o := o.1 rfl; exact ⟨o.1, o.2.1⟩
  ·rcases s1 with ⟨rfl, _⟩ | ⟨o, _⟩
   ·exact ⟨nJ ⟨B.pl.1, by have := B.pl.2; omega⟩, _, rfl⟩
   ·have o := o.2.1 rfl; exact ⟨o.1, o.2.1⟩
  ·rcases s2 with ⟨rfl, _⟩ | ⟨o, _⟩
   ·exact ⟨fB (yw B.cu), _, rfl⟩
   ·have o := o.2.2.1 rfl; exact ⟨o.1, o.2.1⟩
  ·rcases s3 with ⟨rfl, _⟩ | ⟨o, _⟩
   ·exact ⟨_, rfl⟩
   ·exact (o.2.2.2.1 rfl).1
  ·rcases s4 with ⟨rfl, _⟩ | ⟨o, _⟩
   ·exact ⟨_, rfl⟩
   ·exact (o.2.2.2.2.1 rfl).1
  ·rcases s5 with ⟨rfl, _⟩ | ⟨o, _⟩
   ·exact ⟨_, rfl⟩
   ·exact (o.2.2.2.2.2.1 rfl).1
  ·rcases s6 with ⟨rfl, _⟩ | ⟨o, _⟩
   ·exact gw.1
   ·exact (o.2.2.2.2.2.2 rfl).wt.1
 have fl : ∀ xs, wlV H w = some xs -> xs.all cj = true := by
  rcases s6 with ⟨rfl, _⟩ | ⟨o, _⟩
  ·exact gw.2
  ·exact (o.2.2.2.2.2.2 rfl).wt.2.1
 have a0 : nameV (L2.T b.nm) = true := B.nn
 have a1 : je (L2.T b.pt) = true := B.pt
 have a2 : sM (L2.T b.cu) = true := B.cu
 have a3 := Aj B
 have a4 := zO B
 have g0 : w1 ≠ 0 -> n = L2.T b.nm := fun z => by rcases s0 with ⟨e, _⟩ | ⟨_, e⟩; exact e; omega
 have g1 : 1 < w1 -> p = L2.T b.pt := fun z => by rcases s1 with ⟨e, _⟩ | ⟨_, e⟩; exact e; omega
 have g2 : 2 < w1 -> c = L2.T b.cu := fun z => by rcases s2 with ⟨e, _⟩ | ⟨_, e⟩; exact e; omega
 have g3 : 3 < w1 -> f = .int b.f := fun z => by rcases s3 with ⟨e, _⟩ | ⟨_, e⟩; exact e; omega
 have g4 : 4 < w1 -> l = .int b.l := fun z => by rcases s4 with ⟨e, _⟩ | ⟨_, e⟩; exact e; omega
 have g5 : 5 < w1 -> t = .int b.t := fun z => by rcases s5 with ⟨e, _⟩ | ⟨_, e⟩; exact e; omega
 obtain rfl | rfl | rfl | rfl | rfl | rfl | rfl : w1 = 0 \/ w1 = 1 \/ w1 = 2 \/ w1 = 3 \/ w1 = 4 \/ w1 = 5 \/ w1 = 6 := by omega
 ·have o : nameV n = false := by rcases s0 with ⟨_, e⟩ | ⟨o, _⟩; exact absurd rfl e; exact (o.1 rfl).2.2
  exact ⟨ok, fl, fun bs => by unfold duB; dsimp only; rw [o]; rfl, by decide, fun z => absurd z (by decide)⟩
 ·have o : je p = false := by rcases s1 with ⟨_, e⟩ | ⟨o, _⟩; exact absurd rfl e; exact (o.2.1 rfl).2.2
  exact ⟨ok, fl, fun bs => by unfold duB; dsimp only; rw [g0 (by decide), a0, o]; rfl, by decide, fun z => absurd z (by decide)⟩
 ·have o : sM c = false := by rcases s2 with ⟨_, e⟩ | ⟨o, _⟩; exact absurd rfl e; exact (o.2.2.1 rfl).2.2
  exact ⟨ok, fl, fun bs => by unfold duB; dsimp only; rw [g0 (by decide), a0, g1 (by decide), a1, o]; rfl, by decide, fun z => absurd z (by decide)⟩
 ·have o : mns f l = false := by
   rw [s7 rfl]
   rcases s3 with ⟨_, e⟩ | ⟨o, _⟩; exact absurd rfl e; exact (o.2.2.2.1 rfl).2
  exact ⟨ok, fl, fun bs => by unfold duB; dsimp only; rw [g0 (by decide), a0, g1 (by decide), a1, g2 (by decide), a2, o]; rfl, by decide, fun z => absurd z (by decide)⟩
 ·have o : mns f l = false := by
   rw [g3 (by decide)]
   rcases s4 with ⟨_, e⟩ | ⟨o, _⟩; exact absurd rfl e; exact (o.2.2.2.2.1 rfl).2
  exact ⟨ok, fl, fun bs => by unfold duB; dsimp only; rw [g0 (by decide), a0, g1 (by decide), a1, g2 (by decide), a2, o]; rfl, by decide, fun z => absurd z (by decide)⟩
 ·have o : amg t (-1000000000000000) 1000000000000000 = false := by rcases s5 with ⟨_, e⟩ | ⟨o, _⟩; exact absurd rfl e; exact (o.2.2.2.2.2.1 rfl).2
  exact ⟨ok, fl, fun bs => by unfold duB; dsimp only; rw [g0 (by decide), a0, g1 (by decide), a1, g2 (by decide), a2, g3 (by decide), g4 (by decide), a3, o]; rfl, by decide, fun z => absurd z (by decide)⟩
 ·have o : BadS H b w := by rcases s6 with ⟨_, e⟩ | ⟨o, _⟩; exact absurd rfl e; exact o.2.2.2.2.2.2 rfl
  cases g0 (by decide); cases g1 (by decide); cases g2 (by decide); cases g3 (by decide); cases g4 (by decide); cases g5 (by decide)
  exact ⟨ok, fl, fun bs => by unfold duB; dsimp only; rw [a0, a1, a2, a3, a4, o.wt.2.2 _ rfl rfl rfl]; rfl, by decide, fun _ => ⟨rfl, o⟩⟩
theorem Ca {H : Hp} {q : Addr} {xs ys : List V} {v : V} {t : String} (hq : H q = some (.lst xs)) (h : aZ H v = some t) : aZ (upd H q (.lst ys)) v = some t := by
 cases v with
 | ref p =>
  by_cases e : p = q
  ·subst e
   have e1 : aZ H (.ref p) = some "list" := by simp [aZ, hq]
   rw [e1] at h; cases h
   simp [aZ, al]
  ·have e2 : upd H q (.lst ys) p = H p := ay e
   unfold aZ at h |-
   simp only [e2]; exact h
 | _ => exact h
theorem Kd.lst {H : Hp} {q : Addr} {xs ys : List V} {v : V} (hq : H q = some (.lst xs)) (h : Kd H v) : Kd (upd H q (.lst ys)) v := by
 obtain ⟨t, e⟩ := h; exact ⟨t, Ca hq e⟩
theorem Odd.lst {H : Hp} {b : Bd} {i : Int} {v : V} {q : Addr} {xs ys : List V} (hq : H q = some (.lst xs)) (n : v ≠ .ref q) (o : Odd H b i v) : Odd (upd H q (.lst ys)) b i v := by
 obtain ⟨o0, o1, o2, o3, o4, o5, o6⟩ := o
 exact ⟨fun e => ⟨(o0 e).1, (o0 e).2.1.lst hq, (o0 e).2.2⟩, fun e => ⟨(o1 e).1, (o1 e).2.1.lst hq, (o1 e).2.2⟩, fun e => ⟨(o2 e).1, (o2 e).2.1.lst hq, (o2 e).2.2⟩, fun e => ⟨(o3 e).1.lst hq, (o3 e).2⟩, fun e => ⟨(o4 e).1.lst hq, (o4 e).2⟩, fun e => ⟨(o5 e).1.lst hq, (o5 e).2⟩, fun e => (o6 e).put n⟩
theorem Odd.same {H H' : Hp} {b : Bd} {i : Int} {v : V} (o : Odd H b i v) (s : Same H H') : Odd H' b i v := by
 obtain ⟨o0, o1, o2, o3, o4, o5, o6⟩ := o
 exact ⟨fun e => ⟨(o0 e).1, (o0 e).2.1.same s, (o0 e).2.2⟩, fun e => ⟨(o1 e).1, (o1 e).2.1.same s, (o1 e).2.2⟩, fun e => ⟨(o2 e).1, (o2 e).2.1.same s, (o2 e).2.2⟩, fun e => ⟨(o3 e).1.same s, (o3 e).2⟩, fun e => ⟨(o4 e).1.same s, (o4 e).2⟩, fun e => ⟨(o5 e).1.same s, (o5 e).2⟩, fun e => (o6 e).same s⟩
theorem Spl.same {H H' : Hp} {b : Bd} {wq : Addr} {w1 : Int} {x : Tm} (j : Spl H b wq w1 x) (s : Same H H') : Spl H' b wq w1 x :=
 ⟨j.n.imp id fun h => ⟨h.1.same s, h.2⟩, j.p.imp id fun h => ⟨h.1.same s, h.2⟩, j.c.imp id fun h => ⟨h.1.same s, h.2⟩, j.f.imp id fun h => ⟨h.1.same s, h.2⟩, j.l.imp id fun h => ⟨h.1.same s, h.2⟩, j.t.imp id fun h => ⟨h.1.same s, h.2⟩, j.w.imp id fun h => ⟨h.1.same s, h.2⟩, j.fl⟩
theorem Spl.lst {H : Hp} {b : Bd} {wq q : Addr} {w1 : Int} {x : Tm} {xs ys : List V} (j : Spl H b wq w1 x) (hq : H q = some (.lst xs)) (n : ∀ v ∈ x.vs, v ≠ .ref q) : Spl (upd H q (.lst ys)) b wq w1 x := by
 unfold Tm.vs at n
 simp only [List.forall_mem_cons, uD, false_imp_iff, implies_true, and_true] at n
 obtain ⟨n0, n1, n2, n3, n4, n5, n6⟩ := n
 exact ⟨j.n.imp id fun h => ⟨h.1.lst hq n0, h.2⟩, j.p.imp id fun h => ⟨h.1.lst hq n1, h.2⟩, j.c.imp id fun h => ⟨h.1.lst hq n2, h.2⟩, j.f.imp id fun h => ⟨h.1.lst hq n3, h.2⟩, j.l.imp id fun h => ⟨h.1.lst hq n4, h.2⟩, j.t.imp id fun h => ⟨h.1.lst hq n5, h.2⟩, j.w.imp id fun h => ⟨h.1.lst hq n6, h.2⟩, j.fl⟩
def Wys (ls : List Int) : Prop := (∃ w, ls = [w] /\ 0 <= w /\ w <= 6) \/ (∃ w1 w2, ls = [w1, w2] /\ 0 <= w1 /\ w1 <= w2 /\ w2 <= 6 /\ ¬ (w1 = 3 /\ w2 = 4))
theorem Wys.at_ {ls : List Int} (h : Wys ls) {i : Nat} {x : Int} (e : ls[i]? = some x) : (0 <= x /\ x <= 6) /\ (i = 0 -> ls.getD 0 0 = x) /\ (0 < i -> 0 <= ls.getD 0 0 /\ ls.getD 0 0 <= x /\ ¬ (ls.getD 0 0 = 3 /\ x = 4)) /\ i < 2 := by
 rcases h with ⟨w, rfl, a, b⟩ | ⟨w1, w2, rfl, a, b, c, d⟩
 ·cases i with
  | zero => cases e; exact ⟨⟨a, b⟩, fun _ => rfl, fun z => absurd z (by decide), by decide⟩
  | succ i => cases e
 ·cases i with
  | zero => cases e; exact ⟨⟨a, by omega⟩, fun _ => rfl, fun z => absurd z (by decide), by decide⟩
  | succ i =>
   cases i with
   | zero => cases e; exact ⟨⟨by omega, c⟩, fun z => absurd z (by decide), fun _ => ⟨a, b, d⟩, by decide⟩
   | succ i => cases e
theorem DE {H : Hp} {p q : Addr} {i j m n : Int} (hx : SqL K H p [.int i, .int j]) (hy : SqL K H q [.int m, .int n]) : EqR K H p q (decide (i = m) && decide (j = n)) := by
 have h := EqR.lst (K := K) (H := H) (e := fun k => if k = 0 then eqV (.int i) (.int m) else eqV (.int j) (.int n)) hx hy rfl fun k x y gx gy => by
  cases k with
  | zero => cases gx; cases gy; exact .flat rfl rfl
  | succ k =>
   cases k with
   | zero => cases gx; cases gy; exact .flat rfl rfl
   | succ k => cases gx
 have e : (uF [V.int i, V.int j].length).all (fun k => if k = 0 then eqV (.int i) (.int m) else eqV (.int j) (.int n)) = (decide (i = m) && decide (j = n)) := by
  show (_ && (_ && true)) = _
  simp [eqV]
  rfl
 rw [e] at h; exact h
def sp_uy : Sp := sp2 fun x y H Q _ => NoT H /\ asR x fun q => asI y fun c => ∃ b wq nms, LAt H q wq b /\ GOk nms b /\ (∀ H', Same H H' -> NoT H' -> Q (L2.T []) H') /\
 ∀ x i H', Keep [q] H H' -> NoT H' -> H' q = some (.lst x.vs) -> SpX H' b x i -> Q (L2.T (WDS.getD i [])) H'
theorem rn (T : Txt K mg a) : bz P w K mg base (XE P w) 3 a.eu a.kg ["_law_terms_here", "_law_cell"] sp_uy := by
 refine T.gJ.okX jF (fun vs H Q E h => sp2.len h) (fun cdv A outer s H vs Q E hr h => ?_)
 obtain ⟨x0, x1, rfl, h⟩ := sp2.inv h
 try dsimp only [sp_uy, sp2] at h
 have ND := jF.nd
 have HU := bA hr
 obtain ⟨hN, h1⟩ := h
 obtain ⟨q, rfl, h2⟩ := asR.inv h1
 obtain ⟨c, rfl, b, wq, nms, La, B, k0, k1⟩ := asI.inv h2
 have sz := szl
 have nqw : wq ≠ q := fun z => by
  have e := La.w
  rw [z, La.q] at e
  injection e with e; injection e with e
  obtain ⟨i, _, ei⟩ := Zp.mp (e ▸ Zt : L2.T b.nm ∈ b.ws.map V.int)
  cases ei
 have G__law_odd := @wZ P w K mg base a T
 have b__law_odd := xi T.nC
 have G__law_mixed := @dh P w K mg base a T
 have b__law_mixed := dj T.aX
 have c3 : ∃ u, PSs (cO (XE P w) P w K mg base ["_law_terms_here", "_law_cell", "_law_ways", "_law_words", "_law_old", "_law_way", "_law_at", "_law_thing", "_law_word_here"] "_law_spoilt" (af bE) a.eu cdv A outer s H E) (Zg 3 (aw bE)) u /\ ∀ wp (ls : List Int) H1, Same H H1 -> NoT H1 -> H wp = none -> H1 wp = some (.lst (ls.map V.int)) -> Wys ls -> u { nx := fun _ H' => Q .non H', rt := Q } [some (.ref q), some (.int c), some (.ref wp), none, none, none, none, none, none] H1 := by
  refine ⟨_, (ae (aE (i := 3) ND rfl (Or.inl rfl) (bh (FA.pa ad)))
   (ae (aE (i := 4) ND rfl (Or.inl rfl) (dB (oV K) rfl T.gL d_ (FA.pa (aa (fv 0) ad))))
   (ae (eJ (by passes_own) rfl (dG K (fv 2)) (a_ (i := 5) ND rfl (Or.inl rfl)) (ae (jZ (au G__law_odd (hr.mono (by decide)) rfl T.yy T.nC.kp b__law_odd .nil aQ (FA.pa (aa (fv 5) (aa (fv 4) (aa (ak aR (au G__law_mixed (hr.mono (by decide)) rfl T.bi T.aX.kp b__law_mixed .nil aQ (FA.pa (aa (fv 1) (aa (fv 5) ad)))) ac) ad))))) (oZ K (n := 3) rfl (cp (a_ (i := 6) ND rfl (Or.inl rfl)) (cp (a_ (i := 7) ND rfl (Or.inl rfl)) (cp (a_ (i := 8) ND rfl (Or.inl rfl)) k_)))))
   (ae (jZ (fv 7) (pF (fv 0) (fv 6) ic))
   (aj (bZ (d5 K nO Zd Ze dy (fv 3) (FA.pa (aa (fv 8) ad))))))))
   (aj (aD (aH (ao K) (fv 3) ac (fun _ _ => rfl))))))), fun wp ls H1 s1 N1 fwp gwp hw => ?_⟩
  walk_at "rd"
  refine ⟨by omega, fun wo fwo => ?_⟩
  obtain ⟨H2, ee, s2, g2, N2⟩ := alloc (o := HO.lst []) fwo N1 rfl
  rw [ee]
  have s12 := s1.trans s2
  refine ⟨_, .inl (SqL.of (s12 _ _ La.q)), fun od fod => rR ?_⟩
  obtain ⟨H3, ee, s3, g3, N3⟩ := alloc (o := HO.lst [L2.T b.nm, L2.T b.pt, L2.T b.cu, V.int b.f, V.int b.l, V.int b.t, V.ref wq]) fod N2 rfl
  rw [ee]
  have s13 := s12.trans s3
  have g33 := s3 _ _ g2
  have gwp3 := (s2.trans s3) _ _ gwp
  have nqp : wp ≠ q := Ne.symm (ar La.q fwp)
  have nqo : wo ≠ q := Ne.symm (ar (s1 _ _ La.q) fwo)
  have nqd : od ≠ q := Ne.symm (ar (s12 _ _ La.q) fod)
  have npo : wp ≠ wo := ar gwp fwo
  have ndo : od ≠ wo := Ne.symm (ar g2 fod)
  have nwo : wq ≠ wo := ar (s1 _ _ La.w) fwo
  have fo0 : H wo = none := s1.free fwo
  walk_at "rd"
  refine nX (SqL.of gwp3) (rJ (xs := ls.map V.int) (fun i σ' G => Keep [q] H G /\ NoT G /\ G wp = some (.lst (ls.map V.int)) /\ G od = some (.lst (tmO b wq).vs) /\ ∃ x ws x5 x6 x7 x8, G q = some (.lst x.vs) /\ G wo = some (.lst ws) /\ ws.length = i /\ (i = 0 -> x = tmO b wq) /\ (0 < i -> Spl G b wq (ls.getD 0 0) x /\ ws[0]? = some (L2.T (WDS.getD (wyI (ls.getD 0 0)) []))) /\ (∀ v ∈ x.vs, v ≠ .ref q /\ v ≠ .ref wo) /\ σ' = [some (.ref q), some (.int c), some (.ref wp), some (.ref wo), some (.ref od), x5, x6, x7, x8]) ⟨Keep.same s13, N3, gwp3, g3, tmO b wq, [], none, none, none, none, s13 _ _ La.q, g33, rfl, fun _ => rfl, fun z => absurd z (by decide), ?_, rfl⟩ (fun i σ' G _ h => SqL.of h.2.2.1) ?_ ?_)
  ·unfold Tm.vs tmO
   simp only [List.forall_mem_cons, uD, false_imp_iff, implies_true, and_true]
   refine ⟨⟨?_, ?_⟩, ⟨?_, ?_⟩, ⟨?_, ?_⟩, ⟨?_, ?_⟩, ⟨?_, ?_⟩, ⟨?_, ?_⟩, ?_, ?_⟩
   all_goals first | (intro z; cases z; done) | (intro z; injection z with z; first | exact nqw z | exact nwo z)
  ·rintro i v σ' G hvi ⟨kG, nG, gp, gd, x, ws, x5, x6, x7, x8, gq, go, lw, hx0, hx1, hn, rfl⟩
   rw [List.getElem?_map] at hvi
   obtain ⟨wi, ew, rfl⟩ := ZW.mp hvi
   obtain ⟨w6, wz, wp1, i2⟩ := hw.at_ ew
   have gw : G wq = some (.lst (b.ws.map V.int)) := kG _ _ La.w (by simpa using nqw)
   walk_at "rd"
   refine ⟨⟨by omega, by omega⟩, fun i1 _ _ => ⟨nG, b, wq, nms, w6, ⟨gd, gw⟩, B, fun v t H' ft gt od' fr s' n' => ⟨t, _, rfl, SqT.of gt, rfl, _, _, rfl, _, _, rfl, _, _, rfl, rfl, ?_⟩⟩⟩
   have vq : v ≠ .ref q := fun z => by have := fr q z; rw [gq] at this; cases this
   have vo : v ≠ .ref wo := fun z => by have := fr wo z; rw [go] at this; cases this
   have gq' := s' _ _ gq
   have go' := s' _ _ go
   refine ⟨q, _, wi, wi.toNat, rfl, rfl, gq', ?_, ?_⟩
   ·obtain ⟨j, ej⟩ := fZ w6.1
    rw [ej, Zi]
    exact xI (by show j < 7; omega)
   rw [Tm.vs_set w6]
   have hn2 : ∀ y ∈ (x.set wi v).vs, y ≠ .ref q /\ y ≠ .ref wo := fun y hy => by
    rw [<- Tm.vs_set w6] at hy
    rcases List.mem_or_eq_of_mem_set hy with h | rfl
    ·exact hn y h
    ·exact ⟨vq, vo⟩
   have S2 : Spl (upd H' q (.lst (x.set wi v).vs)) b wq (ls.getD 0 0) (x.set wi v) := by
    have o2 := od'.lst (ys := (x.set wi v).vs) gq' vq
    by_cases i0 : i = 0
    ·rw [wz i0, hx0 i0] at *
     exact Spl.one w6 o2
    ·have z := wp1 (by omega)
     exact (((hx1 (by omega)).1.same s').lst gq' fun y hy => (hn y hy).1).two ⟨z.1, z.2.1, w6.2⟩ z.2.2 o2
   have kH : Keep [q] H (upd H' q (.lst (x.set wi v).vs)) := (kG.trans (Keep.same s')).put (.head _)
   have gp2 : upd H' q (.lst (x.set wi v).vs) wp = _ := (ay nqp).trans (s' _ _ gp)
   have gd2 : upd H' q (.lst (x.set wi v).vs) od = _ := (ay nqd).trans (s' _ _ gd)
   have go2 : upd H' q (.lst (x.set wi v).vs) wo = _ := (ay nqo).trans go'
   have gq2 : upd H' q (.lst (x.set wi v).vs) q = _ := al
   have n2 : NoT (upd H' q (.lst (x.set wi v).vs)) := aS n' rfl
   generalize upd H' q (.lst (x.set wi v).vs) = G2 at S2 kH gp2 gd2 go2 gq2 n2 |-
   refine ⟨.inl ⟨_, SqL.of go2⟩, wo, ws, _, rfl, rfl, go2, by omega, fun y z e ny => (ay (ar e fo0)).trans (kH y z e ny), aS n2 rfl, (ay npo).trans gp2, (ay ndo).trans gd2, x.set wi v, _, _, _, _, _, (ay (Ne.symm nqo)).trans gq2, al, by simp [lw], fun z => absurd z (Nat.succ_ne_zero _), fun _ => ⟨S2.lst go2 fun y hy => (hn2 y hy).2, ?_⟩, hn2, rfl, rfl, rfl, rfl⟩
   by_cases i0 : i = 0
   ·have : ws = [] := List.eq_nil_of_length_eq_zero (lw.trans i0)
    rw [this, wz i0]; rfl
   ·rw [List.getElem?_append_left (by omega)]
    exact (hx1 (by omega)).2
  ·rintro σ' G ⟨kG, nG, gp, gd, x, ws, x5, x6, x7, x8, gq, go, lw, hx0, hx1, hn, rfl⟩
   walk_at "rd"
   have l1 : 0 < ls.length := by rcases hw with ⟨_, rfl, _⟩ | ⟨_, _, rfl, _⟩ <;> exact Nat.zero_lt_succ _
   rw [zl] at hx0 hx1 lw
   obtain ⟨sp, e0⟩ := hx1 l1
   have gw : G wq = some (.lst (b.ws.map V.int)) := kG _ _ La.w (by simpa using nqw)
   have w6 := (hw.at_ (List.getElem?_eq_getElem l1)).1
   have e1 : ls.getD 0 0 = ls[0] := by rw [List.getD_eq_getElem?_getD, List.getElem?_eq_getElem l1]; rfl
   rw [<- e1] at w6
   exact ⟨_, _, sqa go, cJ (j := 0) e0, k1 x _ G kG nG gq (sp.x w6 B gw)⟩
 obtain ⟨u3, hu3, c3⟩ := c3
 refine ⟨_, (ae (a9 (ba ED (ak aO (fv 1) ac) ac (aW _)) (aj (aD (aq []))) aL)
  (ae (aE (i := 2) ND rfl (Or.inl rfl) (aB (BG K) rfl T.oE lc (FA.pa (aa (bh (FA.pa (aa (ak aO (ak aR (fv 1) ac) ac) (aa (ak aO (ak aR (fv 1) ac) ac) ad)))) ad))))
  (ae (a9 (CJ (ba (bf K HU) (fv 2) (bh (FA.pa (aa ac (aa ac ad)))) (aW _))) (aj (aE (i := 2) ND rfl (Or.inl rfl) (bh (FA.pa (aa (ak aY ac (ak aO (ak aR (fv 1) ac) ac)) ad))))) aL)
  hu3))), ?_⟩
 walk_at "rd"
 by_cases hc : 0 < c % 3
 ·exact itp hc (k0 H (Same.refl _) hN)
 refine itn hc ⟨by omega, fun p fp => ?_⟩
 obtain ⟨H1, ee, s1, g1, N1⟩ := alloc (o := HO.lst [V.int (c / 3 % 7), V.int (c / 21 % 7)]) fp hN rfl
 rw [ee]
 refine ⟨[c / 3 % 7, c / 21 % 7], SqL.of g1, by show 2 < 64; decide, fun out pm pw wp fwp => ?_⟩
 obtain ⟨H2, ee, s2, g2, N2⟩ := alloc (o := HO.lst (out.map V.int)) fwp N1 rfl
 rw [ee]
 refine ⟨N2, by omega, fun p1 f1 => ?_⟩
 obtain ⟨H3, ee, s3, g3, N3⟩ := alloc (o := HO.lst [V.int 3, V.int 4]) f1 N2 rfl
 rw [ee]
 obtain ⟨w1, w2, rfl, b1, b2, b3⟩ : ∃ w1 w2, out = [w1, w2] /\ 0 <= w1 /\ w1 <= w2 /\ w2 <= 6 := by
  have hl := pm.length_eq
  match out, hl, pm, pw with
  | [w1, w2], _, pm, pw =>
   have m1 := pm.mem_iff.mp (Zt : w1 ∈ [w1, w2])
   have m2 := pm.mem_iff.mp (ue _ Zt : w2 ∈ [w1, w2])
   rw [Yy] at pw
   have := pw.1 w2 (by simp)
   simp only [ve, uD, or_false] at m1 m2
   exact ⟨w1, w2, rfl, by omega, this, by omega⟩
 have s12 := s1.trans s2
 refine ⟨_, DE (SqL.of (s3 _ _ g2)) (SqL.of g3), H2, Gc.none s3, ?_⟩
 by_cases h34 : w1 = 3 /\ w2 = 4
 ·refine itp (by simp [h34]) ⟨by omega, fun p2 f2 => ?_⟩
  obtain ⟨H4, ee, s4, g4, N4⟩ := alloc (o := HO.lst [V.int (3 + c / 147 % 2)]) f2 N2 rfl
  rw [ee]
  exact c3 p2 [3 + c / 147 % 2] H4 (s12.trans s4) N4 (s12.free f2) g4 (.inl ⟨_, rfl, by omega, by omega⟩)
 ·exact itn (by simpa using h34) (c3 wp [w1, w2] H2 s12 N2 (s1.free fwp) g2 (.inr ⟨w1, w2, rfl, b1, b2, b3, h34⟩))
open K5 K17
def sp_uF : Sp := sp2 fun x y H Q _ => NoT H /\ asI x fun c => asR y fun q => ∃ b wq nms, LAt H q wq b /\ GOk nms b /\ ∀ (m : Int) H', Same H H' -> NoT H' -> Q (.int m) H'
theorem tQ (T : Txt K mg a) : bz P w K mg base (XE P w) 1 a.iE a.lZ ["_law_cell", "_law_terms_here"] sp_uF := by
 refine T.ip.okX mi (fun vs H Q E h => sp2.len h) (fun cdv A outer s H vs Q E hr h => ?_)
 obtain ⟨x0, x1, rfl, h⟩ := sp2.inv h
 try dsimp only [sp_uF, sp2] at h
 have ND := mi.nd
 obtain ⟨hN, h1⟩ := h
 obtain ⟨c, rfl, h2⟩ := asI.inv h1
 obtain ⟨q, rfl, b, wq, nms, La, B, k⟩ := asR.inv h2
 have sz := szl
 have hs := sqa (K := K) La.q
 have bw := B.ws
 refine ⟨_, (ae (aE (i := 2) ND rfl (Or.inl rfl) (bh (FA.pa (aa (ak cC (aH (ao K) (fv 1) ac (fun _ _ => rfl)) ac) (aa (aH (ao K) (fv 1) ac (fun _ _ => rfl)) (aa (aH (ao K) (fv 1) ac (fun _ _ => rfl)) (aa (ak aY (aH (ao K) (fv 1) ac (fun _ _ => rfl)) ac) (aa (ak aY (aH (ao K) (fv 1) ac (fun _ _ => rfl)) (ak aO (ak aR (fv 0) ac) (aB (eh K) rfl T.lX gN (FA.pa (aa (aH (ao K) (fv 1) ac (fun _ _ => rfl)) ad))))) ad))))))))
  (aj (aD (aH (ao K) (ak nj (fv 2) (bh (FA.pa (aa (ak cC ac (ak aO (ak aR (fv 0) ac) (ak dR ac ac))) (aa (ak aY (aH (ao K) (fv 1) ac (fun _ _ => rfl)) (ak aO (ak aR (fv 0) ac) (ak dR ac ac))) ad))))) (ak aO (fv 0) ac) (fun _ _ => rfl))))), ?_⟩
 walk_at "rd"
 refine ⟨_, _, hs, rfl, ?_⟩
 walk_at "rd"
 refine ⟨_, _, hs, rfl, _, _, hs, rfl, _, _, hs, rfl, ?_⟩
 walk_at "rd"
 refine ⟨_, _, hs, rfl, _, _, hs, rfl, b.ws.map V.int, .inl (SqL.of La.w), ?_⟩
 rw [zl]
 walk_at "rd"
 refine ⟨by omega, by omega, fun p fp => ?_⟩
 obtain ⟨H1, ee, s1, g1, N1⟩ := alloc (o := HO.lst [V.int (b.f - 1), V.int b.f, V.int b.l, V.int (b.l + 1), V.int (b.f + c / 7 % b.ws.length)]) fp hN rfl
 rw [ee]
 have h1 := sqa (K := K) (s1 _ _ La.q)
 refine ⟨by decide, by decide, _, _, h1, rfl, by decide, by decide, ?_⟩
 walk_at "rd"
 generalize c / 7 % 10 ^ YT 20 = fr
 refine ⟨by omega, fun p1 f1 => ?_⟩
 obtain ⟨H2, ee, s2, g2, N2⟩ := alloc (o := HO.lst [V.int (0 - fr), V.int (b.l + fr)]) f1 N1 rfl
 rw [ee]
 refine ⟨_, _, s2 _ _ g1, g2, by show 5 + 2 <= sizeLine; omega, fun p2 f2 => ?_⟩
 obtain ⟨H3, ee, s3, g3, N3⟩ := alloc (o := HO.lst ([V.int (b.f - 1), V.int b.f, V.int b.l, V.int (b.l + 1), V.int (b.f + c / 7 % b.ws.length)] ++ [V.int (0 - fr), V.int (b.l + fr)])) f2 N2 rfl
 rw [ee]
 exact ⟨_, _, sqa g3, yr (ns := [b.f - 1, b.f, b.l, b.l + 1, b.f + c / 7 % b.ws.length, 0 - fr, b.l + fr]) (by omega) (by show _ < (7 : Int); omega), k _ _ (s1.trans (s2.trans s3)) N3⟩
def sp_uZ (a : Adr) : Sp := sp3 fun x n t H Q _ => NoT H /\ asR x fun p => asI t fun tu => asK H n fun _ => ∃ d os, SAt a.av a.aA H p d os /\ gH os n = none /\ ∀ H', Same H H' -> NoT H' -> Q (.bl true) H'
theorem i6 (T : Txt K mg a) : bz P w K mg base (XE P w) 8 a.fm a.ja ["_law_budgets", "_law_name", "_law_turn"] (sp_uZ a) := by
 refine T.de.okX iX (fun vs H Q E h => sp3.len h) (fun cdv A outer s H vs Q E hr h => ?_)
 obtain ⟨x0, x1, x2, rfl, h⟩ := sp3.inv h
 try dsimp only [sp_uZ, sp3] at h
 have ND := iX.nd
 have HU := bA hr
 obtain ⟨hN, h1⟩ := h
 obtain ⟨p, rfl, h2⟩ := asR.inv h1
 obtain ⟨tu, rfl, h3⟩ := asI.inv h2
 obtain ⟨t, ht, hb, d, os, J, ef, k⟩ := asK.inv h3
 have G__law_refusal := @iV P w K mg base a T
 have b__law_refusal := i9 T.db
 refine ⟨_, (ae (eJ (by passes_own) rfl (eW rfl T.iM (FA.pa (aa ac ad))) (a_ (i := 3) ND rfl (Or.inl rfl)) (aj (a9 (ba (ii K HU) (au G__law_refusal (hr.mono (by decide)) rfl T.jI T.db.kp b__law_refusal .nil aQ (FA.pa (aa (fv 0) (aa (fv 1) (aa (ak aO (ak aY (fv 3) (fv 2)) ac) ad))))) (aq [110, 111, 110, 101]) (aW _)) (aj (aD dk)) aL)))
  (aj (aD dk))), ?_⟩
 walk_at "rd"
 refine oQ ?_
 walk_at "rd"
 refine hR (lo := 0) (n := 4) (fun i σ' G => Same H G /\ NoT G /\ ∃ x3, σ' = [some (.ref p), some x1, some (.int tu), x3]) ⟨Same.refl _, hN, none, rfl⟩ ?_ ?_
 ·rintro i σ' G hi ⟨sG, nG, x3, rfl⟩
  walk_at "rd"
  refine ⟨nG, asK.of (dC sG ht) ⟨d, os, J.same sG, fun _ G2 s2 n2 => ?_, fun c e => ?_⟩⟩
  ·exact ⟨sG.trans s2, n2, _, rfl⟩
  ·rw [ef] at e; cases e
 ·rintro σ' G ⟨sG, nG, x3, rfl⟩
  walk_at "rd"
  exact k G sG nG
open K5 K17
def PRM : List (List Int) := [[0, 1, 2], [1, 0, 2], [2, 1, 0], [1, 2, 0], [0, 2, 1], [2, 0, 1]]
def pZ (A : List V) (seen : List Int) : List V := (uF 3).map fun k : Nat => if (k : Int) ∈ seen then A.getD k .non else .non
theorem Dk {A : List V} {seen : List Int} {w : Int} (hw : w = 0 \/ w = 1 \/ w = 2) : (pZ A seen).set w.toNat (A.getD w.toNat .non) = pZ A (seen ++ [w]) := by
 rcases hw with rfl | rfl | rfl <;> simp [pZ, uF, uF.loop]
def sp_B2 (a : Adr) : Sp := sp4 fun x n mo tu H Q _ => NoT H /\ asR x fun p => asT n fun l => asI mo fun mo => asI tu fun tu => ∃ d os o, SAt a.av a.aA H p d os /\ fnd os l = some o /\
 ∀ q H', H q = none -> Same H H' -> NoT H' -> H' q = some (.lst [.ref o.ag, .int (plB o mo - plB o (mo - 1)), .int (plB o mo)]) -> Q (.ref q) H'
theorem qK (T : Txt K mg a) : bz P w K mg base (XE P w) 6 a.fz a.iW ["_law_budgets", "_law_name", "_law_month_here", "_law_turn"] (sp_B2 a) := by
 refine T.eZ.okX i7 (fun vs H Q E h => sp4.len h) (fun cdv A outer s H vs Q E hr h => ?_)
 obtain ⟨x0, x1, x2, x3, rfl, h⟩ := sp4.inv h
 try dsimp only [sp_B2, sp4] at h
 have ND := i7.nd
 have HU := bA hr
 obtain ⟨hN, h1⟩ := h
 obtain ⟨p, rfl, h2⟩ := asR.inv h1
 obtain ⟨l, rfl, h4⟩ := asT.inv h2
 obtain ⟨mo, rfl, h5⟩ := asI.inv h4
 obtain ⟨tu, rfl, d, os, o, J, ef, k⟩ := asI.inv h5
 have sz := szl
 have fV : gH os (L2.T l) = some o := ef
 have G_Budgets_terms := @g_ P w K mg base a T
 have b_Budgets_terms := hZ T.eN
 have G_Budgets_planned := @fD P w K mg base a T
 have b_Budgets_planned := eY T.dJ
 have G_Budgets_planned_by := @cP P w K mg base a T
 have b_Budgets_planned_by := cM T.ck
 refine ⟨_, (ae (aE (i := 4) ND rfl (Or.inl rfl) (bh (FA.pa (aa fS (aa fS (aa fS ad))))))
  (ae (eJ (by passes_own) rfl (dG K (cW (FA.pa (aa (bh (FA.pa (aa ac (aa ac (aa ac ad))))) (aa (bh (FA.pa (aa ac (aa ac (aa ac ad))))) (aa (bh (FA.pa (aa ac (aa ac (aa ac ad))))) (aa (bh (FA.pa (aa ac (aa ac (aa ac ad))))) (aa (bh (FA.pa (aa ac (aa ac (aa ac ad))))) (aa (bh (FA.pa (aa ac (aa ac (aa ac ad))))) ad))))))) (ak aO (fv 3) ac) (fun _ _ => rfl))) (a_ (i := 5) ND rfl (Or.inl rfl)) (aj (a9 (ba (bf K HU) (fv 5) ac (aW _)) (aj (jZ (bX (fv 0) T.aV T.ib G_Budgets_terms (hr.mono (by decide)) b_Budgets_terms .nil aQ (FA.pa (aa (fv 1) ad))) (pF (fv 4) ac ic))) (aj (a9 (ba (bf K HU) (fv 5) ac (aW _)) (aj (jZ (bX (fv 0) T.aV T.fu G_Budgets_planned (hr.mono (by decide)) b_Budgets_planned .nil aQ (FA.pa (aa (fv 1) (aa (fv 2) ad)))) (pF (fv 4) ac ic))) (aj (jZ (bX (fv 0) T.aV T.cb G_Budgets_planned_by (hr.mono (by decide)) b_Budgets_planned_by .nil aQ (FA.pa (aa (fv 1) (aa (fv 2) ad)))) (pF (fv 4) ac ic))))))))
  (aj (aD (fv 4))))), ?_⟩
 walk_at "rd"
 refine ⟨by omega, fun q fq => rR ?_⟩
 walk_at "rd"
 obtain ⟨H1, ee, s1, g1, N1⟩ := alloc (o := HO.lst [V.non, V.non, V.non]) fq hN rfl
 rw [ee]
 refine ⟨N1, by omega, fun p0 f0 => ?_⟩
 obtain ⟨A0, ee, b0, c0, NA0⟩ := alloc (o := HO.lst [V.int 0, V.int 1, V.int 2]) f0 N1 rfl
 rw [ee]
 refine ⟨by omega, fun p1 f1 => ?_⟩
 obtain ⟨A1, ee, b1, c1, NA1⟩ := alloc (o := HO.lst [V.int 1, V.int 0, V.int 2]) f1 NA0 rfl
 rw [ee]
 refine ⟨by omega, fun p2 f2 => ?_⟩
 obtain ⟨A2', ee, b2, c2, NA2⟩ := alloc (o := HO.lst [V.int 2, V.int 1, V.int 0]) f2 NA1 rfl
 rw [ee]
 refine ⟨by omega, fun p3 f3 => ?_⟩
 obtain ⟨A3, ee, b3, c3, NA3⟩ := alloc (o := HO.lst [V.int 1, V.int 2, V.int 0]) f3 NA2 rfl
 rw [ee]
 refine ⟨by omega, fun p4 f4 => ?_⟩
 obtain ⟨A4, ee, b4, c4, NA4⟩ := alloc (o := HO.lst [V.int 0, V.int 2, V.int 1]) f4 NA3 rfl
 rw [ee]
 refine ⟨by omega, fun p5 f5 => ?_⟩
 obtain ⟨A5, ee, b5, c5, NA5⟩ := alloc (o := HO.lst [V.int 2, V.int 0, V.int 1]) f5 NA4 rfl
 rw [ee]
 have b01 := b0.trans b1
 have b02 := b01.trans b2
 have b03 := b02.trans b3
 have b04 := b03.trans b4
 have b45 := b4.trans b5
 have b35 := b3.trans b45
 have b25 := b2.trans b35
 refine ⟨b04.trans b5, by omega, fun p6 f6 => ?_⟩
 obtain ⟨pj, xs, ex, fr, gx, hx⟩ : ∃ pj, ∃ xs : List Int, atI [V.ref p0, V.ref p1, V.ref p2, V.ref p3, V.ref p4, V.ref p5] (tu % 6) = some (.ref pj) /\ H1 pj = none /\ A5 pj = some (.lst (xs.map V.int)) /\ xs ∈ PRM := by
  have h6 : tu % 6 = 0 \/ tu % 6 = 1 \/ tu % 6 = 2 \/ tu % 6 = 3 \/ tu % 6 = 4 \/ tu % 6 = 5 := by omega
  rcases h6 with h | h | h | h | h | h <;> rw [h]
  ·exact ⟨p0, [0, 1, 2], rfl, f0, (b1.trans b25) _ _ c0, by decide⟩
  ·exact ⟨p1, [1, 0, 2], rfl, b0.free f1, b25 _ _ c1, by decide⟩
  ·exact ⟨p2, [2, 1, 0], rfl, b01.free f2, b35 _ _ c2, by decide⟩
  ·exact ⟨p3, [1, 2, 0], rfl, b02.free f3, b45 _ _ c3, by decide⟩
  ·exact ⟨p4, [0, 2, 1], rfl, b03.free f4, b5 _ _ c4, by decide⟩
  ·exact ⟨p5, [2, 0, 1], rfl, b04.free f5, c5, by decide⟩
 refine xZ ex fr gx rfl ?_
 have hx2 : (∀ w ∈ xs, w = 0 \/ w = 1 \/ w = 2) /\ (0 : Int) ∈ xs /\ (1 : Int) ∈ xs /\ (2 : Int) ∈ xs := by
  have : ∀ xs ∈ PRM, (∀ w ∈ xs, w = 0 \/ w = 1 \/ w = 2) /\ (0 : Int) ∈ xs /\ (1 : Int) ∈ xs /\ (2 : Int) ∈ xs := by decide
  exact this xs hx
 clear b0 b1 b2 b3 b4 b5 b01 b02 b03 b04 b45 b35 b25 c0 c1 c2 c3 c4 c5 f0 f1 f2 f3 f4 f5 f6 NA0 NA1 NA2 NA3 NA4 NA5 ex gx hx
 obtain ⟨H2, ee, s2, g2, N2⟩ := alloc (o := HO.lst (xs.map V.int)) fr N1 rfl
 rw [ee]
 have s12 := s1.trans s2
 have nq : pj ≠ q := Ne.symm (ar g1 fr)
 obtain ⟨An, eA⟩ : ∃ An, An = [V.ref o.ag, V.int (plB o mo - plB o (mo - 1)), V.int (plB o mo)] := ⟨_, rfl⟩
 refine nX (SqL.of g2) (rJ (xs := xs.map V.int) (fun i σ' G => Same H G /\ NoT G /\ G pj = some (.lst (xs.map V.int)) /\ G q = some (.lst (pZ An (xs.take i))) /\ ∃ x6, σ' = [some (.ref p), some (L2.T l), some (.int mo), some (.int tu), some (.ref q), x6]) ⟨s12, N2, g2, s2 _ _ g1, none, rfl⟩ (fun i σ' G _ h => SqL.of h.2.2.1) ?_ ?_)
 ·rintro i x σ' G hxi ⟨sG, nG, gp, gq, x6, rfl⟩
  rw [List.getElem?_map] at hxi
  obtain ⟨wy, ew, rfl⟩ := ZW.mp hxi
  have hw := hx2.1 wy (qh ew)
  have et : xs.take (i + 1) = xs.take i ++ [wy] := by rw [Yk, ew]; rfl
  have J1 := J.same sG
  obtain ⟨dx, hp⟩ := J1.ob
  have fin : ∀ v, v = An.getD wy.toNat .non -> ∀ j, j = wy.toNat -> Same H (upd G q (.lst ((pZ An (xs.take i)).set j v))) /\ NoT (upd G q (.lst ((pZ An (xs.take i)).set j v))) /\ upd G q (.lst ((pZ An (xs.take i)).set j v)) pj = some (.lst (xs.map V.int)) /\ upd G q (.lst ((pZ An (xs.take i)).set j v)) q = some (.lst (pZ An (xs.take (i + 1)))) := fun v ev j ej => by
   subst ev ej
   rw [et, <- Dk hw]
   exact ⟨cI sG fq, aS nG rfl, (ay nq).trans gp, al⟩
  have la : ∀ z, (pZ An z).length = 3 := fun z => by simp [pZ]
  walk_at "rd"
  by_cases w0 : wy = 0
  ·subst w0
   obtain ⟨a1, a2, a3, a4⟩ := fin (.ref o.ag) (by rw [eA]; rfl) 0 rfl
   exact itp rfl ⟨_, _, hp, fO "terms" _, nG, d, os, J1, by rw [fV]; exact ⟨q, _, 0, 0, rfl, rfl, gq, by rw [la]; rfl, a1, a2, a3, a4, _, rfl⟩⟩
  refine itn w0 ?_
  by_cases w1 : wy = 1
  ·subst w1
   obtain ⟨a1, a2, a3, a4⟩ := fin (.int (plB o mo - plB o (mo - 1))) (by rw [eA]; rfl) 1 rfl
   exact itp rfl ⟨_, _, hp, fO "planned" _, nG, d, os, J1, by rw [fV]; exact ⟨q, _, 1, 1, rfl, rfl, gq, by rw [la]; rfl, a1, a2, a3, a4, _, rfl⟩⟩
  have w2 : wy = 2 := by omega
  subst w2
  obtain ⟨a1, a2, a3, a4⟩ := fin (.int (plB o mo)) (by rw [eA]; rfl) 2 rfl
  exact itn w1 ⟨_, _, hp, fO "planned_by" _, nG, d, os, J1, by rw [fV]; exact ⟨q, _, 2, 2, rfl, rfl, gq, by rw [la]; rfl, a1, a2, a3, a4, _, rfl⟩⟩
 ·rintro σ' G ⟨sG, nG, gp, gq, x6, rfl⟩
  walk_at "rd"
  rw [zl, Yj] at gq
  refine k q G fq sG nG (gq.trans ?_)
  have : pZ An xs = [V.ref o.ag, V.int (plB o mo - plB o (mo - 1)), V.int (plB o mo)] := by
   rw [eA]
   simp [pZ, uF, uF.loop, hx2.2]
  rw [this]
open K5 K17
structure Lw where
 q : Addr
 w : Addr
 b : Bd
def kyL (r : Lw) : Key × V := (.inr ⟨⟨r.b.nm⟩⟩, .ref r.q)
def h8 (rs : List Lw) (l : List Nat) : Option Lw := rs.find? fun r => decide (r.b.nm = l)
theorem oR (l : List Nat) : ∀ rs : List Lw, jB (rs.map kyL) (.inr ⟨⟨l⟩⟩) = (h8 rs l).map fun r => .ref r.q
 | [] => rfl
 | c :: r => by
  have ih := oR l r
  by_cases h : c.b.nm = l
  ·rw [ud, kM (by show Sum.inr _ = Sum.inr _; rw [h])]
   simp [h8, h, kyL]
  ·rw [ud, jP (fun z => h (by simpa [kyL] using z)), ih]
   simp [h8, h]
theorem n8 {rs : List Lw} {l : List Nat} {r : Lw} (h : h8 rs l = some r) : r ∈ rs /\ r.b.nm = l :=
 ⟨List.mem_of_find?_eq_some h, by simpa using List.find?_some h⟩
theorem Ar {rs : List Lw} {l : List Nat} (h : h8 rs l = none) : ∀ r ∈ rs, r.b.nm ≠ l := fun c hc => by
 simpa using List.find?_eq_none.mp h c hc
structure Sd (S O : Addr) (nms : List (List Nat)) (H : Hp) (p d r : Addr) (os : List Bd) (rs : List Lw) : Prop where
 sa : SAt S O H p d os
 dc : H r = some (.dK (rs.map kyL))
 rw : ∀ x ∈ rs, LAt H x.q x.w x.b
 pm : (rs.map (·.b)).Perm os
 ok : ∀ x ∈ rs, GOk nms x.b
theorem Sd.same {S O : Addr} {nms : List (List Nat)} {H H' : Hp} {p d r : Addr} {os : List Bd} {rs : List Lw} (x : Sd S O nms H p d r os rs) (s : Same H H') : Sd S O nms H' p d r os rs :=
 ⟨x.sa.same s, s _ _ x.dc, fun y hy => (x.rw y hy).same s, x.pm, x.ok⟩
theorem Sd.fnd {S O : Addr} {nms : List (List Nat)} {H : Hp} {p d r : Addr} {os : List Bd} {rs : List Lw} (x : Sd S O nms H p d r os rs) (l : List Nat) : fnd os l = (h8 rs l).map (·.b) := by
 cases e : h8 rs l with
 | none =>
  cases e2 : K25.fnd os l with
  | none => rfl
  | some o =>
   obtain ⟨m, n⟩ := gE e2
   obtain ⟨y, hy, rfl⟩ := Zp.mp (x.pm.mem_iff.mpr m)
   exact absurd n (Ar e y hy)
 | some y =>
  obtain ⟨m, n⟩ := n8 e
  have := E8 x.sa.np (x.pm.mem_iff.mp (ZL m))
  rw [n] at this; exact this
theorem Sd.get {S O : Addr} {nms : List (List Nat)} {H : Hp} {p d r : Addr} {os : List Bd} {rs : List Lw} (x : Sd S O nms H p d r os rs) (l : List Nat) : DGet H r (L2.T l) ((h8 rs l).map fun y => .ref y.q) := by
 have := DGet.k (k := .inr ⟨⟨l⟩⟩) x.dc
 rwa [oR] at this
theorem Gm {nms : List (List Nat)} {b : Bd} (B : GOk nms b) : wOk (b.ws.map V.int) = true := by
 have hw := B.ws
 unfold wOk
 rw [qT, zl, decide_eq_true hw.2.1, decide_eq_true hw.2.2.1, decide_eq_true hw.2.2.2, Yq, u9.mpr fun w hm => by show (decide _ && decide _) = true; rw [decide_eq_true (hw.1 w hm).1, decide_eq_true (hw.1 w hm).2]; rfl]
 rfl
theorem Ae {ps : List Int} {f m : Int} {i : Nat} (h : i < ps.length) : ((ps.take (min (i + 1) (m - f + 1).toNat)).sum) = (ps.take (min i (m - f + 1).toNat)).sum + if f + i <= m then ps.getD i 0 else 0 := by
 by_cases c : f + i <= m
 ·rw [if_pos c, ZJ (by omega), ZJ (by omega), Yk, List.getElem?_eq_getElem h, List.sum_append, List.getD_eq_getElem?_getD, List.getElem?_eq_getElem h]
  simp
 ·rw [if_neg c, Z8 (by omega), Z8 (by omega), Int.add_zero]
theorem Fi {H : Hp} {p q r s : Addr} {pt cu : List Nat} {f l t : Int} {ws : List Int} (hp : H p = some (.tup [L2.T pt, L2.T cu, .int f, .int l, .int t, .ref r])) (hq : H q = some (.tup [L2.T pt, L2.T cu, .int f, .int l, .int t, .ref s])) (hr : H r = some (.tup (ws.map V.int))) (hs : H s = some (.tup (ws.map V.int))) : EqR K H p q true := by
 have fx : ∀ {n : Nat} {v : V}, cj v = true -> EqH K H n v v true := fun {n v} f => by
  have h := EqH.flat (K := K) (H := H) (n := n) f f
  have e : eqV v v = true := by cases v <;> simp [eqV] at f |- <;> simp [cj] at f
  rw [e] at h; exact h
 have hw : EqH K H 50 (.ref r) (.ref s) true := by
  by_cases e : r = s
  ·subst e; exact .same
  ·have := EqH.tup (K := K) (H := H) (n := 49) (e := fun _ => true) e (SqT.of hr) (SqT.of hs) fun j x y gx gy => by
    rw [gx] at gy; cases gy
    exact fx (u9.mp (mZ ws) _ (qh gx))
   rwa [show (((uF (min (ws.map V.int).length (ws.map V.int).length)).all fun _ => true) && (ws.map V.int).length == (ws.map V.int).length) = true by simp] at this
 have := EqR.tup (K := K) (H := H) (e := fun _ => true) (SqT.of hp) (SqT.of hq) fun j x y gx gy => by
  match j, gx, gy with
  | 0, gx, gy => cases gx; cases gy; exact fx rfl
  | 1, gx, gy => cases gx; cases gy; exact fx rfl
  | 2, gx, gy => cases gx; cases gy; exact fx rfl
  | 3, gx, gy => cases gx; cases gy; exact fx rfl
  | 4, gx, gy => cases gx; cases gy; exact fx rfl
  | 5, gx, gy => cases gx; cases gy; exact hw
 exact this
def sp_Ad (a : Adr) : Sp := sp4 fun x y n c H Q _ => NoT H /\ asR x fun p => asR y fun r => asT n fun l => asI c fun c => ∃ nms d os rs, Sd a.av a.aA nms H p d r os rs /\ ∀ H', Same H H' -> NoT H' -> Q (.bl true) H'
theorem vU (T : Txt K mg a) : bz P w K mg base (XE P w) 9 a.gu a.nM ["_law_budgets", "_law_rows", "_law_name", "_law_cell"] (sp_Ad a) := by
 refine T.f_.okX oy (fun vs H Q E h => sp4.len h) (fun cdv A outer s H vs Q E hr h => ?_)
 obtain ⟨x0, x1, x2, x3, rfl, h⟩ := sp4.inv h
 try dsimp only [sp_Ad, sp4] at h
 have ND := oy.nd
 have HU := bA hr
 obtain ⟨hN, h1⟩ := h
 obtain ⟨p, rfl, h2⟩ := asR.inv h1
 obtain ⟨r, rfl, h4⟩ := asR.inv h2
 obtain ⟨l, rfl, h5⟩ := asT.inv h4
 obtain ⟨c, rfl, nms, d, os, rs, S, k⟩ := asI.inv h5
 have sz := szl
 have g := S.get l
 have ef := S.fnd l
 have G__law_whole := @tK P w K mg base a T
 have b__law_whole := sZ T.eU
 have G_shared := @uE P w K mg base a T
 have b_shared := vc T.jE
 have G__law_answers := @qK P w K mg base a T
 have b__law_answers := qJ T.eZ
 have G__law_month := @tQ P w K mg base a T
 have b__law_month := tj T.ip
 have G__law_is_none := @i6 P w K mg base a T
 have b__law_is_none := i8 T.de
 have c6 : ∃ u, PSs (cO (XE P w) P w K mg base ["_law_budgets", "_law_rows", "_law_name", "_law_cell", "_law_terms_here", "_law_month_here", "_law_told_here", "_law_one", "_law_together", "_law_first_ones", "_law_shares", "_law_here", "_law_early", "_law_k", "_law_part"] "_law_told" (af cg) a.gu cdv A outer s H E) (Zg 6 (aw cg)) u /\ ∀ (y : Lw) (m : Int) x6 x9 H1, y ∈ rs -> Same H H1 -> NoT H1 -> u { nx := fun _ H' => Q .non H', rt := Q } [some (.ref p), some (.ref r), some (L2.T l), some (.int c), some (.ref y.q), some (.int m), x6, some (.int (plB y.b m - plB y.b (m - 1))), some (.int (plB y.b m)), x9, none, none, none, none, none] H1 := by
  refine ⟨_, (ae (aE (i := 10) ND rfl (Or.inl rfl) (au G_shared (hr.mono (by decide)) rfl T.wW T.jE.kp b_shared .nil aQ (FA.pa (aa (aH (ao K) (fv 4) ac (fun _ _ => rfl)) (aa (dB (oV K) rfl T.gL d_ (FA.pa (aa (aH (ao K) (fv 4) ac (fun _ _ => rfl)) ad))) ad)))))
   (ae (a9 (L2.PW.pt (qm (cw (bO (au G__law_whole (hr.mono (by decide)) rfl T.ox T.eU.kp b__law_whole .nil aQ (FA.pa (aa (fv 7) ad))))) (mX (cw (bO (au G__law_whole (hr.mono (by decide)) rfl T.ox T.eU.kp b__law_whole .nil aQ (FA.pa (aa (fv 8) ad)))))))) (aj (aD dk)) aL)
   (ae (aE (i := 11) ND rfl (Or.inl rfl) ac)
   (ae (aE (i := 12) ND rfl (Or.inl rfl) ac)
   (ae (eJ (by passes_own) rfl (zQ K rfl T.kA (FA.pa (aa (fv 10) ad))) (oZ K (n := 2) rfl (cp (a_ (i := 13) ND rfl (Or.inl rfl)) (cp (a_ (i := 14) ND rfl (Or.inl rfl)) k_))) (ae (a9 (ba (bf K HU) (ak aY (aH (ao K) (fv 4) ac (fun _ _ => rfl)) (fv 13)) (fv 5) (aW _)) (aj (aE (i := 11) ND rfl (Or.inl rfl) (fv 14))) aL)
   (aj (a9 (ba i_ (ak aY (aH (ao K) (fv 4) ac (fun _ _ => rfl)) (fv 13)) (fv 5) (aW _)) (aj (aE (i := 12) ND rfl (Or.inl rfl) (ak aY (fv 12) (fv 14)))) aL))))
   (aj (aD (dS (eg (bf K HU) (fv 7) (fv 11) (aW _)) (eO (eg (bf K HU) (fv 8) (fv 12) (aW _))))))))))), fun y m x6 x9 H1 hy s1 N1 => ?_⟩
  have La := (S.rw y hy).same s1
  have B := S.ok y hy
  have bw := B.ws
  have hs := sqa (K := K) La.q
  walk_at "rd"
  refine ⟨_, _, hs, rfl, _, _, hs, rfl, _, .inl (SqL.of La.w), fun q1 f1 => ?_⟩
  obtain ⟨H2, ee, s2, g2, N2⟩ := alloc (o := HO.lst (y.b.ws.map V.int)) f1 N1 rfl
  rw [ee]
  walk_at "rd"
  have wk := Gm B
  refine ⟨N2, ⟨by have := B.tt; omega, by have := B.tt; omega⟩, .inl ⟨q1, _, rfl, g2, by rw [zl]; omega, fun z hz => ?_, itp wk fun ws ews q2 f2 => ?_⟩⟩
  ·obtain ⟨i, _, rfl⟩ := Zp.mp hz; exact ⟨_, rfl⟩
  have ews : y.b.ws = ws := (List.map_inj_right (f := V.int) fun a b h => V.int.inj h).mp ews
  subst ews
  obtain ⟨H3, ee, s3, g3, N3⟩ := alloc (o := HO.lst ((mm y.b.t y.b.ws).map V.int)) f2 N2 rfl
  rw [ee]
  have La3 := La.same (s2.trans s3)
  walk_at "rd"
  refine ⟨N3, N3, CU ?_⟩
  walk_at "rd"
  refine ⟨⟨_, SqL.of g3⟩, ?_⟩
  obtain ⟨ps, eps⟩ : ∃ ps, ps = mm y.b.t y.b.ws := ⟨_, rfl⟩
  have lps : ps.length = y.b.ws.length := by rw [eps, uH]
  rw [<- eps] at g3
  have eP : ∀ m : Int, plB y.b m = (ps.take (min ps.length (m - y.b.f + 1).toNat)).sum := fun m => by
   unfold plB
   rw [<- eps]
   by_cases h : ps.length <= (m - y.b.f + 1).toNat
   ·rw [ZJ h, oF h, Yj]
   ·rw [Z8 (by omega)]
  refine Dw (xs := ps.map V.int) (fun i σ' G => Same H3 G /\ NoT G /\ ∃ x13 x14, σ' = [some (.ref p), some (.ref r), some (L2.T l), some (.int c), some (.ref y.q), some (.int m), x6, some (.int (plB y.b m - plB y.b (m - 1))), some (.int (plB y.b m)), x9, some (.ref q2), some (.int ((ps.take (min i (m - y.b.f + 1).toNat)).sum - (ps.take (min i (m - 1 - y.b.f + 1).toNat)).sum)), some (.int ((ps.take (min i (m - y.b.f + 1).toNat)).sum)), x13, x14]) ⟨Same.refl _, N3, none, none, by simp⟩ (fun i σ' G _ h => SqL.of (h.1 _ _ g3)) ?_ ?_
  ·rintro i x σ' G t hxi ft ⟨sG, nG, x13, x14, rfl⟩
   rw [List.getElem?_map] at hxi
   obtain ⟨z, ez, rfl⟩ := ZW.mp hxi
   have li := (List.getElem?_eq_some_iff.mp ez).1
   have gz : ps.getD i 0 = z := by rw [List.getD_eq_getElem?_getD, ez]; rfl
   have e1 := Ae (f := y.b.f) (m := m) li
   have e2 := Ae (f := y.b.f) (m := m - 1) li
   have e3 : y.b.f + i = m -> (ps.take (min i (m - y.b.f + 1).toNat)).sum = (ps.take (min i (m - 1 - y.b.f + 1).toNat)).sum := fun h => by rw [ZJ (by omega), ZJ (by omega)]
   rw [gz] at e1 e2
   obtain ⟨H4, ee, s4, g4, N4⟩ := alloc (o := HO.tup [.int i, .int z]) ft nG rfl
   rw [ee]
   have h4 := sqa (K := K) ((sG.trans s4) _ _ La3.q)
   rw [e1, e2]
   generalize (ps.take (min i (m - y.b.f + 1).toNat)).sum = A1 at e3 |-
   generalize (ps.take (min i (m - 1 - y.b.f + 1).toNat)).sum = A2' at e3 |-
   walk_at "rd"
   have fin : ∀ h1 h2 : Int, h1 = A1 + (if y.b.f + i <= m then z else 0) - (A2' + if y.b.f + i <= m - 1 then z else 0) -> h2 = A1 + (if y.b.f + i <= m then z else 0) -> Same H3 H4 /\ NoT H4 /\ ∃ x13 x14, some (V.int h1) = some (V.int (A1 + (if y.b.f + i <= m then z else 0) - (A2' + if y.b.f + i <= m - 1 then z else 0))) /\ some (V.int h2) = some (V.int (A1 + (if y.b.f + i <= m then z else 0))) /\ some (V.int (i : Int)) = x13 /\ some (V.int z) = x14 := fun h1 h2 e1 e2 => ⟨sG.trans s4, N4, _, _, by rw [e1], by rw [e2], rfl, rfl⟩
   refine ⟨t, _, rfl, SqT.of g4, rfl, _, _, rfl, _, _, rfl, rfl, _, _, h4, rfl, ?_⟩
   walk_at "rd"
   by_cases h1 : y.b.f + i = m
   ·have := e3 h1
    refine itp h1 ⟨_, _, h4, rfl, ?_⟩
    walk_at "rd"
    refine itp (by omega) (fin _ _ ?_ ?_)
    ·rw [if_pos (by omega), if_neg (by omega)]; omega
    ·rw [if_pos (by omega)]
   ·refine itn h1 ⟨_, _, h4, rfl, ?_⟩
    walk_at "rd"
    by_cases h2 : y.b.f + i <= m
    ·refine itp h2 (fin _ _ ?_ ?_)
     ·rw [if_pos h2, if_pos (by omega)]; omega
     ·rw [if_pos h2]
    ·refine itn h2 (fin _ _ ?_ ?_)
     ·rw [if_neg h2, if_neg (by omega)]; omega
     ·rw [if_neg h2]; omega
  ·rintro σ' G ⟨sG, nG, x13, x14, rfl⟩
   rw [zl]
   walk_at "rd"
   rw [<- eP m, <- eP (m - 1)]
   refine itp rfl ?_
   rw [decide_eq_true rfl]
   exact k G ((s1.trans (s2.trans s3)).trans sG) nG
 obtain ⟨u6, hu6, c6⟩ := c6
 refine ⟨_, (ae (a9 (sJ (qb (Zv HU) (fv 2) (fv 1)) (by with_unfolding_all rfl)) (aj (aD (au G__law_is_none (hr.mono (by decide)) rfl T.jR T.de.kp b__law_is_none .nil aQ (FA.pa (aa (fv 0) (aa (fv 2) (aa (ak aR (fv 3) ac) ad))))))) aL)
  (ae (aE (i := 4) ND rfl (Or.inl rfl) (Ai (Zv HU) (fv 1) (fv 2) (fun _ _ => rfl)))
  (ae (aE (i := 5) ND rfl (Or.inl rfl) (au G__law_month (hr.mono (by decide)) rfl T.wm T.ip.kp b__law_month .nil aQ (FA.pa (aa (fv 3) (aa (fv 4) ad)))))
  (ae (jZ (au G__law_answers (hr.mono (by decide)) rfl T.rC T.eZ.kp b__law_answers .nil aQ (FA.pa (aa (fv 0) (aa (fv 2) (aa (fv 5) (aa (ak aR (fv 3) ac) ad)))))) (Ej K (n := 3) rfl (cp (a_ (i := 6) ND rfl (Or.inl rfl)) (cp (a_ (i := 7) ND rfl (Or.inl rfl)) (cp (a_ (i := 8) ND rfl (Or.inl rfl)) k_)))))
  (ae (aE (i := 9) ND rfl (Or.inl rfl) (dW (FA.pa (aa (aH (ao K) (fv 4) ac (fun _ _ => rfl)) (aa (aH (ao K) (fv 4) ac (fun _ _ => rfl)) (aa (aH (ao K) (fv 4) ac (fun _ _ => rfl)) (aa (aH (ao K) (fv 4) ac (fun _ _ => rfl)) ad)))))))
  (ae (a9 (CJ (L2.PW.pt (qm (cw (bO (aB (bg K) rfl T.aF aC (FA.pa (aa (fv 6) (aa (cF (v := .ty "tuple") rfl T.qQ oW rfl) ad)))))) (mX (ba (ii K HU) (fv 6) (ak D_ (fv 9) (dW (FA.pa (aa (aH (ao K) (fv 4) ac (fun _ _ => rfl)) (aa (dB (sU K) rfl T.qQ oW (FA.pa (aa (aH (ao K) (fv 4) ac (fun _ _ => rfl)) ad))) ad))))) (aW _)))))) (aj (aD dk)) aL)
  hu6)))))), ?_⟩
 walk_at "rd"
 refine ⟨_, _, rfl, g, ?_⟩
 rw [ZA]
 cases e : h8 rs l with
 | none =>
  rw [e] at ef
  exact itp rfl ⟨hN, d, os, S.sa, ef, k⟩
 | some y =>
  rw [e] at g ef
  obtain ⟨my, ny⟩ := n8 e
  have La := S.rw y my
  have B := S.ok y my
  have mo : y.b ∈ os := (gE ef).1
  refine itn (by intro z; cases z) ⟨_, _, rfl, g, hN, ?_⟩
  show ∃ b wq nms, _
  refine ⟨y.b, y.w, nms, La, B, fun m H1 s1 N1 => ⟨N1, d, os, y.b, S.sa.same s1, ef, fun q2 H2 f2 s2 N2 g2 => ?_⟩⟩
  have La2 := La.same (s1.trans s2)
  have hs := sqa (K := K) La2.q
  have A2' := (((S.sa.same (s1.trans s2)).od _ mo).ag)
  refine ⟨q2, _, rfl, SqL.of g2, rfl, _, _, rfl, _, _, rfl, _, _, rfl, rfl, _, _, hs, rfl, _, _, hs, rfl, _, _, hs, rfl, _, _, hs, rfl, by omega, fun t1 ft1 => ?_⟩
  obtain ⟨H3, ee, s3, g3, N3⟩ := alloc (o := HO.tup [L2.T y.b.pt, L2.T y.b.cu, V.int y.b.f, V.int y.b.l]) ft1 N2 rfl
  rw [ee]
  have La3 := La2.same s3
  have h3 := sqa (K := K) La3.q
  have Ag := s3 _ _ A2'.ag
  have Wt := s3 _ _ A2'.wt
  have ka : aZ H3 (.ref y.b.ag) = some "tuple" := by simp [aZ, Ag]
  refine ⟨N3, ?_⟩
  simp only [ka]
  refine itn (by decide) ⟨_, _, h3, rfl, _, _, h3, rfl, _, .inl ⟨SqL.of La3.w, fun t2 ft2 => ⟨by omega, fun t3 ft3 => ?_⟩⟩⟩
  obtain ⟨H4, ee, s4, g4, N4⟩ := alloc (o := HO.tup (y.b.ws.map V.int)) ft2 N3 rfl
  rw [ee] at ft3 |-
  obtain ⟨H5, ee, s5, g5, N5⟩ := alloc (o := HO.tup [V.int y.b.t, V.ref t2]) ft3 N4 rfl
  rw [ee]
  walk_at "rd"
  refine ⟨_, _, (s4.trans s5) _ _ g3, g5, by show 4 + 2 <= sizeLine; omega, fun t4 H6 g6 s6 n6 => ?_⟩
  have s36 := s4.trans (s5.trans s6)
  refine ⟨true, Fi (s36 _ _ Ag) g6 (s36 _ _ Wt) ((s5.trans s6) _ _ g4), H3, Gc.none s36, itn (by decide) (c6 y m _ _ H3 my (s1.trans (s2.trans s3)) N3)⟩
open K5 K17
def PrO (h : Addr) (H : Hp) (v : V) : Prop := ∃ (q c d : Addr) (ls : List (List Nat)), v = .ref q /\ H q = some (.lst [.ref c, .ref d]) /\ H c = some (.lst (ls.map L2.T)) /\ H d = some (.lst (ls.map L2.T)) /\ q ≠ h /\ c ≠ h /\ d ≠ h
structure Hd (H : Hp) (h : Addr) (hs : List V) : Prop where
 at_ : H h = some (.lst hs)
 pr : ∀ v ∈ hs, PrO h H v
theorem Hd.keep {H H' : Hp} {h : Addr} {hs : List V} {W : List Addr} (x : Hd H h hs) (k : Keep W H H') (n : ∀ y ∈ W, ∃ kvs, H y = some (.dK kvs)) : Hd H' h hs := by
 have no : ∀ {y : Addr} {l : List V}, H y = some (.lst l) -> y ∉ W := fun e m => by
  obtain ⟨kvs, g⟩ := n _ m
  rw [e] at g; cases g
 refine ⟨k _ _ x.at_ (no x.at_), fun v hv => ?_⟩
 obtain ⟨q, c, d, ls, e, h1, h2, h3, h4⟩ := x.pr v hv
 exact ⟨q, c, d, ls, e, k _ _ h1 (no h1), k _ _ h2 (no h2), k _ _ h3 (no h3), h4⟩
theorem Hd.same {H H' : Hp} {h : Addr} {hs : List V} (x : Hd H h hs) (s : Same H H') : Hd H' h hs := x.keep (W := []) (Keep.same s) fun _ m => nomatch m
def sp_uD (a : Adr) : Sp := sp3 fun x y h H Q _ => NoT H /\ asR x fun p => asR y fun r => asR h fun hq => ∃ nms d os rs hs, Sd a.av a.aA nms H p d r os rs /\ os.length <= 50 /\ Hd H hq hs /\ hs.length <= 200 /\ (∀ o ∈ os, o.pa ≠ hq) /\ ∀ v H', Keep [hq] H H' -> NoT H' -> Hd H' hq (hs ++ [v]) -> Q (.bl true) H'
theorem mM (T : Txt K mg a) : bz P w K mg base (XE P w) 2 a.cT a.e_ ["_law_budgets", "_law_rows", "_law_held"] (sp_uD a) := by
 refine T.cQ.okX fo (fun vs H Q E h => sp3.len h) (fun cdv A outer s H vs Q E hr h => ?_)
 obtain ⟨x0, x1, x2, rfl, h⟩ := sp3.inv h
 try dsimp only [sp_uD, sp3] at h
 have ND := fo.nd
 have HU := bA hr
 obtain ⟨hN, h1⟩ := h
 obtain ⟨p, rfl, h2⟩ := asR.inv h1
 obtain ⟨r, rfl, h3⟩ := asR.inv h2
 obtain ⟨hq, rfl, nms, d, os, rs, hs, S, l5, hd, lh, off, k⟩ := asR.inv h3
 have sz := szl
 have el : (rs.map kyL).map (fun e => kV e.1) = (rs.map (·.b.nm)).map L2.T := by rw [uY, uY]; rfl
 have pn : (rs.map (·.b.nm)).Perm (os.map (·.nm)) := by
  have := S.pm.map (·.nm)
  rwa [uY] at this
 have lr : rs.length <= 50 := by have := S.pm.length_eq; rw [zl] at this; omega
 have fT : ∀ ls : List (List Nat), (ls.map L2.T).all cj = true := fun ls => by rw [Yq]; exact u9.mpr fun _ _ => rfl
 have G_Budgets_names := @pU P w K mg base a T
 have b_Budgets_names := pd T.jh
 have c3 : ∃ u, PSs (cO (XE P w) P w K mg base ["_law_budgets", "_law_rows", "_law_held", "_law_due", "_law_found"] "_law_names_told" (af bb) a.cT cdv A outer s H E) (Zg 3 (aw bb)) u /\ ∀ l q out H1, H l = none -> H q = none -> l ≠ q -> Same H H1 -> NoT H1 -> H1 l = some (.lst (out.map L2.T)) -> H1 q = some (.lst (out.map L2.T)) -> out.Perm (os.map (·.nm)) -> InO out -> u { nx := fun _ H' => Q .non H', rt := Q } [some (.ref p), some (.ref r), some (.ref hq), some (.ref l), some (.ref q)] H1 := by
  refine ⟨_, (ae (bZ (d5 K nO Zd Ze dy (fv 4) (FA.pa (aa (aq [109, 111, 114, 101]) ad))))
   (ae (bZ (d5 K nO Zd Ze dy (fv 2) (FA.pa (aa (bh (FA.pa (aa (fv 4) (aa (ak nj (fv 3) (bh (FA.pa (aa (aq [109, 111, 114, 101]) ad)))) ad)))) ad))))
   (aj (aD (eg (bf K HU) (uI (fv 0) T.aV T.hJ G_Budgets_names (hr.mono (by decide)) b_Budgets_names .nil aQ) (fv 3) (aW _)))))), fun l q out H1 fl fq nlq s1 N1 gl gq pm io => ?_⟩
  have lo : out.length <= 50 := by have := pm.length_eq; rw [zl] at this; omega
  have nhq : hq ≠ q := ar hd.at_ fq
  have nhl : hq ≠ l := ar hd.at_ fl
  walk_at "rd"
  refine ⟨.inl ⟨_, SqL.of gq⟩, q, _, _, rfl, rfl, gq, by rw [zl]; omega, ?_⟩
  have s2 : Same H (upd H1 q (.lst (out.map L2.T ++ [L2.T [109, 111, 114, 101]]))) := cI s1 fq
  have gl2 : upd H1 q (.lst (out.map L2.T ++ [L2.T [109, 111, 114, 101]])) l = _ := (ay nlq).trans gl
  have gq2 : upd H1 q (.lst (out.map L2.T ++ [L2.T [109, 111, 114, 101]])) q = _ := al
  have N2 : NoT (upd H1 q (.lst (out.map L2.T ++ [L2.T [109, 111, 114, 101]]))) := aS N1 rfl
  generalize upd H1 q (.lst (out.map L2.T ++ [L2.T [109, 111, 114, 101]])) = H2 at s2 gl2 gq2 N2 |-
  walk_at "rd"
  refine ⟨.inl ⟨_, SqL.of (s2 _ _ hd.at_)⟩, by omega, fun p1 f1 => ?_⟩
  obtain ⟨H3, ee, s3, g3, N3⟩ := alloc (o := HO.lst [L2.T [109, 111, 114, 101]]) f1 N2 rfl
  rw [ee]
  refine ⟨_, _, s3 _ _ gl2, g3, by rw [zl]; show out.length + 1 <= sizeLine; omega, fun p2 f2 => ?_⟩
  obtain ⟨H4, ee, s4, g4, N4⟩ := alloc (o := HO.lst (out.map L2.T ++ [L2.T [109, 111, 114, 101]])) f2 N3 rfl
  rw [ee]
  refine ⟨by omega, fun p3 f3 => ?_⟩
  obtain ⟨H5, ee, s5, g5, N5⟩ := alloc (o := HO.lst [V.ref q, V.ref p2]) f3 N4 rfl
  rw [ee]
  have s24 := s3.trans s4
  have s25 := s24.trans s5
  have s05 := s2.trans s25
  have h5 := s05 _ _ hd.at_
  refine ⟨hq, hs, _, rfl, rfl, h5, by omega, ?_⟩
  have k6 : Keep [hq] H5 (upd H5 hq (.lst (hs ++ [.ref p3]))) := Keep.refl.put (.head _)
  have kH : Keep [hq] H (upd H5 hq (.lst (hs ++ [.ref p3]))) := (Keep.same s05).trans k6
  have N6 : NoT (upd H5 hq (.lst (hs ++ [.ref p3]))) := aS N5 rfl
  have n2 : p2 ≠ hq := Ne.symm (ar ((s2.trans s3) _ _ hd.at_) f2)
  have n3 : p3 ≠ hq := Ne.symm (ar ((s2.trans s24) _ _ hd.at_) f3)
  have gl5 := s25 _ _ gl2
  have g6 : upd H5 hq (.lst (hs ++ [.ref p3])) hq = _ := al
  have hd6 : Hd (upd H5 hq (.lst (hs ++ [.ref p3]))) hq (hs ++ [.ref p3]) := by
   refine ⟨al, fun v hv => ?_⟩
   have e4 : out.map L2.T ++ [L2.T [109, 111, 114, 101]] = (out ++ [[109, 111, 114, 101]]).map L2.T := by rw [qc]; rfl
   rw [e4] at g4 gq2
   rcases uO.mp hv with h | h
   ·obtain ⟨x, c, d, ls, e, h1, h2, h3, n1, n2, n3⟩ := hd.pr v h
    exact ⟨x, c, d, ls, e, kH _ _ h1 (by simpa using n1), kH _ _ h2 (by simpa using n2), kH _ _ h3 (by simpa using n3), n1, n2, n3⟩
   ·rw [zY.mp h]
    exact ⟨p3, q, p2, _, rfl, (ay n3).trans g5, (ay (Ne.symm nhq)).trans (s25 _ _ gq2), (ay n2).trans (s5 _ _ g4), n3, Ne.symm nhq, n2⟩
  have gl6 : upd H5 hq (.lst (hs ++ [.ref p3])) l = _ := (ay (Ne.symm nhl)).trans gl5
  generalize upd H5 hq (.lst (hs ++ [.ref p3])) = H6 at k6 kH N6 g6 hd6 gl6 |-
  have S6 := S.sa.keep kH (by obtain ⟨dz, ez⟩ := S.sa.ob; simpa using cS ez hd.at_) (by simpa using cS S.sa.dc hd.at_) fun o ho => by
   have A := S.sa.od o ho
   obtain ⟨dz, ez⟩ := A.ob
   exact ⟨by simpa using cS ez hd.at_, by simpa using cS A.ag.ag hd.at_, by simpa using cS A.ag.wt hd.at_, by simpa using off o ho⟩
  obtain ⟨dx, hp⟩ := S6.ob
  refine ⟨_, _, hp, fO "names" _, N6, d, os, S6, by omega, fun out' pm' io' q1 fq1 => ?_⟩
  have eo : out' = out := rW (pm'.trans pm.symm) io' io
  subst eo
  obtain ⟨H7, ee, s7, g7, N7⟩ := alloc (o := HO.lst (out'.map L2.T)) fq1 N6 rfl
  rw [ee]
  exact ⟨true, EqR.flatL (SqL.of g7) (SqL.of (s7 _ _ gl6)) (fT _), k _ H7 (kH.trans (Keep.same s7)) N7 (hd6.same s7)⟩
 obtain ⟨u3, hu3, c3⟩ := c3
 refine ⟨_, (ae (aE (i := 3) ND rfl (Or.inl rfl) (As rfl rfl T.oE lc (fv 1)))
  (ae (aE (i := 4) ND rfl (Or.inl rfl) (uI (fv 0) T.aV T.hJ G_Budgets_names (hr.mono (by decide)) b_Budgets_names .nil aQ))
  (ae (a9 (L2.PW.pt (qm (cw (bO (aB (bg K) rfl T.aF aC (FA.pa (aa (fv 4) (aa (cF (v := .ty "list") rfl T.gL d_ rfl) ad)))))) (mX (ba (ii K HU) (fv 4) (fv 3) (aW _))))) (aj (aD dk)) aL)
  hu3))), ?_⟩
 walk_at "rd"
 refine ⟨_, _, rs.map (·.b.nm), rfl, S.dc, el, by rw [zl]; omega, fun out pm io l fl => ?_⟩
 obtain ⟨H1, ee, s1, g1, N1⟩ := alloc (o := HO.lst (out.map L2.T)) fl hN rfl
 rw [ee]
 have S1 := S.sa.same s1
 obtain ⟨dx, hp⟩ := S1.ob
 refine ⟨_, _, hp, fO "names" _, N1, d, os, S1, by omega, fun out' pm' io' q fq => ?_⟩
 have pm2 := pm.trans pn
 have eo : out' = out := rW (pm'.trans pm2.symm) io' io
 subst eo
 obtain ⟨H2, ee, s2, g2, N2⟩ := alloc (o := HO.lst (out'.map L2.T)) fq N1 rfl
 rw [ee]
 have kq : aZ H2 (.ref q) = some "list" := by simp [aZ, g2]
 simp only [kq]
 exact itn (by decide) ⟨true, EqR.flatL (SqL.of g2) (SqL.of (s2 _ _ g1)) (fT _), itn (by decide) (c3 l q out' H2 fl (s1.free fq) (ar g1 fq) (s1.trans s2) N2 (s2 _ _ g1) g2 pm2 io)⟩
theorem Sd.keep {S O : Addr} {nms : List (List Nat)} {H H' : Hp} {p d r : Addr} {os : List Bd} {rs : List Lw} {W : List Addr} (x : Sd S O nms H p d r os rs) (k : Keep W H H') (hp : p ∉ W) (hd : d ∉ W) (hr : r ∉ W) (ho : ∀ o ∈ os, o.ob ∉ W /\ o.ag ∉ W /\ o.wt ∉ W /\ o.pa ∉ W) (hq : ∀ y ∈ rs, y.q ∉ W /\ y.w ∉ W) : Sd S O nms H' p d r os rs :=
 ⟨x.sa.keep k hp hd ho, k _ _ x.dc hr, fun y hy => ⟨k _ _ (x.rw y hy).q (hq y hy).1, k _ _ (x.rw y hy).w (hq y hy).2⟩, x.pm, x.ok⟩
def Off (hq : Addr) (os : List Bd) (rs : List Lw) : Prop := (∀ o ∈ os, o.pa ≠ hq) /\ ∀ y ∈ rs, y.q ≠ hq /\ y.w ≠ hq
theorem Sd.held {S O : Addr} {nms : List (List Nat)} {H H' : Hp} {p d r hq : Addr} {os : List Bd} {rs : List Lw} {hs : List V} (x : Sd S O nms H p d r os rs) (k : Keep [hq] H H') (hh : H hq = some (.lst hs)) (of : Off hq os rs) : Sd S O nms H' p d r os rs := by
 obtain ⟨dx, ep⟩ := x.sa.ob
 refine x.keep k (by simpa using cS ep hh) (by simpa using cS x.sa.dc hh) (by simpa using cS x.dc hh) (fun o ho => ?_) fun y hy => ⟨by simpa using (of.2 y hy).1, by simpa using (of.2 y hy).2⟩
 have A := x.sa.od o ho
 obtain ⟨dz, ez⟩ := A.ob
 exact ⟨by simpa using cS ez hh, by simpa using cS A.ag.ag hh, by simpa using cS A.ag.wt hh, by simpa using of.1 o ho⟩
structure Two (S O : Addr) (nms : List (List Nat)) (H : Hp) (hq : Addr) (p1 d1 r1 : Addr) (os1 : List Bd) (rs1 : List Lw) (p2 d2 r2 : Addr) (os2 : List Bd) (rs2 : List Lw) (n : Nat) : Prop where
 s1 : Sd S O nms H p1 d1 r1 os1 rs1
 s2 : Sd S O nms H p2 d2 r2 os2 rs2
 o1 : Off hq os1 rs1
 o2 : Off hq os2 rs2
 l1 : os1.length <= n
 l2 : os2.length <= n
theorem Two.held {S O : Addr} {nms : List (List Nat)} {H H' : Hp} {hq p1 d1 r1 p2 d2 r2 : Addr} {os1 os2 : List Bd} {rs1 rs2 : List Lw} {n : Nat} {hs : List V} (x : Two S O nms H hq p1 d1 r1 os1 rs1 p2 d2 r2 os2 rs2 n) (k : Keep [hq] H H') (hh : H hq = some (.lst hs)) : Two S O nms H' hq p1 d1 r1 os1 rs1 p2 d2 r2 os2 rs2 n :=
 ⟨x.s1.held k hh x.o1, x.s2.held k hh x.o2, x.o1, x.o2, x.l1, x.l2⟩
theorem Two.same {S O : Addr} {nms : List (List Nat)} {H H' : Hp} {hq p1 d1 r1 p2 d2 r2 : Addr} {os1 os2 : List Bd} {rs1 rs2 : List Lw} {n : Nat} (x : Two S O nms H hq p1 d1 r1 os1 rs1 p2 d2 r2 os2 rs2 n) (s : Same H H') : Two S O nms H' hq p1 d1 r1 os1 rs1 p2 d2 r2 os2 rs2 n :=
 ⟨x.s1.same s, x.s2.same s, x.o1, x.o2, x.l1, x.l2⟩
def sp_zR (a : Adr) : Sp := sp3 fun x y h H Q _ => NoT H /\ asR x fun bq => asR y fun rq => asR h fun hq => ∃ nms p1 d1 r1 os1 rs1 p2 d2 r2 os2 rs2 hs, H bq = some (.lst [.ref p1, .ref p2]) /\ H rq = some (.lst [.ref r1, .ref r2]) /\ bq ≠ hq /\ rq ≠ hq /\ Two a.av a.aA nms H hq p1 d1 r1 os1 rs1 p2 d2 r2 os2 rs2 50 /\ Hd H hq hs /\ hs.length <= 198 /\ ∀ v1 v2 H', Keep [hq] H H' -> NoT H' -> Hd H' hq (hs ++ [v1, v2]) -> Q (.bl true) H'
theorem nU (T : Txt K mg a) : bz P w K mg base (XE P w) 3 a.d4 a.gv ["_law_both", "_law_rows", "_law_held"] (sp_zR a) := by
 refine T.df.okX nY (fun vs H Q E h => sp3.len h) (fun cdv A outer s H vs Q E hr h => ?_)
 obtain ⟨x0, x1, x2, rfl, h⟩ := sp3.inv h
 try dsimp only [sp_zR, sp3] at h
 obtain ⟨hN, h1⟩ := h
 obtain ⟨bq, rfl, h2⟩ := asR.inv h1
 obtain ⟨rq, rfl, h3⟩ := asR.inv h2
 obtain ⟨hq, rfl, nms, p1, d1, r1, os1, rs1, p2, d2, r2, os2, rs2, hs, gb, gr, nb, nr, X, hd, lh, k⟩ := asR.inv h3
 have G__law_names_told := @mM P w K mg base a T
 have b__law_names_told := mU T.cQ
 refine ⟨_, (aj (aD (dS (au G__law_names_told (hr.mono (by decide)) rfl T.gm T.cQ.kp b__law_names_told .nil aQ (FA.pa (aa (aH (ao K) (fv 0) ac (fun _ _ => rfl)) (aa (aH (ao K) (fv 1) ac (fun _ _ => rfl)) (aa (fv 2) ad))))) (eO (au G__law_names_told (hr.mono (by decide)) rfl T.gm T.cQ.kp b__law_names_told .nil aQ (FA.pa (aa (aH (ao K) (fv 0) ac (fun _ _ => rfl)) (aa (aH (ao K) (fv 1) ac (fun _ _ => rfl)) (aa (fv 2) ad))))))))), ?_⟩
 walk_at "rd"
 refine ⟨_, _, sqa gb, rfl, _, _, sqa gr, rfl, hN, ?_⟩
 show ∃ nms d os rs hs, _
 refine ⟨nms, d1, os1, rs1, hs, X.s1, X.l1, hd, by omega, X.o1.1, fun v H1 k1 N1 hd1 => ⟨_, _, sqa (k1 _ _ gb (by simpa using nb)), rfl, _, _, sqa (k1 _ _ gr (by simpa using nr)), rfl, N1, ?_⟩⟩
 show ∃ nms d os rs hs, _
 refine ⟨nms, d2, os2, rs2, hs ++ [v], (X.held k1 hd.at_).s2, X.l2, hd1, by rw [uf]; show hs.length + 1 <= 200; omega, X.o2.1, fun v2 H2 k2 N2 hd2 => k v v2 H2 (k1.trans k2) N2 (by rw [List.append_assoc] at hd2; exact hd2)⟩
open K5 K17
structure Go (S O : Addr) (nms : List (List Nat)) (H H' : Hp) (p d r : Addr) (os : List Bd) (rs : List Lw) (os' : List Bd) (rs' : List Lw) : Prop where
 sd : Sd S O nms H' p d r os' rs'
 ln : os'.length <= os.length + 1
 kp : Keep [d, r] H H'
 nT : NoT H'
 no : ∀ o ∈ os', o ∈ os \/ H o.pa = none
 nr : ∀ y ∈ rs', y ∈ rs \/ (H y.q = none /\ H y.w = none)
theorem Go.off {S O : Addr} {nms : List (List Nat)} {H H' : Hp} {p d r : Addr} {os os' : List Bd} {rs rs' : List Lw} (x : Go S O nms H H' p d r os rs os' rs') {hq : Addr} {o : HO} (hh : H hq = some o) (of : Off hq os rs) : Off hq os' rs' := by
 refine ⟨fun o ho => ?_, fun y hy => ?_⟩
 ·rcases x.no o ho with h | h
  ·exact of.1 o h
  ·exact Ne.symm (ar hh h)
 ·rcases x.nr y hy with h | h
  ·exact of.2 y h
  ·exact ⟨Ne.symm (ar hh h.1), Ne.symm (ar hh h.2)⟩
theorem no2 {H : Hp} {d r y : Addr} {o : HO} {k1 k2 : List (Key × V)} (hd : H d = some (.dK k1)) (hr : H r = some (.dK k2)) (e : H y = some o) (n : ∀ l, o ≠ .dK l) : y ∉ [d, r] := fun z => by
 rcases ve.mp z with rfl | z
 ·exact cS e hd (n _) rfl
 ·exact cS e hr (n _) (zY.mp z)
theorem Sd.fin {S O : Addr} {nms : List (List Nat)} {H G : Hp} {p d r : Addr} {os os' : List Bd} {rs rs' : List Lw} (x : Sd S O nms H p d r os rs) (k : Keep [d, r] H G) (sa : SAt S O G p d os') (dc : G r = some (.dK (rs'.map kyL))) (hr : ∀ y ∈ rs', y ∈ rs \/ (LAt G y.q y.w y.b /\ GOk nms y.b)) (pm : (rs'.map (·.b)).Perm os') : Sd S O nms G p d r os' rs' := by
 refine ⟨sa, dc, fun y hy => ?_, pm, fun y hy => ?_⟩
 ·rcases hr y hy with h | h
  ·have A := x.rw y h
   exact ⟨k _ _ A.q (no2 x.sa.dc x.dc A.q (by intro _ z; cases z)), k _ _ A.w (no2 x.sa.dc x.dc A.w (by intro _ z; cases z))⟩
  ·exact h.1
 ·rcases hr y hy with h | h
  ·exact x.ok y h
  ·exact h.2
theorem jG {nms : List (List Nat)} {b : Bd} (B : GOk nms b) {H : Hp} {wq : Addr} (h : H wq = some (.lst (b.ws.map V.int))) : TOk H (tmO b wq) :=
 ⟨⟨fB (BQ B.nn), _, rfl⟩, ⟨nJ ⟨B.pl.1, by have := B.pl.2; omega⟩, _, rfl⟩, ⟨fB (yw B.cu), _, rfl⟩, ⟨_, rfl⟩, ⟨_, rfl⟩, ⟨_, rfl⟩, (om B h).1⟩
theorem nK {nms : List (List Nat)} {b : Bd} (B : GOk nms b) {H : Hp} {wq : Addr} (h : H wq = some (.lst (b.ws.map V.int))) (bs : List Bd) : duB H bs (tmO b wq) = if (fnd bs b.nm).isSome = true then 6 else 8 := by
 have a0 : nameV (L2.T b.nm) = true := B.nn
 have a1 : je (L2.T b.pt) = true := B.pt
 have a2 : sM (L2.T b.cu) = true := B.cu
 have a6 : shV H (tmO b wq) = true := by
  unfold shV tmO
  dsimp only
  rw [jH h]
  show (wOk (b.ws.map V.int) && decide (((b.ws.map V.int).length : Int) = b.l - b.f + 1)) = true
  rw [zl, decide_eq_true B.ln, Gm B]; rfl
 unfold duB
 rw [if_pos (show nameV (tmO b wq).n = true from a0), if_pos (show je (tmO b wq).p = true from a1), if_pos (show sM (tmO b wq).c = true from a2), if_pos (show mns (tmO b wq).f (tmO b wq).l = true from Aj B), if_pos (show amg (tmO b wq).t _ _ = true from zO B), if_pos a6]
 rfl
theorem BOf.eq {H : Hp} {b b' : Bd} {wq : Addr} (B : BOf H (tmO b wq) b') (h : H wq = some (.lst (b.ws.map V.int))) : ∃ ob ag wt pa, b' = { b with ob := ob, ag := ag, wt := wt, pa := pa } := by
 obtain ⟨nm', ob, ag, wt, pa, pt', cu', f', l', t', ws'⟩ := b'
 obtain ⟨e1, e2, e3, e4, e5, e6, e7, _⟩ := B
 unfold tmO at e1 e2 e3 e4 e5 e6 e7
 dsimp only at e1 e2 e3 e4 e5 e6 e7
 rw [jH h] at e7
 injection e7 with e7
 have e7 : b.ws = ws' := (List.map_inj_right (f := V.int) fun a b h => V.int.inj h).mp e7
 cases e1; cases e2; cases e3; cases e4; cases e5; cases e6; cases e7
 exact ⟨ob, ag, wt, pa, rfl⟩
theorem GOk.b_ {nms : List (List Nat)} {b : Bd} (B : GOk nms b) (ob ag wt pa : Addr) : GOk nms { b with ob := ob, ag := ag, wt := wt, pa := pa } := ⟨B.mn, B.nn, B.pt, B.pl, B.cu, B.fl, B.tt, B.ws, B.ln⟩
theorem LAt.b_ {H : Hp} {q wq : Addr} {b : Bd} (x : LAt H q wq b) (ob ag wt pa : Addr) : LAt H q wq { b with ob := ob, ag := ag, wt := wt, pa := pa } := ⟨x.q, x.w⟩
theorem Go.put {S O : Addr} {nms : List (List Nat)} {H H0 H1 G : Hp} {p d r q wq hw : Addr} {os : List Bd} {rs : List Lw} {b b' : Bd} (x : Sd S O nms H p d r os rs) (s0 : Same H H0) (hdr : d ≠ r) (e1 : H1 = upd H0 r (.dK (fG (rs.map kyL) (.inr ⟨⟨b.nm⟩⟩) (.ref q)))) (fn : fnd os b.nm = none) (La : LAt H0 q wq b) (B : GOk nms b) (fq : H q = none) (fw : H wq = none)
 (gw : H1 hw = some (.lst (b.ws.map V.int))) (bo : BOf H1 (tmO b hw) b') (fp : H1 b'.pa = none) (sa : SAt S O G p d (os ++ [b'])) (kp : Keep [d] H1 G) (nT : NoT G) : Go S O nms H G p d r os rs (os ++ [b']) (rs ++ [⟨q, wq, b'⟩]) := by
 have x0 := x.same s0
 have k1 : Keep [d, r] H0 H1 := by rw [e1]; exact Keep.refl.put (.tail _ (.head _))
 have kG : Keep [d, r] H0 G := k1.trans (kp.mono fun c hc => by rw [zY.mp hc]; exact .head _)
 obtain ⟨ob, ag, wt, pa, eb⟩ := bo.eq gw
 have LG : LAt G q wq b := ⟨kG _ _ La.q (no2 x0.sa.dc x0.dc La.q (by intro _ z; cases z)), kG _ _ La.w (no2 x0.sa.dc x0.dc La.w (by intro _ z; cases z))⟩
 have fr : h8 rs b.nm = none := by
  have := x.fnd b.nm
  rw [fn] at this
  cases e : h8 rs b.nm with
  | none => rfl
  | some y => rw [e] at this; cases this
 have ep : fG (rs.map kyL) (.inr ⟨⟨b.nm⟩⟩) (.ref q) = (rs ++ [(⟨q, wq, b'⟩ : Lw)]).map kyL := by
  rw [xl _ (by rw [oR, fr]; rfl), qc, eb]; rfl
 rw [ep] at e1
 have f0 : ∀ {c : Addr}, H1 c = none -> H0 c = none := fun {c} h => by
  by_cases e : c = r
  ·rw [e, e1, al] at h; cases h
  ·rw [e1, ay e] at h; exact h
 refine ⟨x0.fin kG sa ?_ (fun y hy => ?_) ?_, by rw [uf]; exact zR _, (Keep.same s0).trans kG, nT, fun o ho => ?_, fun y hy => ?_⟩
 ·exact kp _ _ (by rw [e1, al]) (by simpa using Ne.symm hdr)
 ·rcases uO.mp hy with h | h
  ·exact .inl h
  ·rw [zY.mp h]; dsimp only
   rw [eb]
   exact .inr ⟨LG.b_ .., B.b_ ..⟩
 ·rw [qc]; exact x.pm.append_right _
 ·rcases uO.mp ho with h | h
  ·exact .inl h
  ·rw [zY.mp h]; exact .inr (s0.free (f0 fp))
 ·rcases uO.mp hy with h | h
  ·exact .inl h
  ·rw [zY.mp h]; exact .inr ⟨fq, fw⟩
theorem Go.stay {S O : Addr} {nms : List (List Nat)} {H H' : Hp} {p d r : Addr} {os : List Bd} {rs : List Lw} (x : Sd S O nms H p d r os rs) (s : Same H H') (n : NoT H') : Go S O nms H H' p d r os rs os rs :=
 ⟨x.same s, ZC _, Keep.same s, n, fun _ h => .inl h, fun _ h => .inl h⟩
theorem Hn (n : Nat) (c : Int) : (vd n [V.int c]).flatten = (vd n c).map V.int := by
 rw [List.map_replicate]
 induction n with
 | zero => rfl
 | succ n ih => rw [Zj, Z0, ih, Zj]; rfl
theorem Go.pre {S O : Addr} {nms : List (List Nat)} {H H1 H' : Hp} {p d r : Addr} {os os' : List Bd} {rs rs' : List Lw} (s : Same H H1) (x : Go S O nms H1 H' p d r os rs os' rs') : Go S O nms H H' p d r os rs os' rs' :=
 ⟨x.sd, x.ln, (Keep.same s).trans x.kp, x.nT, fun o ho => (x.no o ho).imp id s.free, fun y hy => (x.nr y hy).imp id fun h => ⟨s.free h.1, s.free h.2⟩⟩
def sp_vd (a : Adr) : Sp := sp3 fun x y z H Q _ => NoT H /\ asR x fun p => asR y fun r => asR z fun tq => ∃ nms d os rs b w0 xs, Sd a.av a.aA nms H p d r os rs /\ d ≠ r /\ os.length <= 49 /\ GOk nms b /\ H tq = some (.lst (tmO b w0).vs) /\ H w0 = some (.lst xs) /\ xs.length <= 4000 /\ xs.all cj = true /\ (∀ bs, duB H bs (tmO b w0) = 5) /\ ∀ os' rs' H', Go a.av a.aA nms H H' p d r os rs os' rs' -> Q (.bl true) H'
theorem sj (T : Txt K mg a) : bz P w K mg base (XE P w) 8 a.eB a.kW ["_law_budgets", "_law_rows", "_law_terms_here"] (sp_vd a) := by
 refine T.gS.okX jD (fun vs H Q E h => sp3.len h) (fun cdv A outer s H vs Q E hr h => ?_)
 obtain ⟨x0, x1, x2, rfl, h⟩ := sp3.inv h
 try dsimp only [sp_vd, sp3] at h
 have ND := jD.nd
 have HU := bA hr
 obtain ⟨hN, h1⟩ := h
 obtain ⟨p, rfl, h2⟩ := asR.inv h1
 obtain ⟨r, rfl, h3⟩ := asR.inv h2
 obtain ⟨tq, rfl, nms, d, os, rs, b, w0, xs, S, hdr, lo, B, gt, gw, lx, fx, du, k⟩ := asR.inv h3
 have sz : 4000 < sizeLine := by rw [uT]; decide
 have gt : H tq = some (.lst [L2.T b.nm, L2.T b.pt, L2.T b.cu, .int b.f, .int b.l, .int b.t, .ref w0]) := gt
 have ht := sqa (K := K) gt
 have G__law_word_of := @qM P w K mg base a T
 have b__law_word_of := qD T.dI
 have c4 : ∃ u, PSs (cO (XE P w) P w K mg base ["_law_budgets", "_law_rows", "_law_terms_here", "_law_handed", "_law_due"] "_law_mended" (af bF) a.eB cdv A outer s H E) (Zg 4 (aw bF)) u /\ ∀ hq (b1 : Bd) H1, Same H H1 -> NoT H1 -> H hq = none -> GOk nms b1 -> b1 = { b with ws := b1.ws } -> H1 hq = some (.lst (b1.ws.map V.int)) -> u { nx := fun _ H' => Q .non H', rt := Q } [some (.ref p), some (.ref r), some (.ref tq), some (.ref hq), none] H1 := by
  refine ⟨_, (ae (aE (i := 4) ND rfl (Or.inl rfl) (aq [100, 111, 110, 101]))
   (ae (a9 (sJ (yS (Zv HU) (aH (ao K) (fv 2) ac (fun _ _ => rfl)) (fv 1)) (by with_unfolding_all rfl)) (aj (aE (i := 4) ND rfl (Or.inl rfl) (aq [116, 119, 105, 99, 101]))) (aj (qU (Zv HU) (fv 1) (aH (ao K) (fv 2) ac (fun _ _ => rfl)) (ak nj (cY (fj K) (fv 2) dN (dP ac)) (bh (FA.pa (aa (dB (oV K) rfl T.gL d_ (FA.pa (aa (fv 3) ad))) ad)))) rfl)))
   (aj (aD (eg (bf K HU) (au G__law_word_of (hr.mono (by decide)) rfl T.kJ T.dI.kp b__law_word_of .nil aQ (FA.pa (aa (fv 0) (aa (fv 2) (aa (fv 3) ad))))) (fv 4) (aW _)))))), fun hq b1 H1 s1 N1 fh B1 eb gh => ?_⟩
  have S1 := S.same s1
  have ht1 := sqa (K := K) (s1 _ _ gt)
  have g := S1.get b.nm
  have ef := S1.fnd b.nm
  walk_at "rd"
  refine ⟨_, _, ht1, rfl, _, _, rfl, g, ?_⟩
  rw [ZA]
  have eb1 : b1.nm = b.nm := by rw [eb]
  have gt1 : H1 tq = some (.lst [(tmO b1 hq).n, (tmO b1 hq).p, (tmO b1 hq).c, (tmO b1 hq).f, (tmO b1 hq).l, (tmO b1 hq).t, .ref w0]) := by rw [eb]; exact s1 _ _ gt
  cases e : h8 rs b.nm with
  | some y =>
   rw [e] at ef
   have d1 := nK B1 gh os
   rw [eb1, ef] at d1
   have d1 : duB H1 os (tmO b1 hq) = 6 := d1
   refine itp rfl ⟨N1, d, os, tmO b1 hq, _, rfl, gt1, jG B1 gh, S1.sa, by omega, fun _ H2 s2 N2 => ?_, fun z => ?_⟩
   ·rw [d1]
    exact k os rs H2 (Go.stay S (s1.trans s2) N2)
   ·rw [d1] at z; cases z
  | none =>
   rw [e] at ef
   refine itn (by intro z; cases z) ⟨tq, _, rfl, SqL.of (s1 _ _ gt), fun q1 f1 => ?_⟩
   rw [kQ _ (by decide)]
   obtain ⟨H2, ee, s2, g2, N2⟩ := alloc (o := HO.lst ([L2.T b.nm, L2.T b.pt, L2.T b.cu, .int b.f, .int b.l, .int b.t, .ref w0].take (YT 6))) f1 N1 rfl
   rw [ee]
   refine ⟨_, .inl (SqL.of (s2 _ _ gh)), fun q2 f2 => ⟨by omega, fun q3 f3 => ?_⟩⟩
   obtain ⟨H3, ee, s3, g3, N3⟩ := alloc (o := HO.lst (b1.ws.map V.int)) f2 N2 rfl
   rw [ee] at f3 |-
   obtain ⟨H4, ee, s4, g4, N4⟩ := alloc (o := HO.lst [V.ref q2]) f3 N3 rfl
   rw [ee]
   refine ⟨_, _, (s3.trans s4) _ _ g2, g4, by show 6 + 1 <= sizeLine; omega, fun q5 f5 => ?_⟩
   obtain ⟨H5, ee, s5, g5, N5⟩ := alloc (o := HO.lst ([L2.T b.nm, L2.T b.pt, L2.T b.cu, .int b.f, .int b.l, .int b.t, .ref w0].take (YT 6) ++ [V.ref q2])) f5 N4 rfl
   rw [ee]
   have s15 := s2.trans (s3.trans (s4.trans s5))
   have s05 := s1.trans s15
   have S5 := S.same s05
   have e5 : [L2.T b.nm, L2.T b.pt, L2.T b.cu, .int b.f, .int b.l, .int b.t, .ref w0].take (YT 6) ++ [V.ref q2] = [L2.T b1.nm, L2.T b1.pt, L2.T b1.cu, .int b1.f, .int b1.l, .int b1.t, .ref q2] := by rw [eb]; rfl
   rw [e5] at g5
   refine ⟨_, _, sqa (s05 _ _ gt), rfl, r, _, rfl, DPut.k (k := .inr ⟨⟨b.nm⟩⟩) S5.dc (by rw [zl]; have := S.pm.length_eq; rw [zl] at this; omega), ?_⟩
   obtain ⟨H6, e6⟩ : ∃ H6, H6 = upd H5 r (.dK (fG (rs.map kyL) (.inr ⟨⟨b.nm⟩⟩) (.ref q5))) := ⟨_, rfl⟩
   have N6 : NoT H6 := by rw [e6]; exact aS N5 rfl
   have k6 : Keep [r] H5 H6 := by rw [e6]; exact Keep.refl.put (.head _)
   rw [<- e6]
   have nr : ∀ {y : Addr} {o : HO}, H5 y = some o -> (∀ l, o ≠ .dK l) -> y ∉ [r] := fun e n m => cS e S5.dc (fun q => n _ q) (zY.mp m)
   have gh6 : H6 hq = some (.lst (b1.ws.map V.int)) := k6 _ _ (s15 _ _ gh) (nr (s15 _ _ gh) (by intro _ z; cases z))
   have gt6 := k6 _ _ (s15 _ _ gt1) (nr (s15 _ _ gt1) (by intro _ z; cases z))
   obtain ⟨dx, ep⟩ := S5.sa.ob
   have J6 := S5.sa.keep k6 (nr ep (by intro _ z; cases z)) (by simpa using hdr) fun o ho => by
    have A := S5.sa.od o ho
    obtain ⟨dz, ez⟩ := A.ob
    exact ⟨nr ez (by intro _ z; cases z), nr A.ag.ag (by intro _ z; cases z), nr A.ag.wt (by intro _ z; cases z), nr A.pa (by intro _ z; cases z)⟩
   have d6 := nK B1 gh6 os
   rw [eb1, ef] at d6
   have d6 : duB H6 os (tmO b1 hq) = 8 := d6
   refine ⟨N6, d, os, tmO b1 hq, _, rfl, gt6, jG B1 gh6, J6, by omega, fun z => ?_, fun _ b' G bo _ fp sa kp nT => ?_⟩
   ·rw [d6] at z; exact absurd z (by decide)
   rw [decide_eq_true trivial]
   refine k _ _ G (Go.put (q := q5) (wq := q2) (b := b1) S s05 hdr (by rw [eb1]; exact e6) (by rw [eb1]; exact ef) ⟨g5, (s4.trans s5) _ _ g3⟩ B1 ((s1.trans (s2.trans (s3.trans s4))).free f5) ((s1.trans s2).free f2) gh6 bo fp sa kp nT)
 obtain ⟨u4, hu4, c4⟩ := c4
 refine ⟨_, (ae (aE (i := 3) ND rfl (Or.inl rfl) (dB (oV K) rfl T.gL d_ (FA.pa (aa (aH (ao K) (fv 2) ac (fun _ _ => rfl)) ad))))
  (ae (a9 (L2.PW.pt (qm (ba (ii K HU) (au G__law_word_of (hr.mono (by decide)) rfl T.kJ T.dI.kp b__law_word_of .nil aQ (FA.pa (aa (fv 0) (aa (fv 2) (aa (fv 3) ad))))) (aq [115, 104, 97, 114, 101]) (aW _)) (mX (ba (ii K HU) (fv 3) (aH (ao K) (fv 2) ac (fun _ _ => rfl)) (aW _))))) (aj (aD dk)) aL)
  (ae (bZ (DM K nO PySem.F.slot_list_clear PySem.F.type_list_clear B8 (fv 3)))
  (ae (bZ (d5 K nO PySem.F.slot_list_extend PySem.F.type_list_extend DQ (fv 3) (FA.pa (aa (ak ww (bh (FA.pa (aa ac ad))) (ak aY (ak cC (aH (ao K) (fv 2) ac (fun _ _ => rfl)) (aH (ao K) (fv 2) ac (fun _ _ => rfl))) ac)) ad))))
  hu4)))), ?_⟩
 walk_at "rd"
 refine ⟨_, _, ht, rfl, ?_⟩
 walk_at "rd"
 refine ⟨_, .inl (SqL.of gw), fun hq fh => ?_⟩
 obtain ⟨H1, ee, s1, g1, N1⟩ := alloc (o := HO.lst xs) fh hN rfl
 rw [ee]
 have ew : wlV H1 (.ref hq) = wlV H (tmO b w0).w := by rw [jH g1]; exact (jH gw).symm
 have d1 : duB H1 os (tmO b hq) = 5 := (EF (x := tmO b w0) (bs := os) ew).trans (du os)
 have tk : TOk H1 (tmO b hq) := ⟨⟨fB (BQ B.nn), _, rfl⟩, ⟨nJ ⟨B.pl.1, by have := B.pl.2; omega⟩, _, rfl⟩, ⟨fB (yw B.cu), _, rfl⟩, ⟨_, rfl⟩, ⟨_, rfl⟩, ⟨_, rfl⟩, .inl ⟨hq, xs, rfl, g1, lx, fun y hy => vQ (u9.mp fx y hy)⟩⟩
 walk_at "rd"
 refine ⟨N1, d, os, tmO b hq, _, rfl, s1 _ _ gt, tk, S.sa.same s1, by omega, fun _ H2 s2 N2 => ?_, fun z => absurd (d1.symm.trans z) (by decide)⟩
 rw [d1]
 have s12 := s1.trans s2
 refine itp rfl ⟨_, _, sqa (s12 _ _ gt), rfl, ?_⟩
 walk_at "rd"
 refine ⟨true, EqR.flatL (SqL.of (s2 _ _ g1)) (SqL.of (s12 _ _ gw)) fx, itn (by decide) ⟨.inl ⟨_, SqL.of (s2 _ _ g1)⟩, hq, xs, rfl, s2 _ _ g1, ?_⟩⟩
 have s3 : Same H (upd H2 hq (.lst [])) := cI s12 fh
 have g3 : upd H2 hq (.lst []) hq = _ := al
 have N3 : NoT (upd H2 hq (.lst [])) := aS N2 rfl
 generalize upd H2 hq (.lst []) = H3 at s3 g3 N3 |-
 walk_at "rd"
 have bl := B.ln
 have bw := B.ws
 refine ⟨.inl ⟨_, SqL.of g3⟩, by omega, fun p1 f1 => ?_⟩
 obtain ⟨H4, ee, s4, g4, N4⟩ := alloc (o := HO.lst [V.int 1]) f1 N3 rfl
 rw [ee]
 have s04 := s3.trans s4
 refine ⟨_, _, sqa (s04 _ _ gt), rfl, _, _, sqa (s04 _ _ gt), rfl, ?_⟩
 walk_at "rd"
 refine ⟨_, g4, by omega, by omega, by show 1 * _ <= sizeLine; omega, fun p2 f2 => ?_⟩
 rw [Hn]
 obtain ⟨H5, ee, s5, g5, N5⟩ := alloc (o := HO.lst ((vd (b.l - b.f + 1).toNat 1).map V.int)) f2 N4 rfl
 rw [ee]
 have s05 := s04.trans s5
 refine ⟨hq, p2, _, _, rfl, rfl, (s4.trans s5) _ _ g3, g5, by rw [zl, ZG]; show 0 + _ <= sizeLine; omega, ?_⟩
 have hm : ∀ x ∈ vd (b.l - b.f + 1).toNat (1 : Int), x = 1 := fun x hx => (List.mem_replicate.mp hx).2
 refine c4 hq { b with ws := vd (b.l - b.f + 1).toNat 1 } _ (cI s05 fh) (aS N5 rfl) fh ⟨B.mn, B.nn, B.pt, B.pl, B.cu, B.fl, B.tt, ⟨fun x hx => by rw [hm x hx]; decide, ?_, ?_, ?_⟩, ?_⟩ rfl al
 ·show 1 <= (vd _ _).length
  rw [ZG]; omega
 ·show (vd _ _).length <= 60
  rw [ZG]; omega
 ·exact zV (fun x hx => by rw [hm x hx]; decide) (List.mem_replicate.mpr ⟨by omega, rfl⟩ : (1 : Int) ∈ vd (b.l - b.f + 1).toNat 1) (by decide)
 ·show ((vd _ _).length : Int) = b.l - b.f + 1
  rw [ZG]; omega
open K5 K17
theorem SAt.rows {S O : Addr} {H H' : Hp} {p d r : Addr} {os : List Bd} {kvs : List (Key × V)} (x : SAt S O H p d os) (k : Keep [r] H H') (hr : H r = some (.dK kvs)) (hdr : d ≠ r) : SAt S O H' p d os := by
 have nr : ∀ {y : Addr} {o : HO}, H y = some o -> (∀ l, o ≠ .dK l) -> y ∉ [r] := fun e n m => cS e hr (fun q => n _ q) (zY.mp m)
 obtain ⟨dx, ep⟩ := x.ob
 refine x.keep k (nr ep (by intro _ z; cases z)) (by simpa using hdr) fun o ho => ?_
 have A := x.od o ho
 obtain ⟨dz, ez⟩ := A.ob
 exact ⟨nr ez (by intro _ z; cases z), nr A.ag.ag (by intro _ z; cases z), nr A.ag.wt (by intro _ z; cases z), nr A.pa (by intro _ z; cases z)⟩
theorem uL {b' : Bd} {n : List Nat} : ∀ {L : List Bd}, (L.map (·.nm)).Nodup -> (∃ o ∈ L, o.nm = n) -> (L.map fun o => if o.nm = n then b' else o).Perm (L.filter (fun o => decide (o.nm ≠ n)) ++ [b'])
 | [], _, h => by obtain ⟨_, m, _⟩ := h; cases m
 | o :: L, hn, h => by
  rw [ud, Yt] at hn
  by_cases e : o.nm = n
  ·have hL : ∀ x ∈ L, x.nm ≠ n := fun x hx z => hn.1 (by rw [e, <- z]; exact ZL hx)
   have e1 : (L.map fun o => if o.nm = n then b' else o) = L := by
    refine (Zs fun x hx => if_neg (hL x hx)).trans (List.map_id' L)
   have e2 : L.filter (fun o => decide (o.nm ≠ n)) = L := ZU.mpr fun x hx => decide_eq_true (hL x hx)
   rw [ud, if_pos e, List.filter_cons_of_neg (by simp [e]), e1, e2]
   exact (List.perm_append_singleton b' L).symm
  ·rw [ud, if_neg e, List.filter_cons_of_pos (by simp [e]), Z9]
   refine (uL hn.2 ?_).cons o
   obtain ⟨x, m, ex⟩ := h
   rcases ve.mp m with rfl | m
   ·exact absurd ex e
   ·exact ⟨x, m, ex⟩
theorem Dt {os : List Bd} {n : List Nat} : fnd (os.filter fun o => decide (o.nm ≠ n)) n = none := by
 cases e : fnd (os.filter fun o => decide (o.nm ≠ n)) n with
 | none => rfl
 | some o =>
  obtain ⟨m, z⟩ := gE e
  have := (Z3.mp m).2
  simp [z] at this
theorem Go.drop {S O : Addr} {nms : List (List Nat)} {H G : Hp} {p d r : Addr} {os : List Bd} {rs : List Lw} {n : List Nat} (x : Sd S O nms H p d r os rs) (hdr : d ≠ r) (sa : SAt S O G p d (os.filter fun o => decide (o.nm ≠ n))) (kp : Keep [d] H G) (nT : NoT G) :
 G r = some (.dK (rs.map kyL)) /\ Go S O nms H (upd G r (.dK (k7 (rs.map kyL) (.inr ⟨⟨n⟩⟩)))) p d r os rs (os.filter fun o => decide (o.nm ≠ n)) (rs.filter fun y => decide (y.b.nm ≠ n)) := by
 have gr : G r = some (.dK (rs.map kyL)) := kp _ _ x.dc (by simpa using Ne.symm hdr)
 have ed : k7 (rs.map kyL) (.inr ⟨⟨n⟩⟩) = (rs.filter fun y => decide (y.b.nm ≠ n)).map kyL := by
  unfold k7
  rw [YW]
  congr 1
  apply List.filter_congr
  intro y _
  show decide ((Sum.inr ⟨⟨y.b.nm⟩⟩ : Key) ≠ Sum.inr ⟨⟨n⟩⟩) = decide (y.b.nm ≠ n)
  exact decide_eq_decide.mpr ⟨fun h z => h (by rw [z]), fun h z => h (by cases z; rfl)⟩
 rw [ed]
 refine ⟨gr, ?_⟩
 have kr : Keep [r] G (upd G r (.dK ((rs.filter fun y => decide (y.b.nm ≠ n)).map kyL))) := Keep.refl.put (.head _)
 have kG : Keep [d, r] H (upd G r (.dK ((rs.filter fun y => decide (y.b.nm ≠ n)).map kyL))) := (kp.mono fun c hc => by rw [zY.mp hc]; exact .head _).trans (kr.mono fun c hc => .tail _ hc)
 refine ⟨x.fin kG (sa.rows kr gr hdr) al (fun y hy => .inl (Z3.mp hy).1) ?_, YM (ZS _ _), kG, aS nT rfl, fun o ho => .inl (Z3.mp ho).1, fun y hy => .inl (Z3.mp hy).1⟩
 have := x.pm.filter fun o => decide (o.nm ≠ n)
 rwa [YW] at this
theorem Go.swap {S O : Addr} {nms : List (List Nat)} {H H1 H2 H3 G : Hp} {p d r q wq : Addr} {os : List Bd} {rs : List Lw} {y : Lw} {b b' : Bd} (x : Sd S O nms H p d r os rs) (s1 : Same H H1) (hdr : d ≠ r) (La : LAt H1 q wq b) (B : GOk nms b) (fq : H q = none) (fw : H wq = none) (ey : h8 rs b.nm = some y) (kp1 : Keep [d] H1 H2) {od : HO} (gd2 : H2 d = some od)
 (e3 : H3 = upd H2 r (.dK (fG (rs.map kyL) (.inr ⟨⟨b.nm⟩⟩) (.ref q)))) (bo : BOf H3 (tmO b wq) b') (fp : H3 b'.pa = none) (sa : SAt S O G p d ((os.filter fun o => decide (o.nm ≠ b.nm)) ++ [b'])) (kp : Keep [d] H3 G) (nT : NoT G) :
 Go S O nms H G p d r os rs ((os.filter fun o => decide (o.nm ≠ b.nm)) ++ [b']) (rs.map fun z => if z.b.nm = b.nm then ⟨q, wq, b'⟩ else z) := by
 have x1 := x.same s1
 have k2 : Keep [d, r] H1 H2 := kp1.mono fun c hc => by rw [zY.mp hc]; exact .head _
 have k3 : Keep [d, r] H2 H3 := by rw [e3]; exact Keep.refl.put (.tail _ (.head _))
 have kG : Keep [d, r] H3 G := kp.mono fun c hc => by rw [zY.mp hc]; exact .head _
 have k1G := k2.trans (k3.trans kG)
 have n1 : ∀ {y : Addr} {o : HO}, H1 y = some o -> (∀ l, o ≠ .dK l) -> y ∉ [d, r] := fun e n => no2 x1.sa.dc x1.dc e n
 have w3 : H3 wq = some (.lst (b.ws.map V.int)) := (k2.trans k3) _ _ La.w (n1 La.w (by intro _ z; cases z))
 obtain ⟨ob, ag, wt, pa, eb⟩ := bo.eq w3
 have LG : LAt G q wq b := ⟨k1G _ _ La.q (n1 La.q (by intro _ z; cases z)), k1G _ _ La.w (n1 La.w (by intro _ z; cases z))⟩
 obtain ⟨my, ny⟩ := n8 ey
 have ep : fG (rs.map kyL) (.inr ⟨⟨b.nm⟩⟩) (.ref q) = (rs.map fun z => if z.b.nm = b.nm then (⟨q, wq, b'⟩ : Lw) else z).map kyL := by
  unfold fG
  rw [if_pos (List.any_eq_true.mpr ⟨kyL y, ZL my, by unfold kyL; rw [ny]; exact decide_eq_true rfl⟩), uY, uY]
  refine Zs fun z _ => ?_
  show (if (Sum.inr ⟨⟨z.b.nm⟩⟩ : Key) = Sum.inr ⟨⟨b.nm⟩⟩ then ((Sum.inr ⟨⟨z.b.nm⟩⟩ : Key), V.ref q) else kyL z) = kyL (if z.b.nm = b.nm then ⟨q, wq, b'⟩ else z)
  by_cases e : z.b.nm = b.nm
  ·rw [if_pos e, if_pos (by rw [e])]
   unfold kyL; rw [eb, e]
  ·rw [if_neg e, if_neg (fun h => e (by simpa using h))]
 rw [ep] at e3
 have mr : ∀ z ∈ (rs.map fun z => if z.b.nm = b.nm then (⟨q, wq, b'⟩ : Lw) else z), z ∈ rs \/ z = ⟨q, wq, b'⟩ := fun z hz => by
  obtain ⟨v, hv, rfl⟩ := Zp.mp hz
  by_cases e : v.b.nm = b.nm
  ·rw [if_pos e]; exact .inr rfl
  ·rw [if_neg e]; exact .inl hv
 have f1 : ∀ {c : Addr}, H3 c = none -> c ≠ d -> H c = none := fun {c} h nd => by
  have h2 : H2 c = none := by
   by_cases e : c = r
   ·rw [e, e3, al] at h; cases h
   ·rw [e3, ay e] at h; exact h
  exact s1.free (kp1.free h2 (by simpa using nd))
 refine ⟨x1.fin k1G sa ?_ (fun z hz => ?_) ?_, by rw [uf]; exact Nat.succ_le_succ (ZS _ _), (Keep.same s1).trans k1G, nT, fun o ho => ?_, fun z hz => ?_⟩
 ·exact kp _ _ (by rw [e3, al]) (by simpa using Ne.symm hdr)
 ·rcases mr z hz with h | rfl
  ·exact .inl h
  ·dsimp only
   rw [eb]
   exact .inr ⟨LG.b_ .., B.b_ ..⟩
 ·have e : (rs.map fun z => if z.b.nm = b.nm then (⟨q, wq, b'⟩ : Lw) else z).map (·.b) = (rs.map (·.b)).map fun o => if o.nm = b.nm then b' else o := by
   rw [uY, uY]
   refine Zs fun z _ => ?_
   show (if z.b.nm = b.nm then (⟨q, wq, b'⟩ : Lw) else z).b = if z.b.nm = b.nm then b' else z.b
   split <;> rfl
  rw [e]
  exact (x.pm.map _).trans (uL x.sa.np ⟨y.b, x.pm.mem_iff.mp (ZL my), ny⟩)
 ·rcases uO.mp ho with h | h
  ·exact .inl (Z3.mp h).1
  ·rw [zY.mp h]
   refine .inr (f1 fp fun z => ?_)
   rw [z] at fp
   obtain ⟨kv, g3⟩ : ∃ kv, H3 d = some kv := ⟨_, by rw [e3, ay hdr]; exact (gd2 : H2 d = some _)⟩
   rw [g3] at fp; cases fp
 ·rcases mr z hz with h | rfl
  ·exact .inl h
  ·exact .inr ⟨fq, fw⟩
def sp_Ah (a : Adr) : Sp := sp4 fun x y n z H Q _ => NoT H /\ asR x fun p => asR y fun r => asR n fun nq => asI z fun c => ∃ nms d os rs, Sd a.av a.aA nms H p d r os rs /\ d ≠ r /\ os.length <= 49 /\ H nq = some (.lst (nms.map L2.T)) /\ nms.length = 5 /\ (∀ l ∈ nms, nm l = true) /\ ∀ os' rs' H', Go a.av a.aA nms H H' p d r os rs os' rs' -> Q (.bl true) H'
theorem vT (T : Txt K mg a) : bz P w K mg base (XE P w) 10 a.c9 a.oI ["_law_budgets", "_law_rows", "_law_names_here", "_law_cell"] (sp_Ah a) := by
 refine T.jM.okX n9 (fun vs H Q E h => sp4.len h) (fun cdv A outer s H vs Q E hr h => ?_)
 obtain ⟨x0, x1, x2, x3, rfl, h⟩ := sp4.inv h
 try dsimp only [sp_Ah, sp4] at h
 have ND := n9.nd
 have HU := bA hr
 obtain ⟨hN, h1⟩ := h
 obtain ⟨p, rfl, h2⟩ := asR.inv h1
 obtain ⟨r, rfl, h3⟩ := asR.inv h2
 obtain ⟨nq, rfl, h4⟩ := asR.inv h3
 obtain ⟨c, rfl, nms, d, os, rs, S, hdr, lo, gn, l5, hn, k⟩ := asI.inv h4
 have sz : 4000 < sizeLine := by rw [uT]; decide
 have G__law_put := @wN P w K mg base a T
 have b__law_put := xb T.iH
 have G_Budgets_drop := @iP P w K mg base a T
 have b_Budgets_drop := jf T.fP
 have G__law_mended := @sj P w K mg base a T
 have b__law_mended := rM T.gS
 have G__law_spoilt := @rn P w K mg base a T
 have b__law_spoilt := sT T.gJ
 have G__law_mixed := @dh P w K mg base a T
 have b__law_mixed := dj T.aX
 have G__law_terms := @tX P w K mg base a T
 have b__law_terms := t8 T.iz
 have G__law_refusal := @iV P w K mg base a T
 have b__law_refusal := i9 T.db
 have W6 : ∀ i, i < 6 -> WDS.getD i [] ≠ [] /\ (WDS.getD i [] = vR ↔ i = 5) /\ WDS.getD i [] ≠ pP := by decide
 have c6 : ∃ u, PSs (cO (XE P w) P w K mg base ["_law_budgets", "_law_rows", "_law_names_here", "_law_cell", "_law_name", "_law_word_here", "_law_terms_here", "_law_due"] "_law_done" (af bd) a.c9 cdv A outer s H E) (Zg 6 (aw bd)) u /\
  (∀ i x b tq H1, Same H H1 -> NoT H1 -> H1 tq = some (.lst [x.n, x.p, x.c, x.f, x.l, x.t, x.w]) -> SpX H1 b x i -> u { nx := fun _ H' => Q .non H', rt := Q } [some (.ref p), some (.ref r), some (.ref nq), some (.int c), none, none, some (.ref tq), some (L2.T (WDS.getD i []))] H1) /\
  (∀ b tq wq y H1, Same H H1 -> NoT H1 -> LAt H1 tq wq b -> GOk nms b -> H tq = none -> H wq = none -> h8 rs b.nm = some y -> u { nx := fun _ H' => Q .non H', rt := Q } [some (.ref p), some (.ref r), some (.ref nq), some (.int c), none, none, some (.ref tq), some (L2.T pP)] H1) /\
  (∀ b tq wq H0 H1, Same H H0 -> NoT H1 -> LAt H0 tq wq b -> GOk nms b -> H tq = none -> H wq = none -> fnd os b.nm = none -> H1 = upd H0 r (.dK (fG (rs.map kyL) (.inr ⟨⟨b.nm⟩⟩) (.ref tq))) -> u { nx := fun _ H' => Q .non H', rt := Q } [some (.ref p), some (.ref r), some (.ref nq), some (.int c), none, none, some (.ref tq), some (L2.T yb)] H1) := by
  refine ⟨_, (ae (a9 (ba (ii K HU) (au G__law_put (hr.mono (by decide)) rfl T.rm T.iH.kp b__law_put .nil aQ (FA.pa (aa (fv 0) (aa (fv 6) ad)))) (fv 7) (aW _)) (aj (aD dk)) aL)
   (ae (a9 (L2.PW.pt (sK (ba (bf K HU) (fv 7) (aq [116, 119, 105, 99, 101]) (aW _)) (o_ (ba (bf K HU) (ak aO (ak aR (fv 3) ac) ac) ac (aW _))))) (ae (bZ (bX (fv 0) T.aV T.iZ G_Budgets_drop (hr.mono (by decide)) b_Budgets_drop .nil aQ (FA.pa (aa (aH (ao K) (fv 6) ac (fun _ _ => rfl)) ad))))
   (ae (qU (Zv HU) (fv 1) (aH (ao K) (fv 6) ac (fun _ _ => rfl)) (fv 6) rfl)
   (aj (aD (eg (bf K HU) (au G__law_put (hr.mono (by decide)) rfl T.rm T.iH.kp b__law_put .nil aQ (FA.pa (aa (fv 0) (aa (fv 6) ad)))) (aq [100, 111, 110, 101]) (aW _)))))) aL)
   (aj (aD dk)))), fun i x b tq H1 s1 N1 gt X => ?_, fun b tq wq y H1 s1 N1 La B ft fw ey => ?_, fun b tq wq H0 H1 s0 N1 La B ft fw ef e1 => ?_⟩
  ·have di := X.du os
   walk_at "rd"
   refine ⟨N1, d, os, x, gt, X.ok, X.fl, S.sa.same s1, by omega, fun _ H2 s2 N2 => itp (by rw [di]) (itn (W6 i X.i5).2.2 (k os rs H2 (Go.stay S (s1.trans s2) N2))), fun z => ?_⟩
   have := X.i5
   omega
  ·have S1 := S.same s1
   have d6 := nK B La.w os
   have ef := S1.fnd b.nm
   rw [ey] at ef
   rw [ef] at d6
   have d6 : duB H1 os (tmO b wq) = 6 := d6
   walk_at "rd"
   refine ⟨N1, d, os, tmO b wq, La.q, jG B La.w, (om B La.w).2, S1.sa, by omega, fun _ H2 s2 N2 => ?_, fun z => ?_⟩
   ·rw [d6]
    have s02 := s1.trans s2
    have La2 := La.same s2
    have S2 := S.same s02
    obtain ⟨dx, hp⟩ := S2.sa.ob
    refine itp rfl ?_
    by_cases c1 : c / 25 % 2 = 1
    ·refine itp c1 ⟨_, _, hp, fO "drop" _, _, _, sqa La2.q, rfl, N2, asK.of (show aZ H2 (L2.T b.nm) = some "str" from rfl) ⟨d, os, S2.sa, ?_⟩⟩
     rw [show gH os (L2.T b.nm) = some y.b from ef]
     intro H3 sa3 k3 N3
     have ny := (n8 ey).2
     rw [ny] at sa3
     have nd : ∀ {y : Addr} {o : HO}, H2 y = some o -> (∀ l, o ≠ .dK l) -> y ∉ [d] := fun e n m => cS e S2.sa.dc (fun q => n _ q) (zY.mp m)
     have La3 : LAt H3 tq wq b := ⟨k3 _ _ La2.q (nd La2.q (by intro _ z; cases z)), k3 _ _ La2.w (nd La2.w (by intro _ z; cases z))⟩
     have gr3 : H3 r = some (.dK (rs.map kyL)) := k3 _ _ S2.dc (by simpa using Ne.symm hdr)
     have lr : rs.length <= 49 := by have := S.pm.length_eq; rw [zl] at this; omega
     obtain ⟨H4, e4⟩ : ∃ H4, H4 = upd H3 r (.dK (fG (rs.map kyL) (.inr ⟨⟨b.nm⟩⟩) (.ref tq))) := ⟨_, rfl⟩
     have k4 : Keep [r] H3 H4 := by rw [e4]; exact Keep.refl.put (.head _)
     have N4 : NoT H4 := by rw [e4]; exact aS N3 rfl
     have nr : ∀ {y : Addr} {o : HO}, H3 y = some o -> (∀ l, o ≠ .dK l) -> y ∉ [r] := fun e n m => cS e gr3 (fun q => n _ q) (zY.mp m)
     have La4 : LAt H4 tq wq b := ⟨k4 _ _ La3.q (nr La3.q (by intro _ z; cases z)), k4 _ _ La3.w (nr La3.w (by intro _ z; cases z))⟩
     have J4 := sa3.rows k4 gr3 hdr
     have d8 := nK B La4.w (os.filter fun o => decide (o.nm ≠ b.nm))
     rw [Dt] at d8
     have d8 : duB H4 (os.filter fun o => decide (o.nm ≠ b.nm)) (tmO b wq) = 8 := d8
     have lf : (os.filter fun o => decide (o.nm ≠ b.nm)).length <= os.length := ZS _ _
     refine ⟨_, _, sqa La3.q, rfl, r, _, rfl, DPut.k (k := .inr ⟨⟨b.nm⟩⟩) gr3 (by rw [zl]; omega), ?_⟩
     rw [<- e4]
     refine ⟨N4, d, _, tmO b wq, La4.q, jG B La4.w, (om B La4.w).2, J4, by omega, fun z => ?_, fun _ b' G bo _ fp sa kp nT => ?_⟩
     ·rw [d8] at z; exact absurd z (by decide)
     exact k _ _ G (Go.swap S s02 hdr La2 B ft fw ey k3 sa3.dc e4 bo fp sa kp nT)
    ·exact itn c1 (k os rs H2 (Go.stay S s02 N2))
   ·rw [d6] at z; cases z
  ·have S0 := S.same s0
   have k1 : Keep [r] H0 H1 := by rw [e1]; exact Keep.refl.put (.head _)
   have nr : ∀ {y : Addr} {o : HO}, H0 y = some o -> (∀ l, o ≠ .dK l) -> y ∉ [r] := fun e n m => cS e S0.dc (fun q => n _ q) (zY.mp m)
   have La1 : LAt H1 tq wq b := ⟨k1 _ _ La.q (nr La.q (by intro _ z; cases z)), k1 _ _ La.w (nr La.w (by intro _ z; cases z))⟩
   have J1 := S0.sa.rows k1 S0.dc hdr
   have d8 := nK B La1.w os
   rw [ef] at d8
   have d8 : duB H1 os (tmO b wq) = 8 := d8
   walk_at "rd"
   refine ⟨N1, d, os, tmO b wq, La1.q, jG B La1.w, (om B La1.w).2, J1, by omega, fun z => ?_, fun _ b' G bo _ fp sa kp nT => ?_⟩
   ·rw [d8] at z; exact absurd z (by decide)
   exact itn (by decide) (k _ _ G (Go.put S s0 hdr e1 ef La B ft fw La1.w bo fp sa kp nT))
 obtain ⟨u6, hu6, c6a, c6b, c6c⟩ := c6
 have c5 : ∃ u, PSs (cO (XE P w) P w K mg base ["_law_budgets", "_law_rows", "_law_names_here", "_law_cell", "_law_name", "_law_word_here", "_law_terms_here", "_law_due"] "_law_done" (af bd) a.c9 cdv A outer s H E) (Zg 5 (aw bd)) u /\
  (∀ i x b tq H1, Same H H1 -> NoT H1 -> H1 tq = some (.lst [x.n, x.p, x.c, x.f, x.l, x.t, x.w]) -> GOk nms b -> SpX H1 b x i -> u { nx := fun _ H' => Q .non H', rt := Q } [some (.ref p), some (.ref r), some (.ref nq), some (.int c), none, none, some (.ref tq), some (L2.T (WDS.getD i []))] H1) /\
  (∀ b tq wq y H1, Same H H1 -> NoT H1 -> LAt H1 tq wq b -> GOk nms b -> H tq = none -> H wq = none -> h8 rs b.nm = some y -> u { nx := fun _ H' => Q .non H', rt := Q } [some (.ref p), some (.ref r), some (.ref nq), some (.int c), none, none, some (.ref tq), some (L2.T pP)] H1) /\
  (∀ b tq wq H0 H1, Same H H0 -> NoT H1 -> LAt H0 tq wq b -> GOk nms b -> H tq = none -> H wq = none -> fnd os b.nm = none -> H1 = upd H0 r (.dK (fG (rs.map kyL) (.inr ⟨⟨b.nm⟩⟩) (.ref tq))) -> u { nx := fun _ H' => Q .non H', rt := Q } [some (.ref p), some (.ref r), some (.ref nq), some (.int c), none, none, some (.ref tq), some (L2.T yb)] H1) := by
  refine ⟨_, (ae (a9 (L2.PW.pt (sK (ba (bf K HU) (fv 7) (aq [115, 104, 97, 114, 101]) (aW _)) (o_ (bO (aB (bg K) rfl T.aF aC (FA.pa (aa (aH (ao K) (fv 6) ac (fun _ _ => rfl)) (aa (cF (v := .ty "list") rfl T.gL d_ rfl) ad)))))))) (aj (aD (au G__law_mended (hr.mono (by decide)) rfl T.tT T.gS.kp b__law_mended .nil aQ (FA.pa (aa (fv 0) (aa (fv 1) (aa (fv 6) ad))))))) aL)
   hu6), fun i x b tq H1 s1 N1 gt B X => ?_, fun b tq wq y H1 s1 N1 La B ft fw ey => ?_, fun b tq wq H0 H1 s0 N1 La B ft fw ef e1 => ?_⟩
  ·have u6' := c6a i x b tq H1 s1 N1 gt X
   walk_at "rd"
   by_cases i5 : WDS.getD i [] = [115, 104, 97, 114, 101]
   ·have i5' := (W6 i X.i5).2.1.mp i5
    obtain ⟨ex, bad⟩ := X.sh i5'
    refine itp i5 ⟨_, _, sqa gt, rfl, ?_⟩
    rcases bad with ⟨w0, xs, e, gw, lx, fx, _⟩ | ⟨t, hk, hi⟩
    ·have kl : aZ H1 (.ref w0) = some "list" := by simp [aZ, gw]
     rw [e]
     simp only [kl]
     have ex2 : x = tmO b w0 := ex.trans (by rw [e]; rfl)
     have du := X.du
     rw [i5', ex2] at du
     rw [ex2] at gt
     exact itp rfl ⟨N1, nms, d, os, rs, b, w0, xs, S.same s1, hdr, lo, B, gt, gw, lx, fx, du, fun os' rs' H' g => k os' rs' H' (g.pre s1)⟩
    ·simp only [hk]
     exact itn (by rw [hi]; decide) u6'
   ·exact itn i5 u6'
  ·have u6' := c6b b tq wq y H1 s1 N1 La B ft fw ey
   walk_at "rd"
   exact itn (by decide) u6'
  ·have u6' := c6c b tq wq H0 H1 s0 N1 La B ft fw ef e1
   walk_at "rd"
   exact itn (by decide) u6'
 obtain ⟨u5, hu5, c5a, c5b, c5c⟩ := c5
 have c3 : ∃ u, PSs (cO (XE P w) P w K mg base ["_law_budgets", "_law_rows", "_law_names_here", "_law_cell", "_law_name", "_law_word_here", "_law_terms_here", "_law_due"] "_law_done" (af bd) a.c9 cdv A outer s H E) (Zg 3 (aw bd)) u /\
  (∀ i x b tq H1, Same H H1 -> NoT H1 -> H1 tq = some (.lst [x.n, x.p, x.c, x.f, x.l, x.t, x.w]) -> GOk nms b -> SpX H1 b x i -> u { nx := fun _ H' => Q .non H', rt := Q } [some (.ref p), some (.ref r), some (.ref nq), some (.int c), none, none, some (.ref tq), some (L2.T (WDS.getD i []))] H1) /\
  (∀ b tq wq H1, Same H H1 -> NoT H1 -> LAt H1 tq wq b -> GOk nms b -> H tq = none -> H wq = none -> u { nx := fun _ H' => Q .non H', rt := Q } [some (.ref p), some (.ref r), some (.ref nq), some (.int c), none, none, some (.ref tq), some (L2.T [])] H1) := by
  refine ⟨_, (ae (a9 (L2.PW.pt (sK (ba (bf K HU) (fv 7) (aq []) (aW _)) (o_ (sJ (yS (Zv HU) (aH (ao K) (fv 6) ac (fun _ _ => rfl)) (fv 1)) (by with_unfolding_all rfl))))) (aj (aE (i := 7) ND rfl (Or.inl rfl) (aq [116, 119, 105, 99, 101]))) aL)
   (ae (a9 (ba (bf K HU) (fv 7) (aq []) (aW _)) (ae (qU (Zv HU) (fv 1) (aH (ao K) (fv 6) ac (fun _ _ => rfl)) (fv 6) rfl)
   (aj (aE (i := 7) ND rfl (Or.inl rfl) (aq [100, 111, 110, 101])))) aL)
   hu5)), fun i x b tq H1 s1 N1 gt B X => ?_, fun b tq wq H1 s1 N1 La B ft fw => ?_⟩
  ·have u5' := c5a i x b tq H1 s1 N1 gt B X
   have ni := (W6 i X.i5).1
   walk_at "rd"
   exact itn ni (itn ni u5')
  ·have S1 := S.same s1
   have ef := S1.fnd b.nm
   have g := S1.get b.nm
   walk_at "rd"
   refine ⟨_, _, sqa La.q, rfl, r, _, rfl, g, ?_⟩
   rw [ZA]
   cases ey : h8 rs b.nm with
   | some y => exact itp rfl (itn (by decide) (c5b b tq wq y H1 s1 N1 La B ft fw ey))
   | none =>
    rw [ey] at ef
    have lr : rs.length <= 49 := by have := S.pm.length_eq; rw [zl] at this; omega
    exact itn (by intro z; cases z) ⟨_, _, sqa La.q, rfl, r, _, rfl, DPut.k (k := .inr ⟨⟨b.nm⟩⟩) S1.dc (by rw [zl]; omega), c5c b tq wq H1 _ s1 (aS N1 rfl) La B ft fw ef rfl⟩
 obtain ⟨u3, hu3, c3a, c3b⟩ := c3
 have c2 : ∃ u, PSs (cO (XE P w) P w K mg base ["_law_budgets", "_law_rows", "_law_names_here", "_law_cell", "_law_name", "_law_word_here", "_law_terms_here", "_law_due"] "_law_done" (af bd) a.c9 cdv A outer s H E) (Zg 2 (aw bd)) u /\ (∀ b tq wq H1, Same H H1 -> NoT H1 -> LAt H1 tq wq b -> GOk nms b -> H tq = none -> H wq = none -> u { nx := fun _ H' => Q .non H', rt := Q } [some (.ref p), some (.ref r), some (.ref nq), some (.int c), none, none, some (.ref tq), none] H1) := by
  refine ⟨_, (ae (aE (i := 7) ND rfl (Or.inl rfl) (au G__law_spoilt (hr.mono (by decide)) rfl T.tm T.gJ.kp b__law_spoilt .nil aQ (FA.pa (aa (fv 6) (aa (ak aR (au G__law_mixed (hr.mono (by decide)) rfl T.bi T.aX.kp b__law_mixed .nil aQ (FA.pa (aa (fv 3) (aa ac ad)))) ac) ad)))))
   hu3), fun b tq wq H1 s1 N1 La B ft fw => ?_⟩
  walk_at "rd"
  refine fun i _ _ => ⟨N1, b, wq, nms, La, B, fun H2 s2 N2 => c3b b tq wq H2 (s1.trans s2) N2 (La.same s2) B ft fw, fun x i H2 k2 N2 g2 X => c3a i x b tq H2 (fun y o e => k2 _ _ (s1 _ _ e) (by simpa using ar e ft)) N2 g2 B X⟩
 obtain ⟨u2, hu2, c2⟩ := c2
 refine ⟨_, (ae (a9 (ba (bf K HU) (ak aO (fv 3) ac) ac (aW _)) (ae (aE (i := 4) ND rfl (Or.inl rfl) (aH (ao K) (fv 2) (ak aO (ak aR (fv 3) ac) ac) (fun _ _ => rfl)))
  (ae (aE (i := 5) ND rfl (Or.inl rfl) (au G__law_refusal (hr.mono (by decide)) rfl T.jI T.db.kp b__law_refusal .nil aQ (FA.pa (aa (fv 0) (aa (fv 4) (aa ac ad))))))
  (ae (a9 (sJ (qb (Zv HU) (fv 4) (fv 1)) (by with_unfolding_all rfl)) (aj (aD (eg (bf K HU) (fv 5) (aq [110, 111, 110, 101]) (aW _)))) aL)
  (ae (bZ (xk (fv 1) (fv 4) ⟨rfl, rfl, rfl, rfl⟩))
  (aj (aD (eg (bf K HU) (fv 5) (aq [100, 111, 110, 101]) (aW _)))))))) aL)
  (ae (aE (i := 6) ND rfl (Or.inl rfl) (au G__law_terms (hr.mono (by decide)) rfl T.v9 T.iz.kp b__law_terms .nil aQ (FA.pa (aa (au G__law_mixed (hr.mono (by decide)) rfl T.bi T.aX.kp b__law_mixed .nil aQ (FA.pa (aa (fv 3) (aa ac ad)))) (aa (fv 2) ad)))))
  hu2)), ?_⟩
 walk_at "rd"
 by_cases c4 : c % 5 = 4
 ·obtain ⟨j, ej⟩ := fZ (show 0 <= c / 5 % 5 by omega)
  have lj : j < nms.length := by omega
  refine itp c4 ⟨_, _, sqa gn, by rw [ej]; exact cJ (by rw [List.getElem?_map, List.getElem?_eq_getElem lj]; rfl), hN, asK.of (show aZ H (L2.T nms[j]) = some "str" from rfl) ⟨d, os, S.sa, fun e H1 s1 N1 => ?_, fun o e => ?_⟩⟩
  ·have S1 := S.same s1
   have ef := S1.fnd nms[j]
   rw [show fnd os nms[j] = none from e] at ef
   have ey : h8 rs nms[j] = none := by
    cases h : h8 rs nms[j] with
    | none => rfl
    | some y => rw [h] at ef; cases ef
   have g := S1.get nms[j]
   rw [ey] at g
   exact ⟨r, _, rfl, g, itp rfl (k os rs H1 (Go.stay S s1 N1))⟩
  ·intro H1 sa k1 N1
   have e : fnd os nms[j] = some o := e
   rw [(gE e).2] at sa
   obtain ⟨gr, go⟩ := Go.drop S hdr sa k1 N1
   have ef := S.fnd nms[j]
   rw [e] at ef
   obtain ⟨y, ey⟩ : ∃ y, h8 rs nms[j] = some y := by
    cases h : h8 rs nms[j] with
    | none => rw [h] at ef; cases ef
    | some y => exact ⟨y, rfl⟩
   have g := DGet.k (k := .inr ⟨⟨nms[j]⟩⟩) gr
   have v := oR nms[j] rs
   rw [v, ey] at g
   rw [ey] at v
   exact ⟨r, _, rfl, g, itn (by intro z; cases z) ⟨.inl ⟨_, .inl gr⟩, _, .inr ⟨⟨nms[j]⟩⟩, _, gr, rfl, v, k _ _ _ go⟩⟩
 ·refine itn c4 fun i _ _ => ⟨hN, nms, gn, l5, hn, fun b q wq H1 B La fq fw s1 N1 => c2 b q wq H1 s1 N1 La B fq fw⟩
open K5 K17
structure Wh where
 nq : Addr
 bq : Addr
 rq : Addr
 hq : Addr
 p1 : Addr
 d1 : Addr
 r1 : Addr
 p2 : Addr
 d2 : Addr
 r2 : Addr
structure LX (S O : Addr) (H0 G : Hp) (nms : List (List Nat)) (x : Wh) (os1 : List Bd) (rs1 : List Lw) (os2 : List Bd) (rs2 : List Lw) (hs : List V) (n : Nat) : Prop where
 s : Same H0 G
 nT : NoT G
 nq : G x.nq = some (.lst (nms.map L2.T))
 bq : G x.bq = some (.lst [.ref x.p1, .ref x.p2])
 rq : G x.rq = some (.lst [.ref x.r1, .ref x.r2])
 ne : x.nq ≠ x.hq /\ x.bq ≠ x.hq /\ x.rq ≠ x.hq
 tw : Two S O nms G x.hq x.p1 x.d1 x.r1 os1 rs1 x.p2 x.d2 x.r2 os2 rs2 n
 hd : Hd G x.hq hs
 lh : hs.length <= 2 * n
 fr : H0 x.hq = none /\ H0 x.d1 = none /\ H0 x.r1 = none /\ H0 x.d2 = none /\ H0 x.r2 = none
 ap : x.d1 ≠ x.r1 /\ x.d2 ≠ x.r2 /\ x.d1 ≠ x.d2 /\ x.d1 ≠ x.r2 /\ x.r1 ≠ x.d2 /\ x.r1 ≠ x.r2
 l5 : nms.length = 5
 nn : ∀ l ∈ nms, nm l = true
def LI (S O : Addr) (H0 G : Hp) (nms : List (List Nat)) (x : Wh) (n : Nat) : Prop := ∃ os1 rs1 os2 rs2 hs, LX S O H0 G nms x os1 rs1 os2 rs2 hs n
section
variable {S O : Addr} {H0 G G' : Hp} {nms : List (List Nat)} {x : Wh} {os1 os2 : List Bd} {rs1 rs2 : List Lw} {hs : List V} {n : Nat}
theorem vL {W : List Addr} (s : Same H0 G) (k : Keep W G G') (f : ∀ y ∈ W, H0 y = none) : Same H0 G' := fun c z e => k _ _ (s _ _ e) fun m => by rw [f c m] at e; cases e
theorem LX.same (L : LX S O H0 G nms x os1 rs1 os2 rs2 hs n) (s : Same G G') (nT : NoT G') : LX S O H0 G' nms x os1 rs1 os2 rs2 hs n :=
 ⟨L.s.trans s, nT, s _ _ L.nq, s _ _ L.bq, s _ _ L.rq, L.ne, L.tw.same s, L.hd.same s, L.lh, L.fr, L.ap, L.l5, L.nn⟩
theorem LI.same (L : LI S O H0 G nms x n) (s : Same G G') (nT : NoT G') : LI S O H0 G' nms x n := by
 obtain ⟨os1, rs1, os2, rs2, hs, L⟩ := L
 exact ⟨os1, rs1, os2, rs2, hs, L.same s nT⟩
theorem LX.held (L : LX S O H0 G nms x os1 rs1 os2 rs2 hs n) {es : List V} (le : es.length <= 2) (k : Keep [x.hq] G G') (nT : NoT G') (hd : Hd G' x.hq (hs ++ es)) : LX S O H0 G' nms x os1 rs1 os2 rs2 (hs ++ es) (n + 1) :=
 ⟨vL L.s k fun y hy => by rw [zY.mp hy]; exact L.fr.1, nT, k _ _ L.nq (by simpa using L.ne.1), k _ _ L.bq (by simpa using L.ne.2.1), k _ _ L.rq (by simpa using L.ne.2.2), L.ne, by
  have T := L.tw.held k L.hd.at_
  exact ⟨T.s1, T.s2, T.o1, T.o2, YM T.l1, YM T.l2⟩, hd, by have := L.lh; rw [uf]; omega, L.fr, L.ap, L.l5, L.nn⟩
theorem Sd.other {W : List Addr} {p d r : Addr} {os : List Bd} {rs : List Lw} (y : Sd S O nms G p d r os rs) (k : Keep W G G') (h : ∀ z ∈ W, ∃ kvs, G z = some (.dK kvs)) (hd : d ∉ W) (hr : r ∉ W) : Sd S O nms G' p d r os rs := by
 have no : ∀ {y : Addr} {o : HO}, G y = some o -> (∀ l, o ≠ .dK l) -> y ∉ W := fun e n m => by
  obtain ⟨kvs, g⟩ := h _ m
  rw [e] at g; cases g; exact n _ rfl
 obtain ⟨dx, ep⟩ := y.sa.ob
 refine y.keep k (no ep (by intro _ z; cases z)) hd hr (fun o ho => ?_) fun v hv => ⟨no (y.rw v hv).q (by intro _ z; cases z), no (y.rw v hv).w (by intro _ z; cases z)⟩
 have A := y.sa.od o ho
 obtain ⟨dz, ez⟩ := A.ob
 exact ⟨no ez (by intro _ z; cases z), no A.ag.ag (by intro _ z; cases z), no A.ag.wt (by intro _ z; cases z), no A.pa (by intro _ z; cases z)⟩
theorem Two.mono {hq p1 d1 r1 p2 d2 r2 : Addr} {m : Nat} (x : Two S O nms G hq p1 d1 r1 os1 rs1 p2 d2 r2 os2 rs2 n) (h : n <= m) : Two S O nms G hq p1 d1 r1 os1 rs1 p2 d2 r2 os2 rs2 m := ⟨x.s1, x.s2, x.o1, x.o2, sC x.l1 h, sC x.l2 h⟩
theorem LI.mono {m : Nat} (L : LI S O H0 G nms x n) (h : n <= m) : LI S O H0 G nms x m := by
 obtain ⟨os1, rs1, os2, rs2, hs, L⟩ := L
 exact ⟨os1, rs1, os2, rs2, hs, ⟨L.s, L.nT, L.nq, L.bq, L.rq, L.ne, L.tw.mono h, L.hd, by have := L.lh; omega, L.fr, L.ap, L.l5, L.nn⟩⟩
theorem Sd.no {p d r : Addr} {os : List Bd} {rs : List Lw} (y : Sd S O nms G p d r os rs) {l : List Nat} (h : nm l = false) : K25.fnd os l = none := by
 cases e : K25.fnd os l with
 | none => rfl
 | some o =>
  obtain ⟨m, z⟩ := gE e
  obtain ⟨v, hv, rfl⟩ := Zp.mp (y.pm.mem_iff.mpr m)
  have := (y.ok v hv).nn
  rw [z, h] at this; cases this
theorem LI.side (L : LI S O H0 G nms x n) {i : Int} (hi : i = 0 \/ i = 1) : ∃ p d r os rs, atI [V.ref x.p1, V.ref x.p2] i = some (.ref p) /\ atI [V.ref x.r1, V.ref x.r2] i = some (.ref r) /\ Sd S O nms G p d r os rs /\ d ≠ r /\ os.length <= n /\ ∀ G' os' rs', Go S O nms G G' p d r os rs os' rs' -> LI S O H0 G' nms x (n + 1) := by
 obtain ⟨os1, rs1, os2, rs2, hs, L⟩ := L
 obtain ⟨h0, f1, f2, f3, f4⟩ := L.fr
 obtain ⟨a1, a2, a3, a4, a5, a6⟩ := L.ap
 have kd : ∀ {d r : Addr} {k1 k2 : List (Key × V)}, G d = some (.dK k1) -> G r = some (.dK k2) -> ∀ z ∈ [d, r], ∃ kvs, G z = some (.dK kvs) := fun g1 g2 z hz => by
  rcases ve.mp hz with rfl | hz
  ·exact ⟨_, g1⟩
  ·rw [zY.mp hz]; exact ⟨_, g2⟩
 have no : ∀ {d r y : Addr} {k1 k2 : List (Key × V)} {l : List V}, G d = some (.dK k1) -> G r = some (.dK k2) -> G y = some (.lst l) -> y ∉ [d, r] := fun g1 g2 e => no2 g1 g2 e (by intro _ z; cases z)
 have n2 : ∀ {y d r : Addr}, y ≠ d -> y ≠ r -> y ∉ [d, r] := fun h1 h2 z => by
  rcases ve.mp z with z | z
  ·exact h1 z
  ·exact h2 (zY.mp z)
 have ff : ∀ {d r : Addr}, H0 d = none -> H0 r = none -> ∀ y ∈ [d, r], H0 y = none := fun g1 g2 y hy => by
  rcases ve.mp hy with rfl | hy
  ·exact g1
  ·rw [zY.mp hy]; exact g2
 have T := L.tw
 rcases hi with rfl | rfl
 ·refine ⟨x.p1, x.d1, x.r1, os1, rs1, rfl, rfl, T.s1, a1, T.l1, fun G' os' rs' g => ⟨os', rs', os2, rs2, hs, ?_⟩⟩
  have q := @no _ _ x.nq _ _ _ T.s1.sa.dc T.s1.dc L.nq
  exact ⟨vL L.s g.kp (ff f1 f2), g.nT, g.kp _ _ L.nq q, g.kp _ _ L.bq (no T.s1.sa.dc T.s1.dc L.bq), g.kp _ _ L.rq (no T.s1.sa.dc T.s1.dc L.rq), L.ne, ⟨g.sd, T.s2.other g.kp (kd T.s1.sa.dc T.s1.dc) (n2 (Ne.symm a3) (Ne.symm a5)) (n2 (Ne.symm a4) (Ne.symm a6)), g.off L.hd.at_ T.o1, T.o2, by have := g.ln; have := T.l1; omega, YM T.l2⟩, L.hd.keep g.kp (kd T.s1.sa.dc T.s1.dc), sC L.lh (by omega), L.fr, L.ap, L.l5, L.nn⟩
 ·refine ⟨x.p2, x.d2, x.r2, os2, rs2, rfl, rfl, T.s2, a2, T.l2, fun G' os' rs' g => ⟨os1, rs1, os', rs', hs, ?_⟩⟩
  have q := @no _ _ x.nq _ _ _ T.s2.sa.dc T.s2.dc L.nq
  exact ⟨vL L.s g.kp (ff f3 f4), g.nT, g.kp _ _ L.nq q, g.kp _ _ L.bq (no T.s2.sa.dc T.s2.dc L.bq), g.kp _ _ L.rq (no T.s2.sa.dc T.s2.dc L.rq), L.ne, ⟨T.s1.other g.kp (kd T.s2.sa.dc T.s2.dc) (n2 a3 a4) (n2 a5 a6), g.sd, T.o1, g.off L.hd.at_ T.o2, YM T.l1, by have := g.ln; have := T.l2; omega⟩, L.hd.keep g.kp (kd T.s2.sa.dc T.s2.dc), sC L.lh (by omega), L.fr, L.ap, L.l5, L.nn⟩
end
end
section
variable {pS : Addr} {ns : List Int} {P : Program} {w : World} {K : W.Frag} {mg : Str -> Option Value} {base : Heap} {a : Adr}
open K5 K17
def HD : Stmt -> List Stmt
 | .For _ _ b _ _ => b
 | _ => []
noncomputable abbrev zx : List Stmt := HD ((aw dD).getD 4 (.Pass ⟨0, 0, 0, 0⟩))
abbrev sig (pS : Addr) (x : Wh) (x5 x6 x7 x8 x9 x10 x11 x12 : Option V) : L2.St := [some (.ref pS), some (.ref x.nq), some (.ref x.bq), some (.ref x.rq), some (.ref x.hq), x5, x6, x7, x8, x9, x10, x11, x12]
theorem at5 {nms : List (List Nat)} (h : nms.length = 5) (i : Int) (h0 : 0 <= i) (h1 : i < 5) : ∃ l, atI (nms.map L2.T) i = some (L2.T l) := by
 obtain ⟨j, rfl⟩ := fZ h0
 exact ⟨nms[j]'(by omega), cJ (by rw [List.getElem?_map, List.getElem?_eq_getElem (by omega)]; rfl)⟩
def sp_law (K : W.Frag) : Sp := sp1 fun x H Q _ => asR x fun p => NoT H /\ ∃ ns : List Int, SqL K H p (ns.map V.int) /\ ns.length <= 63 /\ Q (.bl true) H
theorem FH (T : Txt K mg a) : bz P w K mg base (XE P w) 12 a.l_ a.Co ["_law_script"] (sp_law K) := by
 refine T.GA.okG Bx (fun vs H Q E h => sp1.len h) (fun cdv A outer s H vs Q E hr h => ?_)
 obtain ⟨x0, rfl, h⟩ := sp1.inv h
 try dsimp only [sp_law, sp1] at h
 have ND := Bx.nd
 have HU := bA hr
 obtain ⟨pS, rfl, hN, ns, hS, hl, k⟩ := asR.inv h
 have G__law_told := @vU P w K mg base a T
 have b__law_told := v_ T.f_
 have G__law_cell_at := @qH P w K mg base a T
 have b__law_cell_at := qA T.cy
 have G__law_is_none := @i6 P w K mg base a T
 have b__law_is_none := i8 T.de
 have G__law_all_names := @nU P w K mg base a T
 have b__law_all_names := nW T.df
 have G__law_mixed := @dh P w K mg base a T
 have b__law_mixed := dj T.aX
 have G__law_done := @vT P w K mg base a T
 have b__law_done := vS T.jM
 have G_Budgets___init__ := @lR P w K mg base a T
 have b_Budgets___init__ := lS T.fI
 have G__law_names := @sY P w K mg base a T
 have b__law_names := tJ T.iA
 have sz := szl
 have c7 : ∃ u, PSs (cO (XE P w) P w K mg base ["_law_script", "_law_names_here", "_law_both", "_law_rows", "_law_held", "_law_k", "_law_at", "_law_cell", "_law_one", "_law_other", "_law_turn", "_law_name", "_law_odd_here"] "law" (af dD) a.l_ cdv A outer s H (gcE H E)) (Zg 7 (aw dD)) u /\ ∀ nms x G x5 x6 x7 x8 x9 x10 x11 x12, LI a.av a.aA H G nms x 48 -> u { nx := fun _ H' => ∃ G, Gc H G H' /\ Q .non G, rt := fun v H' => ∃ G, Gc H G H' /\ Q v G } (sig pS x x5 x6 x7 x8 x9 x10 x11 x12) G := by
  refine ⟨_, (ae (eJ (by passes_own) rfl (eW rfl T.iM (FA.pa (aa ac ad))) (a_ (i := 6) ND rfl (Or.inl rfl)) (aj (eJ (by passes_own) rfl (dG K (fv 1)) (a_ (i := 11) ND rfl (Or.inl rfl)) (aj (a9 (cw (bO (au G__law_told (hr.mono (by decide)) rfl T.qt T.f_.kp b__law_told .nil aQ (FA.pa (aa (aH (ao K) (fv 2) (fv 6) (fun _ _ => rfl)) (aa (aH (ao K) (fv 3) (fv 6) (fun _ _ => rfl)) (aa (fv 11) (aa (au G__law_cell_at (hr.mono (by decide)) rfl T.dF T.cy.kp b__law_cell_at .nil aQ (FA.pa (aa (fv 0) (aa ac ad)))) ad)))))))) (aj (aD dk)) aL)))))
   (aj (aD (aB (q_ K rfl) rfl T.zH wB (FA.pa (aa (fL rfl (cl := _) (x := "_law_pair") (xs := ["_law_pair"]) (fr := []) (ks := []) (by walk_at "cq") rfl (dG K (fv 4)) (fun _ _ _ _ _ => (a_ (i := 0) (kK (l := ["_law_pair"]) (by decide)) rfl (Or.inl rfl))) (fun _ _ _ _ _ => eS) (fun _ _ _ _ _ => (eg (bf K HU) (aH (ao K) (fv 0) ac (fun _ _ => rfl)) (aH (ao K) (fv 0) ac (fun _ _ => rfl)) (aW _)))) ad)))))), fun nms x G x5 x6 x7 x8 x9 x10 x11 x12 L => ?_⟩
  walk_at "rd"
  refine oQ ?_
  walk_at "rd"
  refine hR (lo := 0) (n := 2) (fun i σ' G => LI a.av a.aA H G nms x 48 /\ ∃ x6 x11, σ' = sig pS x x5 x6 x7 x8 x9 x10 x11 x12) ⟨L, x6, x11, rfl⟩ ?_ ?_
  ·clear L
   rintro i σ' G hi ⟨L, x6, x11, rfl⟩
   obtain ⟨p, d, r, os, rs, ep, er, S, _⟩ := L.side (i := 0 + (i : Int)) (by omega)
   have L' := L
   obtain ⟨os1, rs1, os2, rs2, hs, X⟩ := L'
   walk_at "rd"
   refine rR ?_
   walk_at "rd"
   refine nX (SqL.of X.nq) (rJ (xs := nms.map L2.T) (fun j σ' G' => Same G G' /\ NoT G' /\ ∃ x11, σ' = sig pS x x5 (some (.int (0 + (i : Int)))) x7 x8 x9 x10 x11 x12) ⟨Same.refl _, X.nT, x11, rfl⟩ (fun j σ' G' _ h => SqL.of (h.1 _ _ X.nq)) ?_ ?_)
   ·rintro j v σ' G' hv ⟨sG, nG, x11, rfl⟩
    rw [List.getElem?_map] at hv
    obtain ⟨l, el, rfl⟩ := ZW.mp hv
    have X' := X.same sG nG
    walk_at "rd"
    refine ⟨_, _, sqa X'.bq, ep, _, _, sqa X'.rq, er, ns, hS.same X'.s, nG, ?_⟩
    show ∃ nms d os rs, _
    exact ⟨nms, d, os, rs, S.same sG, fun G2 s2 n2 => ⟨sG.trans s2, n2, _, rfl⟩⟩
   ·rintro σ' G' ⟨sG, nG, x11, rfl⟩
    exact ⟨L.same sG nG, _, _, rfl⟩
  ·clear L
   rintro σ' G ⟨⟨os1, rs1, os2, rs2, hs, X⟩, x6, x11, rfl⟩
   walk_at "rd"
   refine cmL x.hq hs (fun H' => Same G H') (fun D ys hD => aJ _ hD) (fun H' c => SqL.of (c _ _ X.hd.at_)) (fun _ => true) (fun _ => .bl true) (fun R r => r) (SqL.of X.hd.at_) (by have := X.lh; omega) (fun y _ H' R _ r => r) (fun y hy _ H' R cc r => ?_) (fun D2 hD2 => ?_)
   ·obtain ⟨q, c, d, ls, rfl, h1, h2, h3, _⟩ := X.hd.pr y hy
    have q1 := sqa (K := K) (cc _ _ h1)
    walk_at "rd"
    refine ⟨_, _, q1, rfl, _, _, q1, rfl, ?_⟩
    walk_at "rd"
    exact ⟨true, EqR.flatL (SqL.of (cc _ _ h2)) (SqL.of (cc _ _ h3)) (by rw [Yq]; exact u9.mpr fun _ _ => rfl), r⟩
   ·walk_at "rd"
    refine ⟨hs.map fun _ => true, SqL.of (al.trans (by rw [ZU.mpr (by simp), uY]; rfl)), H, Gc.none (X.s.trans (aJ _ hD2)), ?_⟩
    have e : (hs.map fun _ => true).all id = true := by simp
    rw [e]; exact k
 obtain ⟨u7, hu7, c7⟩ := c7
 have c5 : ∃ u, PSs (cO (XE P w) P w K mg base ["_law_script", "_law_names_here", "_law_both", "_law_rows", "_law_held", "_law_k", "_law_at", "_law_cell", "_law_one", "_law_other", "_law_turn", "_law_name", "_law_odd_here"] "law" (af dD) a.l_ cdv A outer s H (gcE H E)) (Zg 5 (aw dD)) u /\ ∀ nms x G x5 x6 x7 x8 x9 x10 x11, LI a.av a.aA H G nms x 48 -> u { nx := fun _ H' => ∃ G, Gc H G H' /\ Q .non G, rt := fun v H' => ∃ G, Gc H G H' /\ Q v G } (sig pS x x5 x6 x7 x8 x9 x10 x11 none) G := by
  refine ⟨_, (ae (aE (i := 12) ND rfl (Or.inl rfl) (cW (FA.pa (aa fS (aa ac (aa (aq []) (aa (bh (FA.pa (aa (aq [97]) ad))) (aa qS (aa dk (aa (dW (FA.pa (aa (aq [97]) ad))) (aa (ak aY (aH (ao K) (fv 1) ac (fun _ _ => rfl)) (aq [65])) ad))))))))) (ak aO (ak aR (au G__law_cell_at (hr.mono (by decide)) rfl T.dF T.cy.kp b__law_cell_at .nil aQ (FA.pa (aa (fv 0) (aa ac ad)))) ac) ac) (fun _ _ => rfl)))
   (ae (a9 (cw (bO (au G__law_is_none (hr.mono (by decide)) rfl T.jR T.de.kp b__law_is_none .nil aQ (FA.pa (aa (aH (ao K) (fv 2) ac (fun _ _ => rfl)) (aa (fv 12) (aa (au G__law_cell_at (hr.mono (by decide)) rfl T.dF T.cy.kp b__law_cell_at .nil aQ (FA.pa (aa (fv 0) (aa ac ad)))) ad))))))) (aj (aD dk)) aL)
   hu7)), fun nms x G x5 x6 x7 x8 x9 x10 x11 L => ?_⟩
  have L' := L
  obtain ⟨os1, rs1, os2, rs2, hs, X⟩ := L'
  walk_at "rd"
  have T1 := X.tw.s1
  refine ⟨X.nT, by omega, fun p1 f1 p2 f2 => ⟨by omega, fun p3 f3 => ?_⟩⟩
  obtain ⟨G1, ee, s1, g1, N1⟩ := alloc (o := HO.lst [L2.T [97]]) f1 X.nT rfl
  rw [ee] at f2 f3 |-
  obtain ⟨G2, ee, s2, g2, N2⟩ := alloc (o := HO.dK []) f2 N1 rfl
  rw [ee] at f3 |-
  obtain ⟨G3, ee, s3, g3, N3⟩ := alloc (o := HO.tup [L2.T [97]]) f3 N2 rfl
  rw [ee]
  have s13 := s1.trans (s2.trans s3)
  have l5 := X.l5
  have g0 : atI (nms.map L2.T) 0 = some (L2.T (nms[0]'(by omega))) := cJ (j := 0) (by rw [List.getElem?_map, List.getElem?_eq_getElem (by omega)]; rfl)
  have h12 := j3 (X.nn _ (ZP (show 0 < nms.length by omega)))
  refine ⟨_, _, sqa (s13 _ _ X.nq), g0, ?_⟩
  walk_at "rd"
  have nA : nm (nms[0]'(by omega) ++ [65]) = false := by
   cases e : nm (nms[0]'(by omega) ++ [65]) with
   | false => rfl
   | true => have := (j3 e).2.2 65 (by simp); omega
  refine ⟨by show (nms[0]'(by omega)).length + 1 <= sizeLine; omega, s13, by omega, fun p4 f4 => ⟨ns, hS.same (X.s.trans (s13.trans (aJ _ f4))), ?_⟩⟩
  refine mx (fun v => gH os1 v = none) X.nT (by omega) (by show _ < (8 : Int); omega) (fa (pkF rfl) (fa (pkF rfl) (fa (pkF (T1.no rfl)) (fa ⟨rfl, .inr ⟨p1, _, rfl, f1, (s2.trans s3) _ _ g1, ([L2.T [97]] : List V), .inl rfl⟩⟩ (fa ⟨rfl, .inr ⟨p2, _, rfl, s1.free f2, s3 _ _ g2, ([] : List V), .inr (.inr rfl)⟩⟩ (fa (pkF rfl) (fa ⟨rfl, .inr ⟨p3, _, rfl, (s1.trans s2).free f3, g3, ([L2.T [97]] : List V), .inr (.inl rfl)⟩⟩ (fa (pkF (T1.no nA)) fn)))))))) fun v G4 s4 N4 rv kd _ => ?_
  have X4 := X.same s4 N4
  obtain ⟨t, ht⟩ := kd
  refine ⟨_, _, sqa X4.bq, rfl, ns, hS.same X4.s, N4, ?_⟩
  show asK G4 v _
  exact asK.of ht ⟨x.d1, os1, X4.tw.s1.sa, rv, fun G5 s5 N5 => c7 nms x G5 x5 x6 x7 x8 x9 x10 x11 _ (L.same (s4.trans s5) N5)⟩
 obtain ⟨u5, hu5, c5⟩ := c5
 have an : ∀ (D : fA) nms x G n (kk : Hp -> Prop), LI a.av a.aA H G nms x n -> n <= 49 -> (∀ G', LI a.av a.aA H G' nms x (n + 1) -> kk G') -> NoT G /\ ∃ nms p1 d1 r1 os1 rs1 p2 d2 r2 os2 rs2 hs, G x.bq = some (.lst [.ref p1, .ref p2]) /\ G x.rq = some (.lst [.ref r1, .ref r2]) /\ x.bq ≠ x.hq /\ x.rq ≠ x.hq /\ Two a.av a.aA nms G x.hq p1 d1 r1 os1 rs1 p2 d2 r2 os2 rs2 50 /\ Hd G x.hq hs /\ hs.length <= 198 /\ ∀ v1 v2 H', Keep [x.hq] G H' -> NoT H' -> Hd H' x.hq (hs ++ [v1, v2]) -> kk H' := fun D nms x G n kk ⟨os1, rs1, os2, rs2, hs, X⟩ hn k1 =>
  ⟨X.nT, nms, x.p1, x.d1, x.r1, os1, rs1, x.p2, x.d2, x.r2, os2, rs2, hs, X.bq, X.rq, X.ne.2.1, X.ne.2.2, X.tw.mono (by omega), X.hd, by have := X.lh; omega, fun v1 v2 G' k2 n2 h2 => k1 G' ⟨os1, rs1, os2, rs2, _, X.held (es := [v1, v2]) (zR 2) k2 n2 h2⟩⟩
 have b7 : ∃ u, PSs (cO (XE P w) P w K mg base ["_law_script", "_law_names_here", "_law_both", "_law_rows", "_law_held", "_law_k", "_law_at", "_law_cell", "_law_one", "_law_other", "_law_turn", "_law_name", "_law_odd_here"] "law" (af dD) a.l_ cdv A outer s H (gcE H E)) (Zg 7 zx) u /\ ∀ (D : fA) nms x G (j ai ce : Int) x8 x9 x10 x11 n, LI a.av a.aA H G nms x n -> n <= 49 -> (∀ G', LI a.av a.aA H G' nms x (n + 1) -> D.nx (sig pS x (some (.int j)) (some (.int ai)) (some (.int ce)) x8 x9 x10 x11 none) G') -> u D (sig pS x (some (.int j)) (some (.int ai)) (some (.int ce)) x8 x9 x10 x11 none) G := by
  refine ⟨_, (aj (a9 (L2.PW.pt (sK (ba (bf K HU) (ak aO (ak aR (fv 7) ac) ac) ac (aW _)) (o_ (cw (bO (au G__law_all_names (hr.mono (by decide)) rfl T.ia T.df.kp b__law_all_names .nil aQ (FA.pa (aa (fv 2) (aa (fv 3) (aa (fv 4) ad)))))))))) (aj (aD dk)) aL)), fun D nms x G j ai ce x8 x9 x10 x11 n L hn kk => ?_⟩
  walk_at "rd"
  by_cases c2 : ce / 25 % 2 = 0
  ·exact itp c2 (an D nms x G n _ L hn kk)
  ·exact itn c2 (kk G (L.mono (ZC _)))
 obtain ⟨u7b, hu7b, b7⟩ := b7
 have b6 : ∃ u, PSs (cO (XE P w) P w K mg base ["_law_script", "_law_names_here", "_law_both", "_law_rows", "_law_held", "_law_k", "_law_at", "_law_cell", "_law_one", "_law_other", "_law_turn", "_law_name", "_law_odd_here"] "law" (af dD) a.l_ cdv A outer s H (gcE H E)) (Zg 6 zx) u /\ ∀ (D : fA) nms x G (j : Nat) (ai ce : Int) l1 l2 x10 x11 n, LI a.av a.aA H G nms x n -> n <= 49 -> j < ns.length -> (ai = 0 \/ ai = 1) -> (∀ G' x10 x11, LI a.av a.aA H G' nms x (n + 1) -> D.nx (sig pS x (some (.int j)) (some (.int ai)) (some (.int ce)) (some (L2.T l1)) (some (L2.T l2)) x10 x11 none) G') -> u D (sig pS x (some (.int j)) (some (.int ai)) (some (.int ce)) (some (L2.T l1)) (some (L2.T l2)) x10 x11 none) G := by
  refine ⟨_, (ae (eJ (by passes_own) rfl (Bf K rfl T.kA (dW (FA.pa (aa (fv 8) (aa (fv 9) (aa (fv 8) ad)))))) (oZ K (n := 2) rfl (cp (a_ (i := 10) ND rfl (Or.inl rfl)) (cp (a_ (i := 11) ND rfl (Or.inl rfl)) k_))) (aj (a9 (cw (bO (au G__law_told (hr.mono (by decide)) rfl T.qt T.f_.kp b__law_told .nil aQ (FA.pa (aa (aH (ao K) (fv 2) (fv 6) (fun _ _ => rfl)) (aa (aH (ao K) (fv 3) (fv 6) (fun _ _ => rfl)) (aa (fv 11) (aa (au G__law_mixed (hr.mono (by decide)) rfl T.bi T.aX.kp b__law_mixed .nil aQ (FA.pa (aa (aH (ao K) (fv 0) (fv 5) (fun _ _ => rfl)) (aa (ak aY ac (fv 10)) ad)))) ad)))))))) (aj (aD dk)) aL)))
   hu7b), fun D nms x G j ai ce l1 l2 x10 x11 n L hn hj ha kk => ?_⟩
  have L' := L
  obtain ⟨os1, rs1, os2, rs2, hs, X⟩ := L'
  obtain ⟨p, d, r, os, rs, ep, er, S, _⟩ := L.side ha
  walk_at "rd"
  refine DO ?_
  walk_at "rd"
  refine ⟨by omega, fun tp ft => ?_⟩
  obtain ⟨G1, ee, s1, g1, N1⟩ := alloc (o := HO.tup [L2.T l1, L2.T l2, L2.T l1]) ft X.nT rfl
  rw [ee]
  refine ⟨⟨_, SqT.of g1⟩, Dp (xs := [L2.T l1, L2.T l2, L2.T l1]) (fun i σ' G' => Same G1 G' /\ NoT G' /\ ∃ x10 x11, σ' = sig pS x (some (.int j)) (some (.int ai)) (some (.int ce)) (some (L2.T l1)) (some (L2.T l2)) x10 x11 none) ⟨Same.refl _, N1, x10, x11, rfl⟩ (fun i σ' G' h => SqT.of (h.1 _ _ g1)) ?_ ?_⟩
  ·rintro i v σ' G' q hv fq ⟨sG, nG, x10, x11, rfl⟩
   obtain ⟨l, rfl⟩ : ∃ l, v = L2.T l := by
    rcases i with _ | _ | _ | i
    ·cases hv; exact ⟨_, rfl⟩
    ·cases hv; exact ⟨_, rfl⟩
    ·cases hv; exact ⟨_, rfl⟩
    ·cases hv
   have hi : i < 3 := (List.getElem?_eq_some_iff.mp hv).1
   obtain ⟨G2, ee, s2, g2, N2⟩ := alloc (o := HO.tup [.int i, L2.T l]) fq nG rfl
   rw [ee]
   have sA := s1.trans (sG.trans s2)
   have X2 := X.same sA N2
   walk_at "rd"
   refine ⟨q, _, rfl, SqT.of g2, rfl, _, _, rfl, _, _, rfl, rfl, _, _, sqa X2.bq, ep, _, _, sqa X2.rq, er, ?_⟩
   have gj : atI (ns.map V.int) (j : Int) = some (.int ns[j]) := cJ (by rw [List.getElem?_map, List.getElem?_eq_getElem hj]; rfl)
   refine ⟨_, _, .inl (hS.same X2.s), gj, ?_⟩
   walk_at "rd"
   refine ⟨⟨by omega, by omega⟩, fun i1 _ _ => ⟨N2, nms, d, os, rs, S.same sA, fun G3 s3 n3 => ⟨sG.trans (s2.trans s3), n3, _, _, rfl, rfl⟩⟩⟩
  ·rintro σ' G' ⟨sG, nG, x10, x11, rfl⟩
   exact b7 D nms x G' j ai ce _ _ x10 x11 n (L.same (s1.trans sG) nG) hn fun G2 L2 => kk G2 x10 x11 L2
 obtain ⟨u6, hu6, b6⟩ := b6
 have b5 : ∃ u, PSs (cO (XE P w) P w K mg base ["_law_script", "_law_names_here", "_law_both", "_law_rows", "_law_held", "_law_k", "_law_at", "_law_cell", "_law_one", "_law_other", "_law_turn", "_law_name", "_law_odd_here"] "law" (af dD) a.l_ cdv A outer s H (gcE H E)) (Zg 5 zx) u /\ ∀ (D : fA) nms x G (j : Nat) (ai ce : Int) l1 l2 x10 x11 n, LI a.av a.aA H G nms x n -> n <= 48 -> j < ns.length -> (ai = 0 \/ ai = 1) -> (∀ G' x10 x11, LI a.av a.aA H G' nms x (n + 2) -> D.nx (sig pS x (some (.int j)) (some (.int ai)) (some (.int ce)) (some (L2.T l1)) (some (L2.T l2)) x10 x11 none) G') -> u D (sig pS x (some (.int j)) (some (.int ai)) (some (.int ce)) (some (L2.T l1)) (some (L2.T l2)) x10 x11 none) G := by
  refine ⟨_, (ae (a9 (L2.PW.pt (sK (ba (bf K HU) (ak aO (ak aR (fv 7) ac) ac) ac (aW _)) (o_ (cw (bO (au G__law_all_names (hr.mono (by decide)) rfl T.ia T.df.kp b__law_all_names .nil aQ (FA.pa (aa (fv 2) (aa (fv 3) (aa (fv 4) ad)))))))))) (aj (aD dk)) aL)
   hu6), fun D nms x G j ai ce l1 l2 x10 x11 n L hn hj ha kk => ?_⟩
  walk_at "rd"
  by_cases c2 : ce / 25 % 2 = 1
  ·exact itp c2 (an D nms x G n _ L (by omega) fun G' L' => b6 D nms x G' j ai ce l1 l2 x10 x11 (n + 1) L' (by omega) hj ha kk)
  ·exact itn c2 (b6 D nms x G j ai ce l1 l2 x10 x11 (n + 1) (L.mono (ZC _)) (by omega) hj ha kk)
 obtain ⟨u5b, hu5b, b5⟩ := b5
 have b0 : ∃ u, PSs (cO (XE P w) P w K mg base ["_law_script", "_law_names_here", "_law_both", "_law_rows", "_law_held", "_law_k", "_law_at", "_law_cell", "_law_one", "_law_other", "_law_turn", "_law_name", "_law_odd_here"] "law" (af dD) a.l_ cdv A outer s H (gcE H E)) zx u /\ ∀ (D : fA) nms x G (j : Nat) x6 x7 x8 x9 x10 x11 n, LI a.av a.aA H G nms x n -> n <= 47 -> j < ns.length -> (∀ G' x6 x7 x8 x9 x10 x11, LI a.av a.aA H G' nms x (n + 3) -> D.nx (sig pS x (some (.int j)) x6 x7 x8 x9 x10 x11 none) G') -> u D (sig pS x (some (.int j)) x6 x7 x8 x9 x10 x11 none) G := by
  refine ⟨_, (ae (aE (i := 6) ND rfl (Or.inl rfl) (ak aR (ak aO (aH (ao K) (fv 0) (fv 5) (fun _ _ => rfl)) ac) ac))
   (ae (a9 (cw (bO (au G__law_done (hr.mono (by decide)) rfl T.xy T.jM.kp b__law_done .nil aQ (FA.pa (aa (aH (ao K) (fv 2) (fv 6) (fun _ _ => rfl)) (aa (aH (ao K) (fv 3) (fv 6) (fun _ _ => rfl)) (aa (fv 1) (aa (ak aR (aH (ao K) (fv 0) (fv 5) (fun _ _ => rfl)) ac) ad)))))))) (aj (aD dk)) aL)
   (ae (aE (i := 7) ND rfl (Or.inl rfl) (au G__law_mixed (hr.mono (by decide)) rfl T.bi T.aX.kp b__law_mixed .nil aQ (FA.pa (aa (aH (ao K) (fv 0) (fv 5) (fun _ _ => rfl)) (aa ac ad)))))
   (ae (aE (i := 8) ND rfl (Or.inl rfl) (aH (ao K) (fv 1) (ak aO (fv 7) ac) (fun _ _ => rfl)))
   (ae (aE (i := 9) ND rfl (Or.inl rfl) (aH (ao K) (fv 1) (ak aO (ak aR (fv 7) ac) ac) (fun _ _ => rfl)))
   hu5b))))), fun D nms x G j x6 x7 x8 x9 x10 x11 n L hn hj kk => ?_⟩
  have L' := L
  obtain ⟨os1, rs1, os2, rs2, hs, X⟩ := L'
  have gj : atI (ns.map V.int) (j : Int) = some (.int ns[j]) := cJ (by rw [List.getElem?_map, List.getElem?_eq_getElem hj]; rfl)
  have ha : ns[j] % 3 / 2 = 0 \/ ns[j] % 3 / 2 = 1 := by omega
  obtain ⟨p, d, r, os, rs, ep, er, S, hdr, lo, step⟩ := L.side ha
  have hs1 := Or.inl (b := SqT K G pS (ns.map V.int)) (hS.same X.s)
  walk_at "rd"
  refine ⟨_, _, hs1, gj, ?_⟩
  walk_at "rd"
  refine ⟨_, _, sqa X.bq, ep, _, _, sqa X.rq, er, _, _, hs1, gj, ?_⟩
  walk_at "rd"
  refine ⟨X.nT, nms, d, os, rs, S, hdr, by omega, X.nq, X.l5, X.nn, fun os' rs' G1 g => ?_⟩
  have L1 := step G1 os' rs' g
  have L1' := L1
  obtain ⟨os1', rs1', os2', rs2', hs', X1⟩ := L1'
  refine ⟨_, _, .inl (hS.same X1.s), gj, ?_⟩
  walk_at "rd"
  intro ce c0 c1
  obtain ⟨l1, e1⟩ := at5 X.l5 (ce % 5) (by omega) (by omega)
  obtain ⟨l2, e2⟩ := at5 X.l5 (ce / 5 % 5) (by omega) (by omega)
  refine ⟨_, _, sqa X1.nq, e1, _, _, sqa X1.nq, e2, ?_⟩
  exact b5 D nms x G1 j _ ce l1 l2 x10 x11 (n + 1) L1 (by omega) hj ha fun G2 x10 x11 L2 => kk G2 _ _ _ _ x10 x11 L2
 obtain ⟨ub, hub, b0⟩ := b0
 have c4 : ∃ u, PSs (cO (XE P w) P w K mg base ["_law_script", "_law_names_here", "_law_both", "_law_rows", "_law_held", "_law_k", "_law_at", "_law_cell", "_law_one", "_law_other", "_law_turn", "_law_name", "_law_odd_here"] "law" (af dD) a.l_ cdv A outer s H (gcE H E)) (Zg 4 (aw dD)) u /\ ∀ nms x G, LI a.av a.aA H G nms x 0 -> u { nx := fun _ H' => ∃ G, Gc H G H' /\ Q .non G, rt := fun v H' => ∃ G, Gc H G H' /\ Q v G } (sig pS x none none none none none none none none) G := by
  refine ⟨_, (ae (eJ (by passes_own) rfl (Ax rfl T.iM (FA.pa (aa ac (aa (aB (EV rfl) rfl T.GI FN (FA.pa (aa (aB (eh K) rfl T.lX gN (FA.pa (aa (fv 0) ad))) (aa ac ad)))) ad)))) (a_ (i := 5) ND rfl (Or.inl rfl)) hub)
   hu5), fun nms x G L => ?_⟩
  have L' := L
  obtain ⟨os1, rs1, os2, rs2, hs, X⟩ := L'
  walk_at "rd"
  refine AA ?_
  walk_at "rd"
  refine ⟨_, .inl (hS.same X.s), 3, _, ⟨rfl, rfl⟩, ?_⟩
  rw [zl]
  obtain ⟨j, ej, j1, j2⟩ : ∃ j : Int, (if (19 : Int) < (ns.length : Int) then 19 else (ns.length : Int)) = j /\ j <= 19 /\ j <= ns.length := ⟨_, rfl, by split <;> omega, by split <;> omega⟩
  rw [ej]
  have j0 : 0 <= j := by rw [<- ej]; split <;> omega
  refine ⟨⟨by omega, by omega, by omega, by omega⟩, hR (lo := 3) (n := (j - 3).toNat) (fun i σ' G => LI a.av a.aA H G nms x (3 * i) /\ ∃ x5 x6 x7 x8 x9 x10 x11, σ' = sig pS x x5 x6 x7 x8 x9 x10 x11 none) ⟨L, none, none, none, none, none, none, none, rfl⟩ ?_ ?_⟩
  ·rintro i σ' G hi ⟨L, x5, x6, x7, x8, x9, x10, x11, rfl⟩
   walk_at "rd"
   have e : (3 : Int) + (i : Int) = ((3 + i : Nat) : Int) := by omega
   rw [e]
   exact b0 _ nms x G (3 + i) x6 x7 x8 x9 x10 x11 (3 * i) L (by omega) (by omega) fun G' x6 x7 x8 x9 x10 x11 L' => ⟨L', _, _, _, _, _, _, _, rfl⟩
  ·rintro σ' G ⟨L, x5, x6, x7, x8, x9, x10, x11, rfl⟩
   exact c5 nms x G x5 x6 x7 x8 x9 x10 x11 (L.mono (by omega))
 obtain ⟨u4, hu4, c4⟩ := c4
 refine ⟨hN, _, (ae (aE (i := 1) ND rfl (Or.inl rfl) (au G__law_names (hr.mono (by decide)) rfl T.wu T.iA.kp b__law_names .nil aQ (FA.pa (aa (au G__law_cell_at (hr.mono (by decide)) rfl T.dF T.cy.kp b__law_cell_at .nil aQ (FA.pa (aa (fv 0) (aa ac ad)))) ad))))
  (ae (aE (i := 2) ND rfl (Or.inl rfl) (bh (FA.pa (aa (uM T.sS G_Budgets___init__ (hr.mono (by decide)) rfl T.uR b_Budgets___init__ .nil aQ) (aa (uM T.sS G_Budgets___init__ (hr.mono (by decide)) rfl T.uR b_Budgets___init__ .nil aQ) ad)))))
  (ae (aE (i := 3) ND rfl (Or.inl rfl) (bh (FA.pa (aa qS (aa qS ad)))))
  (ae (aE (i := 4) ND rfl (Or.inl rfl) (bh (FA.pa ad)))
  hu4)))), ?_⟩
 walk_at "rd"
 refine ⟨ns, hS, hN, fun nms l5 nn nq fq => ?_⟩
 obtain ⟨H1, ee, s1, g1, N1⟩ := alloc (o := HO.lst (nms.map L2.T)) fq hN rfl
 rw [ee]
 intro p1 y1 fp1 fy1 ny1
 refine ⟨aS (aS N1 rfl) rfl, y1, al, fun d1 H2 fd1 J1 k2 N2 => ?_⟩
 have s2 := ug fp1 fy1 k2
 intro p2 y2 fp2 fy2 ny2
 refine ⟨aS (aS N2 rfl) rfl, y2, al, fun d2 H3 fd2 J2 k3 N3 => ?_⟩
 have s3 := ug fp2 fy2 k3
 refine ⟨by omega, fun bq fb => ?_⟩
 obtain ⟨H4, ee, s4, g4, N4⟩ := alloc (o := HO.lst [V.ref p1, V.ref p2]) fb N3 rfl
 rw [ee]
 intro r1 fr1
 obtain ⟨H5, ee, s5, g5, N5⟩ := alloc (o := HO.dK []) fr1 N4 rfl
 rw [ee]
 intro r2 fr2
 obtain ⟨H6, ee, s6, g6, N6⟩ := alloc (o := HO.dK []) fr2 N5 rfl
 rw [ee]
 refine ⟨by omega, fun rq frq => ?_⟩
 obtain ⟨H7, ee, s7, g7, N7⟩ := alloc (o := HO.lst [V.ref r1, V.ref r2]) frq N6 rfl
 rw [ee]
 refine ⟨by omega, fun hq fh => ?_⟩
 obtain ⟨H8, ee, s8, g8, N8⟩ := alloc (o := HO.lst []) fh N7 rfl
 rw [ee]
 have s12 : Same H1 H2 := fun c z e => s2 c z e uD
 have s23 : Same H2 H3 := fun c z e => s3 c z e uD
 have s38 := s4.trans (s5.trans (s6.trans (s7.trans s8)))
 have s28 := s23.trans s38
 have s18 := s12.trans s28
 obtain ⟨e1, ep1⟩ := J1.ob
 obtain ⟨e2, ep2⟩ := J2.ob
 have fd1' := uJ fd1
 have fd2' := uJ fd2
 have s02 := s1.trans s12
 have s03 := s02.trans s23
 have z1 : d1 ≠ r1 := ar ((s23.trans s4) _ _ J1.dc) fr1
 have z2 : d2 ≠ r2 := ar ((s4.trans s5) _ _ J2.dc) fr2
 have z3 : d1 ≠ d2 := ar J1.dc fd2'
 have z4 : d1 ≠ r2 := ar ((s23.trans (s4.trans s5)) _ _ J1.dc) fr2
 have z5 : r1 ≠ d2 := Ne.symm (ar (s4 _ _ J2.dc) fr1)
 have z6 : r1 ≠ r2 := ar g5 fr2
 have nh : ∀ {y : Addr} {o : HO}, H7 y = some o -> y ≠ hq := fun e => ar e fh
 refine c4 nms ⟨nq, bq, rq, hq, p1, d1, r1, p2, d2, r2⟩ H8 ⟨[], [], [], [], [], ⟨s1.trans s18, N8, s18 _ _ g1, (s5.trans (s6.trans (s7.trans s8))) _ _ g4, s8 _ _ g7, ⟨nh ((s12.trans (s23.trans (s4.trans (s5.trans (s6.trans s7))))) _ _ g1), nh ((s5.trans (s6.trans s7)) _ _ g4), nh g7⟩, ⟨⟨J1.same s28, (s6.trans (s7.trans s8)) _ _ g5, (fun _ h => nomatch h), .nil, (fun _ h => nomatch h)⟩, ⟨J2.same s38, (s7.trans s8) _ _ g6, (fun _ h => nomatch h), .nil, (fun _ h => nomatch h)⟩, ⟨(fun _ h => nomatch h), (fun _ h => nomatch h)⟩, ⟨(fun _ h => nomatch h), (fun _ h => nomatch h)⟩, zR _, zR _⟩, ⟨g8, (fun _ h => nomatch h)⟩, zR _, ⟨(s03.trans (s4.trans (s5.trans (s6.trans s7)))).free fh, s1.free fd1', (s03.trans s4).free fr1, s02.free fd2', (s03.trans (s4.trans s5)).free fr2⟩, ⟨z1, z2, z3, z4, z5, z6⟩, l5, nn⟩⟩
theorem law_starts {H : Hp} {p : Addr} (hO : A6 H) (hS : SqL K H p (ns.map V.int)) (hl : ns.length <= 63) : sp_law K [.ref p] H (fun v _ => v = .bl true) fun _ _ _ => False := ⟨CC hO, ns, hS, hl, rfl⟩
end
noncomputable abbrev fnQ (x q : String) (s : Stmt) (kV dc pm : Value) (an : Option Addr) (cd ct : Value) : FuncData := ZE x q (aM s) (aw s) (af s) .none kV dc pm an cd ct
noncomputable def NFn (K : W.Frag) (x : Str) (st : Stmt) (f : Addr) : Prop := PySem.W.nsIn K uy x = some (some (.ref f)) /\ ∃ d, Fun K x x st f d
noncomputable def MFn (K : W.Frag) (C : Addr) (m q : Str) (st : Stmt) (f : Addr) : Prop := (Za K (.ref C) m = some (some (.ref f)) /\ PySem.W.isFn K (.ref f) = true) /\ ∃ d, Fun K m q st f d
noncomputable abbrev GH (x q : Str) (s : Stmt) (kV dc pm : Value) (an : Option Addr) (cd ct : Value) : FuncData := ZE x q (aM s) (aw s) (af s) .none kV dc pm an cd ct
theorem nf_mk {K : W.Frag} {qual : Str} {st : Stmt} {f : Addr} {oc : Value} {od an : Option Addr} {osl : Array (Option Value)} {kV doc pm cdv ct : Value} (a : PySem.W.nsIn K uy qual = some (some (.ref f))) (l : K.lookup f = some ⟨oc, od, .func (GH qual qual st kV doc pm an cdv ct), osl⟩) (c : YJ K cdv qual = true) (k : Yz K (.ref f) = true) : NFn K qual st f := ⟨a, _, yK l c k⟩
theorem mf_mk {K : W.Frag} {x qual : Str} {st : Stmt} {f C : Addr} {oc : Value} {od an : Option Addr} {osl : Array (Option Value)} {kV doc pm cdv ct : Value} (a : Za K (.ref C) x = some (some (.ref f))) (i : PySem.W.isFn K (.ref f) = true) (l : K.lookup f = some ⟨oc, od, .func (GH x qual st kV doc pm an cdv ct), osl⟩) (c : YJ K cdv qual = true) (k : Yz K (.ref f) = true) : MFn K C x qual st f := ⟨⟨a, i⟩, _, yK l c k⟩
open PySem.W in
theorem all_mk {l : OpenLaw} {w : World} {K : Frag} {h : Heap} {mg : Str -> Option Value} {fa : Addr} (X : K.In h) (G : h.Ns uy mg) (hfa : mg "law" = some (.ref fa))
 {C0 C1 C2 C3 C4 C5 C6 C7 C8 C9 C10 C11 C12 C13 C14 : Addr}
 {f0 f1 f2 f3 f4 f5 f6 f7 f8 f9 f10 f11 f12 f13 f14 f15 f16 f17 f18 f19 f20 f21 f22 f23 f24 f25 f26 f27 f28 f29 f30 f31 f32 f33 f34 f35 f36 f37 f38 f39 f40 f41 f42 f43 : Addr} {od an : Option Addr} {sl : Array (Option Value)} {oc kV dc pm cd ct : Value}
 {cl0 : Z7}
 {cl1 : Z7}
 {cl2 : Z7}
 {cl3 : Z7}
 {cl4 : Z7}
 {cl5 : Z7}
 {cl6 : Z7}
 {cl7 : Z7}
 {cl8 : Z7}
 {cl9 : Z7}
 {cl10 : Z7}
 {cl11 : Z7}
 {cl12 : Z7}
 (p0 : nsIn K uy "HouseError" = some (some (.ref C0)))
 (p1 : nsIn K uy "BadName" = some (some (.ref C1)))
 (p2 : nsIn K uy "BadDay" = some (some (.ref C2)))
 (p3 : nsIn K uy "BadMonth" = some (some (.ref C3)))
 (p4 : nsIn K uy "BadCount" = some (some (.ref C4)))
 (p5 : nsIn K uy "BadAmount" = some (some (.ref C5)))
 (p6 : nsIn K uy "BadCurrency" = some (some (.ref C6)))
 (p7 : nsIn K uy "BadShare" = some (some (.ref C7)))
 (p8 : nsIn K uy "BadPath" = some (some (.ref C8)))
 (p9 : nsIn K uy "NoAccount" = some (some (.ref C9)))
 (p10 : nsIn K uy "Twice" = some (some (.ref C10)))
 (p11 : nsIn K uy "NoBudget" = some (some (.ref C11)))
 (p12 : nsIn K uy "NoOrder" = some (some (.ref C12)))
 (p13 : nsIn K uy "Budget" = some (some (.ref C13)))
 (p14 : nsIn K uy "Budgets" = some (some (.ref C14)))
 (l0 : NFn K "is_whole" dt f0)
 (l1 : NFn K "is_among" dq f1)
 (l2 : NFn K "signs_lie" cV f2)
 (l3 : NFn K "is_name" dZ f3)
 (l4 : NFn K "is_month" dv f4)
 (l5 : NFn K "is_amount" c8 f5)
 (l6 : NFn K "is_currency" cr f6)
 (l7 : NFn K "are_names" cZ f7)
 (l8 : NFn K "is_path" d7 f8)
 (l9 : NFn K "are_weights" cv f9)
 (l10 : NFn K "shared" fR f10)
 (l11 : NFn K "are_months" cH f11)
 (l12 : NFn K "_law_cell_at" bR f12)
 (l13 : NFn K "_law_mixed" cD f13)
 (l14 : NFn K "_law_whole" cB f14)
 (l15 : NFn K "_law_names" cK f15)
 (l16 : NFn K "_law_currency" bL f16)
 (l17 : NFn K "_law_weights" bW f17)
 (l18 : NFn K "_law_total" cL f18)
 (l19 : NFn K "_law_terms" bv f19)
 (l20 : NFn K "_law_odd" bB f20)
 (l21 : NFn K "_law_word" cA f21)
 (l22 : NFn K "_law_spoilt" bE f22)
 (l23 : NFn K "_law_put" bP f23)
 (l24 : NFn K "_law_refusal" bY f24)
 (l25 : NFn K "_law_month" cE f25)
 (l26 : NFn K "_law_is_none" bU f26)
 (l27 : NFn K "_law_answers" bQ f27)
 (l28 : NFn K "_law_told" cg f28)
 (l29 : NFn K "_law_names_told" bb f29)
 (l30 : NFn K "_law_all_names" bC f30)
 (l31 : NFn K "_law_word_of" bS f31)
 (l32 : NFn K "_law_mended" bF f32)
 (l33 : NFn K "_law_done" bd f33)
 (a34 : nsIn K uy "law" = some (some (.ref f34))) (l34 : K.lookup f34 = some ⟨oc, od, .func (fnQ "law" "law" dD kV dc pm an cd ct), sl⟩) (c34 : codeIn K cd "law" = true) (k34 : keepIn K (.ref f34) = true)
 (l35 : MFn K C13 "__init__" "Budget.__init__" bx f35)
 (l36 : MFn K C14 "__init__" "Budgets.__init__" bj f36)
 (l37 : MFn K C14 "put" "Budgets.put" cq f37)
 (l38 : MFn K C14 "budget" "Budgets.budget" bD f38)
 (l39 : MFn K C14 "drop" "Budgets.drop" bV f39)
 (l40 : MFn K C14 "names" "Budgets.names" bK f40)
 (l41 : MFn K C14 "terms" "Budgets.terms" bM f41)
 (l42 : MFn K C14 "planned" "Budgets.planned" br f42)
 (l43 : MFn K C14 "planned_by" "Budgets.planned_by" be f43)
 (pg13 : plainGet K C13 Str.empty = true) (hd13 : hasDictIn K C13 = true) (po13 : plainOver K C13 = true) (sa13 : findIn K (.ref C13) "__setattr__" = some (some (.builtin "object.__setattr__"))) (mk13 : makesIn K C13 = true) (kc13 : keepIn K (.ref C13) = true)
 (na13_0 : findIn K (.ref C13) "agreed" = some none)
 (na13_1 : findIn K (.ref C13) "first" = some none)
 (na13_2 : findIn K (.ref C13) "parts" = some none)
 (pg14 : plainGet K C14 Str.empty = true) (hd14 : hasDictIn K C14 = true) (po14 : plainOver K C14 = true) (sa14 : findIn K (.ref C14) "__setattr__" = some (some (.builtin "object.__setattr__"))) (mk14 : makesIn K C14 = true) (kc14 : keepIn K (.ref C14) = true)
 (na14_0 : findIn K (.ref C14) "by_name" = some none)
 (o0 : clsIn K C0 = some cl0) (r0 : typeIn K (.ref C0) = some (.type "type")) (b0 : mroIn K C0 (.type "BaseException") = some true)
 (o1 : clsIn K C1 = some cl1) (r1 : typeIn K (.ref C1) = some (.type "type")) (b1 : mroIn K C1 (.type "BaseException") = some true)
 (o2 : clsIn K C2 = some cl2) (r2 : typeIn K (.ref C2) = some (.type "type")) (b2 : mroIn K C2 (.type "BaseException") = some true)
 (o3 : clsIn K C3 = some cl3) (r3 : typeIn K (.ref C3) = some (.type "type")) (b3 : mroIn K C3 (.type "BaseException") = some true)
 (o4 : clsIn K C4 = some cl4) (r4 : typeIn K (.ref C4) = some (.type "type")) (b4 : mroIn K C4 (.type "BaseException") = some true)
 (o5 : clsIn K C5 = some cl5) (r5 : typeIn K (.ref C5) = some (.type "type")) (b5 : mroIn K C5 (.type "BaseException") = some true)
 (o6 : clsIn K C6 = some cl6) (r6 : typeIn K (.ref C6) = some (.type "type")) (b6 : mroIn K C6 (.type "BaseException") = some true)
 (o7 : clsIn K C7 = some cl7) (r7 : typeIn K (.ref C7) = some (.type "type")) (b7 : mroIn K C7 (.type "BaseException") = some true)
 (o8 : clsIn K C8 = some cl8) (r8 : typeIn K (.ref C8) = some (.type "type")) (b8 : mroIn K C8 (.type "BaseException") = some true)
 (o9 : clsIn K C9 = some cl9) (r9 : typeIn K (.ref C9) = some (.type "type")) (b9 : mroIn K C9 (.type "BaseException") = some true)
 (o10 : clsIn K C10 = some cl10) (r10 : typeIn K (.ref C10) = some (.type "type")) (b10 : mroIn K C10 (.type "BaseException") = some true)
 (o11 : clsIn K C11 = some cl11) (r11 : typeIn K (.ref C11) = some (.type "type")) (b11 : mroIn K C11 (.type "BaseException") = some true)
 (o12 : clsIn K C12 = some cl12) (r12 : typeIn K (.ref C12) = some (.type "type")) (b12 : mroIn K C12 (.type "BaseException") = some true)
 (g5 : mroIn K C5 (.type "object") = some true) (v5 : mroIn K C5 (.type "ValueError") = some true) (u5 : findIn K (.ref C5) "__getattribute__" = some (some (.builtin "BaseException.__getattribute__"))) (w5 : findIn K (.ref C5) "__getattr__" = some none) (y5 : findIn K (.ref C5) "__class__" = some (some (.builtin "object.__class__")))
 (s5_0 : mroIn K C5 (.ref C0) = some true)
 (s5_1 : mroIn K C5 (.ref C1) = some false)
 (s5_2 : mroIn K C5 (.ref C2) = some false)
 (s5_3 : mroIn K C5 (.ref C3) = some false)
 (s5_4 : mroIn K C5 (.ref C4) = some false)
 (s5_5 : mroIn K C5 (.ref C5) = some true)
 (s5_6 : mroIn K C5 (.ref C6) = some false)
 (s5_7 : mroIn K C5 (.ref C7) = some false)
 (s5_8 : mroIn K C5 (.ref C8) = some false)
 (s5_9 : mroIn K C5 (.ref C9) = some false)
 (s5_10 : mroIn K C5 (.ref C10) = some false)
 (s5_11 : mroIn K C5 (.ref C11) = some false)
 (s5_12 : mroIn K C5 (.ref C12) = some false)
 (g6 : mroIn K C6 (.type "object") = some true) (v6 : mroIn K C6 (.type "ValueError") = some true) (u6 : findIn K (.ref C6) "__getattribute__" = some (some (.builtin "BaseException.__getattribute__"))) (w6 : findIn K (.ref C6) "__getattr__" = some none) (y6 : findIn K (.ref C6) "__class__" = some (some (.builtin "object.__class__")))
 (s6_0 : mroIn K C6 (.ref C0) = some true)
 (s6_1 : mroIn K C6 (.ref C1) = some false)
 (s6_2 : mroIn K C6 (.ref C2) = some false)
 (s6_3 : mroIn K C6 (.ref C3) = some false)
 (s6_4 : mroIn K C6 (.ref C4) = some false)
 (s6_5 : mroIn K C6 (.ref C5) = some false)
 (s6_6 : mroIn K C6 (.ref C6) = some true)
 (s6_7 : mroIn K C6 (.ref C7) = some false)
 (s6_8 : mroIn K C6 (.ref C8) = some false)
 (s6_9 : mroIn K C6 (.ref C9) = some false)
 (s6_10 : mroIn K C6 (.ref C10) = some false)
 (s6_11 : mroIn K C6 (.ref C11) = some false)
 (s6_12 : mroIn K C6 (.ref C12) = some false)
 (g3 : mroIn K C3 (.type "object") = some true) (v3 : mroIn K C3 (.type "ValueError") = some true) (u3 : findIn K (.ref C3) "__getattribute__" = some (some (.builtin "BaseException.__getattribute__"))) (w3 : findIn K (.ref C3) "__getattr__" = some none) (y3 : findIn K (.ref C3) "__class__" = some (some (.builtin "object.__class__")))
 (s3_0 : mroIn K C3 (.ref C0) = some true)
 (s3_1 : mroIn K C3 (.ref C1) = some false)
 (s3_2 : mroIn K C3 (.ref C2) = some false)
 (s3_3 : mroIn K C3 (.ref C3) = some true)
 (s3_4 : mroIn K C3 (.ref C4) = some false)
 (s3_5 : mroIn K C3 (.ref C5) = some false)
 (s3_6 : mroIn K C3 (.ref C6) = some false)
 (s3_7 : mroIn K C3 (.ref C7) = some false)
 (s3_8 : mroIn K C3 (.ref C8) = some false)
 (s3_9 : mroIn K C3 (.ref C9) = some false)
 (s3_10 : mroIn K C3 (.ref C10) = some false)
 (s3_11 : mroIn K C3 (.ref C11) = some false)
 (s3_12 : mroIn K C3 (.ref C12) = some false)
 (g1 : mroIn K C1 (.type "object") = some true) (v1 : mroIn K C1 (.type "ValueError") = some true) (u1 : findIn K (.ref C1) "__getattribute__" = some (some (.builtin "BaseException.__getattribute__"))) (w1 : findIn K (.ref C1) "__getattr__" = some none) (y1 : findIn K (.ref C1) "__class__" = some (some (.builtin "object.__class__")))
 (s1_0 : mroIn K C1 (.ref C0) = some true)
 (s1_1 : mroIn K C1 (.ref C1) = some true)
 (s1_2 : mroIn K C1 (.ref C2) = some false)
 (s1_3 : mroIn K C1 (.ref C3) = some false)
 (s1_4 : mroIn K C1 (.ref C4) = some false)
 (s1_5 : mroIn K C1 (.ref C5) = some false)
 (s1_6 : mroIn K C1 (.ref C6) = some false)
 (s1_7 : mroIn K C1 (.ref C7) = some false)
 (s1_8 : mroIn K C1 (.ref C8) = some false)
 (s1_9 : mroIn K C1 (.ref C9) = some false)
 (s1_10 : mroIn K C1 (.ref C10) = some false)
 (s1_11 : mroIn K C1 (.ref C11) = some false)
 (s1_12 : mroIn K C1 (.ref C12) = some false)
 (g8 : mroIn K C8 (.type "object") = some true) (v8 : mroIn K C8 (.type "ValueError") = some true) (u8 : findIn K (.ref C8) "__getattribute__" = some (some (.builtin "BaseException.__getattribute__"))) (w8 : findIn K (.ref C8) "__getattr__" = some none) (y8 : findIn K (.ref C8) "__class__" = some (some (.builtin "object.__class__")))
 (s8_0 : mroIn K C8 (.ref C0) = some true)
 (s8_1 : mroIn K C8 (.ref C1) = some false)
 (s8_2 : mroIn K C8 (.ref C2) = some false)
 (s8_3 : mroIn K C8 (.ref C3) = some false)
 (s8_4 : mroIn K C8 (.ref C4) = some false)
 (s8_5 : mroIn K C8 (.ref C5) = some false)
 (s8_6 : mroIn K C8 (.ref C6) = some false)
 (s8_7 : mroIn K C8 (.ref C7) = some false)
 (s8_8 : mroIn K C8 (.ref C8) = some true)
 (s8_9 : mroIn K C8 (.ref C9) = some false)
 (s8_10 : mroIn K C8 (.ref C10) = some false)
 (s8_11 : mroIn K C8 (.ref C11) = some false)
 (s8_12 : mroIn K C8 (.ref C12) = some false)
 (g7 : mroIn K C7 (.type "object") = some true) (v7 : mroIn K C7 (.type "ValueError") = some true) (u7 : findIn K (.ref C7) "__getattribute__" = some (some (.builtin "BaseException.__getattribute__"))) (w7 : findIn K (.ref C7) "__getattr__" = some none) (y7 : findIn K (.ref C7) "__class__" = some (some (.builtin "object.__class__")))
 (s7_0 : mroIn K C7 (.ref C0) = some true)
 (s7_1 : mroIn K C7 (.ref C1) = some false)
 (s7_2 : mroIn K C7 (.ref C2) = some false)
 (s7_3 : mroIn K C7 (.ref C3) = some false)
 (s7_4 : mroIn K C7 (.ref C4) = some false)
 (s7_5 : mroIn K C7 (.ref C5) = some false)
 (s7_6 : mroIn K C7 (.ref C6) = some false)
 (s7_7 : mroIn K C7 (.ref C7) = some true)
 (s7_8 : mroIn K C7 (.ref C8) = some false)
 (s7_9 : mroIn K C7 (.ref C9) = some false)
 (s7_10 : mroIn K C7 (.ref C10) = some false)
 (s7_11 : mroIn K C7 (.ref C11) = some false)
 (s7_12 : mroIn K C7 (.ref C12) = some false)
 (g11 : mroIn K C11 (.type "object") = some true) (v11 : mroIn K C11 (.type "ValueError") = some true) (u11 : findIn K (.ref C11) "__getattribute__" = some (some (.builtin "BaseException.__getattribute__"))) (w11 : findIn K (.ref C11) "__getattr__" = some none) (y11 : findIn K (.ref C11) "__class__" = some (some (.builtin "object.__class__")))
 (s11_0 : mroIn K C11 (.ref C0) = some true)
 (s11_1 : mroIn K C11 (.ref C1) = some false)
 (s11_2 : mroIn K C11 (.ref C2) = some false)
 (s11_3 : mroIn K C11 (.ref C3) = some false)
 (s11_4 : mroIn K C11 (.ref C4) = some false)
 (s11_5 : mroIn K C11 (.ref C5) = some false)
 (s11_6 : mroIn K C11 (.ref C6) = some false)
 (s11_7 : mroIn K C11 (.ref C7) = some false)
 (s11_8 : mroIn K C11 (.ref C8) = some false)
 (s11_9 : mroIn K C11 (.ref C9) = some false)
 (s11_10 : mroIn K C11 (.ref C10) = some false)
 (s11_11 : mroIn K C11 (.ref C11) = some true)
 (s11_12 : mroIn K C11 (.ref C12) = some false)
 (g10 : mroIn K C10 (.type "object") = some true) (v10 : mroIn K C10 (.type "ValueError") = some true) (u10 : findIn K (.ref C10) "__getattribute__" = some (some (.builtin "BaseException.__getattribute__"))) (w10 : findIn K (.ref C10) "__getattr__" = some none) (y10 : findIn K (.ref C10) "__class__" = some (some (.builtin "object.__class__")))
 (s10_0 : mroIn K C10 (.ref C0) = some true)
 (s10_1 : mroIn K C10 (.ref C1) = some false)
 (s10_2 : mroIn K C10 (.ref C2) = some false)
 (s10_3 : mroIn K C10 (.ref C3) = some false)
 (s10_4 : mroIn K C10 (.ref C4) = some false)
 (s10_5 : mroIn K C10 (.ref C5) = some false)
 (s10_6 : mroIn K C10 (.ref C6) = some false)
 (s10_7 : mroIn K C10 (.ref C7) = some false)
 (s10_8 : mroIn K C10 (.ref C8) = some false)
 (s10_9 : mroIn K C10 (.ref C9) = some false)
 (s10_10 : mroIn K C10 (.ref C10) = some true)
 (s10_11 : mroIn K C10 (.ref C11) = some false)
 (s10_12 : mroIn K C10 (.ref C12) = some false)
 (z0 : nsIn K uy "ValueError" = some none)
 (z1 : nsIn K uy "all" = some none)
 (z2 : nsIn K uy "bool" = some none)
 (z3 : nsIn K uy "enumerate" = some none)
 (z4 : nsIn K uy "int" = some none)
 (z5 : nsIn K uy "isinstance" = some none)
 (z6 : nsIn K uy "len" = some none)
 (z7 : nsIn K uy "list" = some none)
 (z8 : nsIn K uy "max" = some none)
 (z9 : nsIn K uy "min" = some none)
 (z10 : nsIn K uy "range" = some none)
 (z11 : nsIn K uy "sorted" = some none)
 (z12 : nsIn K uy "str" = some none)
 (z13 : nsIn K uy "sum" = some none)
 (z14 : nsIn K uy "tuple" = some none)
 (q5 : excIn K C5 [.type "ValueError", .type "Exception", .type "BaseException", .type "object"] "ValueError.__new__" = true)
 (q6 : excIn K C6 [.type "ValueError", .type "Exception", .type "BaseException", .type "object"] "ValueError.__new__" = true)
 (q3 : excIn K C3 [.type "ValueError", .type "Exception", .type "BaseException", .type "object"] "ValueError.__new__" = true)
 (q1 : excIn K C1 [.type "ValueError", .type "Exception", .type "BaseException", .type "object"] "ValueError.__new__" = true)
 (q8 : excIn K C8 [.type "ValueError", .type "Exception", .type "BaseException", .type "object"] "ValueError.__new__" = true)
 (q7 : excIn K C7 [.type "ValueError", .type "Exception", .type "BaseException", .type "object"] "ValueError.__new__" = true)
 (q11 : excIn K C11 [.type "ValueError", .type "Exception", .type "BaseException", .type "object"] "ValueError.__new__" = true)
 (q10 : excIn K C10 [.type "ValueError", .type "Exception", .type "BaseException", .type "object"] "ValueError.__new__" = true)
 : ∃ fd : FuncData, (∀ (s : Shared) (v : Value), BindsTo s fd ⟨[v], []⟩ [("_law_script", v)]) /\ ∀ base : Heap, K.In base -> base.Ns uy mg -> bz l.prog w K mg base (XE l.prog w) 12 fa fd ["_law_script"] (sp_law K) := by
  have e := hfa.symm.trans (mg_of X G a34)
  cases e
  have T : Txt K mg ⟨f0, l0.2.choose, f1, l1.2.choose, f2, l2.2.choose, f3, l3.2.choose, f4, l4.2.choose, f5, l5.2.choose, f6, l6.2.choose, f7, l7.2.choose, f8, l8.2.choose, f9, l9.2.choose, f10, l10.2.choose, f11, l11.2.choose, f12, l12.2.choose, f13, l13.2.choose, f14, l14.2.choose, f15, l15.2.choose, f16, l16.2.choose, f17, l17.2.choose, f18, l18.2.choose, f19, l19.2.choose, f20, l20.2.choose, f21, l21.2.choose, f22, l22.2.choose, f23, l23.2.choose, f24, l24.2.choose, f25, l25.2.choose, f26, l26.2.choose, f27, l27.2.choose, f28, l28.2.choose, f29, l29.2.choose, f30, l30.2.choose, f31, l31.2.choose, f32, l32.2.choose, f33, l33.2.choose, fa, fnQ "law" "law" dD kV dc pm an cd ct, f35, l35.2.choose, f36, l36.2.choose, f37, l37.2.choose, f38, l38.2.choose, f39, l39.2.choose, f40, l40.2.choose, f41, l41.2.choose, f42, l42.2.choose, f43, l43.2.choose, C0, C1, C2, C3, C4, C5, C6, C7, C8, C9, C10, C11, C12, C13, C14⟩ := ⟨l0.2.choose_spec, mg_of X G l0.1, l1.2.choose_spec, mg_of X G l1.1, l2.2.choose_spec, mg_of X G l2.1, l3.2.choose_spec, mg_of X G l3.1, l4.2.choose_spec, mg_of X G l4.1, l5.2.choose_spec, mg_of X G l5.1, l6.2.choose_spec, mg_of X G l6.1, l7.2.choose_spec, mg_of X G l7.1, l8.2.choose_spec, mg_of X G l8.1, l9.2.choose_spec, mg_of X G l9.1, l10.2.choose_spec, mg_of X G l10.1, l11.2.choose_spec, mg_of X G l11.1, l12.2.choose_spec, mg_of X G l12.1, l13.2.choose_spec, mg_of X G l13.1, l14.2.choose_spec, mg_of X G l14.1, l15.2.choose_spec, mg_of X G l15.1, l16.2.choose_spec, mg_of X G l16.1, l17.2.choose_spec, mg_of X G l17.1, l18.2.choose_spec, mg_of X G l18.1, l19.2.choose_spec, mg_of X G l19.1, l20.2.choose_spec, mg_of X G l20.1, l21.2.choose_spec, mg_of X G l21.1, l22.2.choose_spec, mg_of X G l22.1, l23.2.choose_spec, mg_of X G l23.1, l24.2.choose_spec, mg_of X G l24.1, l25.2.choose_spec, mg_of X G l25.1, l26.2.choose_spec, mg_of X G l26.1, l27.2.choose_spec, mg_of X G l27.1, l28.2.choose_spec, mg_of X G l28.1, l29.2.choose_spec, mg_of X G l29.1, l30.2.choose_spec, mg_of X G l30.1, l31.2.choose_spec, mg_of X G l31.1, l32.2.choose_spec, mg_of X G l32.1, l33.2.choose_spec, mg_of X G l33.1, yK (st := dD) l34 c34 k34, mg_of X G a34, l35.2.choose_spec, ⟨l35.1.1, l35.1.2, l35.2.choose_spec.kp⟩, l36.2.choose_spec, ⟨l36.1.1, l36.1.2, l36.2.choose_spec.kp⟩, l37.2.choose_spec, ⟨l37.1.1, l37.1.2, l37.2.choose_spec.kp⟩, l38.2.choose_spec, ⟨l38.1.1, l38.1.2, l38.2.choose_spec.kp⟩, l39.2.choose_spec, ⟨l39.1.1, l39.1.2, l39.2.choose_spec.kp⟩, l40.2.choose_spec, ⟨l40.1.1, l40.1.2, l40.2.choose_spec.kp⟩, l41.2.choose_spec, ⟨l41.1.1, l41.1.2, l41.2.choose_spec.kp⟩, l42.2.choose_spec, ⟨l42.1.1, l42.1.2, l42.2.choose_spec.kp⟩, l43.2.choose_spec, ⟨l43.1.1, l43.1.2, l43.2.choose_spec.kp⟩, mg_of X G p0, mg_of X G p1, mg_of X G p2, mg_of X G p3, mg_of X G p4, mg_of X G p5, mg_of X G p6, mg_of X G p7, mg_of X G p8, mg_of X G p9, mg_of X G p10, mg_of X G p11, mg_of X G p12, mg_of X G p13, mg_of X G p14, ⟨pg13, hd13, po13, sa13⟩, na13_0, na13_1, na13_2, ⟨mk13, l35.1.1, l35.1.2, kc13⟩, ⟨pg14, hd14, po14, sa14⟩, na14_0, ⟨mk14, l36.1.1, l36.1.2, kc14⟩, q5, ⟨u5, w5, y5, (by rw [o5]; rfl), g5, b5⟩, dA o0 r0 b0 s5_0, ah o5 r5 s5_5 s5_5, ah o4 r4 s5_5 s5_4, ah o6 r6 s5_5 s5_6, ah o2 r2 s5_5 s5_2, ah o3 r3 s5_5 s5_3, ah o1 r1 s5_5 s5_1, ah o8 r8 s5_5 s5_8, ah o7 r7 s5_5 s5_7, ah o9 r9 s5_5 s5_9, ah o11 r11 s5_5 s5_11, ah o12 r12 s5_5 s5_12, ah o10 r10 s5_5 s5_10, dw v5, q6, ⟨u6, w6, y6, (by rw [o6]; rfl), g6, b6⟩, dA o0 r0 b0 s6_0, ah o5 r5 s6_6 s6_5, ah o4 r4 s6_6 s6_4, ah o6 r6 s6_6 s6_6, ah o2 r2 s6_6 s6_2, ah o3 r3 s6_6 s6_3, ah o1 r1 s6_6 s6_1, ah o8 r8 s6_6 s6_8, ah o7 r7 s6_6 s6_7, ah o9 r9 s6_6 s6_9, ah o11 r11 s6_6 s6_11, ah o12 r12 s6_6 s6_12, ah o10 r10 s6_6 s6_10, dw v6, q3, ⟨u3, w3, y3, (by rw [o3]; rfl), g3, b3⟩, dA o0 r0 b0 s3_0, ah o5 r5 s3_3 s3_5, ah o4 r4 s3_3 s3_4, ah o6 r6 s3_3 s3_6, ah o2 r2 s3_3 s3_2, ah o3 r3 s3_3 s3_3, ah o1 r1 s3_3 s3_1, ah o8 r8 s3_3 s3_8, ah o7 r7 s3_3 s3_7, ah o9 r9 s3_3 s3_9, ah o11 r11 s3_3 s3_11, ah o12 r12 s3_3 s3_12, ah o10 r10 s3_3 s3_10, dw v3, q1, ⟨u1, w1, y1, (by rw [o1]; rfl), g1, b1⟩, dA o0 r0 b0 s1_0, ah o5 r5 s1_1 s1_5, ah o4 r4 s1_1 s1_4, ah o6 r6 s1_1 s1_6, ah o2 r2 s1_1 s1_2, ah o3 r3 s1_1 s1_3, ah o1 r1 s1_1 s1_1, ah o8 r8 s1_1 s1_8, ah o7 r7 s1_1 s1_7, ah o9 r9 s1_1 s1_9, ah o11 r11 s1_1 s1_11, ah o12 r12 s1_1 s1_12, ah o10 r10 s1_1 s1_10, dw v1, q8, ⟨u8, w8, y8, (by rw [o8]; rfl), g8, b8⟩, dA o0 r0 b0 s8_0, ah o5 r5 s8_8 s8_5, ah o4 r4 s8_8 s8_4, ah o6 r6 s8_8 s8_6, ah o2 r2 s8_8 s8_2, ah o3 r3 s8_8 s8_3, ah o1 r1 s8_8 s8_1, ah o8 r8 s8_8 s8_8, ah o7 r7 s8_8 s8_7, ah o9 r9 s8_8 s8_9, ah o11 r11 s8_8 s8_11, ah o12 r12 s8_8 s8_12, ah o10 r10 s8_8 s8_10, dw v8, q7, ⟨u7, w7, y7, (by rw [o7]; rfl), g7, b7⟩, dA o0 r0 b0 s7_0, ah o5 r5 s7_7 s7_5, ah o4 r4 s7_7 s7_4, ah o6 r6 s7_7 s7_6, ah o2 r2 s7_7 s7_2, ah o3 r3 s7_7 s7_3, ah o1 r1 s7_7 s7_1, ah o8 r8 s7_7 s7_8, ah o7 r7 s7_7 s7_7, ah o9 r9 s7_7 s7_9, ah o11 r11 s7_7 s7_11, ah o12 r12 s7_7 s7_12, ah o10 r10 s7_7 s7_10, dw v7, q11, ⟨u11, w11, y11, (by rw [o11]; rfl), g11, b11⟩, dA o0 r0 b0 s11_0, ah o5 r5 s11_11 s11_5, ah o4 r4 s11_11 s11_4, ah o6 r6 s11_11 s11_6, ah o2 r2 s11_11 s11_2, ah o3 r3 s11_11 s11_3, ah o1 r1 s11_11 s11_1, ah o8 r8 s11_11 s11_8, ah o7 r7 s11_11 s11_7, ah o9 r9 s11_11 s11_9, ah o11 r11 s11_11 s11_11, ah o12 r12 s11_11 s11_12, ah o10 r10 s11_11 s11_10, dw v11, q10, ⟨u10, w10, y10, (by rw [o10]; rfl), g10, b10⟩, dA o0 r0 b0 s10_0, ah o5 r5 s10_10 s10_5, ah o4 r4 s10_10 s10_4, ah o6 r6 s10_10 s10_6, ah o2 r2 s10_10 s10_2, ah o3 r3 s10_10 s10_3, ah o1 r1 s10_10 s10_1, ah o8 r8 s10_10 s10_8, ah o7 r7 s10_10 s10_7, ah o9 r9 s10_10 s10_9, ah o11 r11 s10_10 s10_11, ah o12 r12 s10_10 s10_12, ah o10 r10 s10_10 s10_10, dw v10, mg_none_of X G z0, mg_none_of X G z1, mg_none_of X G z2, mg_none_of X G z3, mg_none_of X G z4, mg_none_of X G z5, mg_none_of X G z6, mg_none_of X G z7, mg_none_of X G z8, mg_none_of X G z9, mg_none_of X G z10, mg_none_of X G z11, mg_none_of X G z12, mg_none_of X G z13, mg_none_of X G z14⟩
  exact ⟨fnQ "law" "law" dD kV dc pm an cd ct, fun s v => .of_eq rfl, fun base _ _ => FH T⟩
end K25
open PySem PySem.W PyProof.Rows
set_option maxRecDepth 100000 in
set_option maxHeartbeats 0 in
theorem PySem.Challenge.cw_evenhall_k25_budgets_kept_holds : PySem.Challenge.rw_evenhall_k25_budgets_kept.Holds := by
 w_on
 refine PySem.W.holds_law K25.ws fun said => ?_
 refine PySem.W.holds_open (q := K25.vw) (loose := []) (Xt := fun s => PySem.W.xlAt K25.vw [] s && PySem.W.recOk (PySem.W.RowW.records (PySem.W.OpenRow.toRowW (PySem.W.OpenLaw.row PySem.Challenge.rw_evenhall_k25_budgets_kept))) s) (XP := PySem.W.XL K25.vw []) (Yf := PySem.W.Hook.obs (YQ K25.frag K25.adrs K25.adrs_eq)) (Ya := PySem.W.Hook.val (YQ K25.frag K25.adrs K25.adrs_eq)) (YP := PySem.W.Hook.says (YQ K25.frag K25.adrs K25.adrs_eq)) (N := 10044) K25.left (PySem.W.Hook.of (YQ K25.frag K25.adrs K25.adrs_eq)) (PySem.W.Hook.keeps (YQ K25.frag K25.adrs K25.adrs_eq))
  (fun s e => PySem.W.xl_of s (Bool.and_eq_true_iff.mp e).1) PySem.W.XL.keeps (by rfl) (by rfl) (by rfl) (fun s e => PySem.W.recFacts_of (Bool.and_eq_true_iff.mp e).2) (by rfl) (by assumption) (by decide +kernel) ⟨rfl, rfl, rfl, rfl, rfl, by decide +kernel⟩ ?hw ?hc
 (case hw => w_witness2)
 k_fill
 refine L2.CQ (l := PySem.Challenge.rw_evenhall_k25_budgets_kept) (n := 63) (k := 12) (x := "_law_script") (sp := K25.sp_law) rfl (by decide) rfl ⟨rfl, by decide, by decide⟩ (fun w h Y => PySem.W.kIn_of Y) ?F ?S
 case F =>
  intro w mg fa h KX G hmg
  refine' K25.all_mk KX G hmg ?_ ?_ ?_ ?_ ?_ ?_ ?_ ?_ ?_ ?_ ?_ ?_ ?_ ?_ ?_ ?_ ?_ ?_ ?_ ?_ ?_ ?_ ?_ ?_ ?_ ?_ ?_ ?_ ?_ ?_ ?_ ?_ ?_ ?_ ?_ ?_ ?_ ?_ ?_ ?_ ?_ ?_ ?_ ?_ ?_ ?_ ?_ ?_ ?_ ?_ ?_ ?_ ?_ ?_ ?_ ?_ ?_ ?_ ?_ ?_ ?_ ?_ ?_ ?_ ?_ ?_ ?_ ?_ ?_ ?_ ?_ ?_ ?_ ?_ ?_ ?_ ?_ ?_ ?_ ?_ ?_ ?_ ?_ ?_ ?_ ?_ ?_ ?_ ?_ ?_ ?_ ?_ ?_ ?_ ?_ ?_ ?_ ?_ ?_ ?_ ?_ ?_ ?_ ?_ ?_ ?_ ?_ ?_ ?_ ?_ ?_ ?_ ?_ ?_ ?_ ?_ ?_ ?_ ?_ ?_ ?_ ?_ ?_ ?_ ?_ ?_ ?_ ?_ ?_ ?_ ?_ ?_ ?_ ?_ ?_ ?_ ?_ ?_ ?_ ?_ ?_ ?_ ?_ ?_ ?_ ?_ ?_ ?_ ?_ ?_ ?_ ?_ ?_ ?_ ?_ ?_ ?_ ?_ ?_ ?_ ?_ ?_ ?_ ?_ ?_ ?_ ?_ ?_ ?_ ?_ ?_ ?_ ?_ ?_ ?_ ?_ ?_ ?_ ?_ ?_ ?_ ?_ ?_ ?_ ?_ ?_ ?_ ?_ ?_ ?_ ?_ ?_ ?_ ?_ ?_ ?_ ?_ ?_ ?_ ?_ ?_ ?_ ?_ ?_ ?_ ?_ ?_ ?_ ?_ ?_ ?_ ?_ ?_ ?_ ?_ ?_ ?_ ?_ ?_ ?_ ?_ ?_ ?_ ?_ ?_ ?_ ?_ ?_ ?_ ?_ ?_ ?_ ?_ ?_ ?_ ?_ ?_ ?_ ?_ ?_ ?_ ?_ ?_ ?_ ?_ ?_ ?_ ?_ ?_ ?_ ?_ ?_ ?_ ?_ ?_ ?_ ?_ ?_ ?_ ?_ ?_ ?_ ?_ ?_ ?_ ?_ ?_ ?_ ?_ ?_ ?_ ?_ ?_ ?_ ?_ ?_ ?_ ?_ ?_ ?_ ?_ ?_ ?_ ?_
  all_goals try first | k_is | k_exc | refine' K25.nf_mk ?_ ?_ ?_ ?_ | refine' K25.mf_mk ?_ ?_ ?_ ?_ ?_
  all_goals try first | k_is | k_exc
  all_goals try first | k_is | k_exc
 case S => exact fun K H a ns hl hO hS => K25.law_starts hO hS hl
