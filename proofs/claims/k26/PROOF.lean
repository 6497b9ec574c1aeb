import PyProof.Rows.All
import KE.KUnpack
import PyProof.DictTruth
import PyProof.DictWalks
import PyProof.Rows.SortKeyStr
import KE.KItem
import KE.KTupSum
import KE.KEqDict
import KE.KFromBytes
import KE.KIntText
import KE.KRevIter
import KE.KDictOf
import KE.LcSums
import KE.KDictSum
import KE.KTryMore
import OpenK.KLine
import OpenK.KOwn
import Wide.Line
import Wide.FinOn
import Lean
import PySem.Challenge.RW_evenhall_k26_whole_plans_and_what_was_do
set_option Elab.async false
set_option linter.all false
set_option maxRecDepth 100000
open And renaming intro -> yO
open Array renaming length_toList -> ZB, perm_iff_toList_perm -> Z5
open Bool renaming false_ne_true -> xh, and_eq_true -> sW, false_eq_true -> nJ, true_and -> Z0, eq_iff_iff -> Yg
open Classical renaming byContradiction -> Z8
open False renaming elim -> Z3
open Int renaming eq_ofNat_of_zero_le -> mW, toNat_natCast -> ZY, emod_lt_of_pos -> ZU, emod_nonneg -> ZE, toNat -> Z1, le_refl -> Yy, add_assoc -> Yt
open List renaming mem_singleton -> zr, mem_cons -> ze, length_map -> zc, size_toArray -> yY, not_mem_nil -> yU, range -> xp, length_append -> wz, map_cons -> wW, map_map -> vD, mem_cons_of_mem -> tj, mem_of_getElem? -> tM, mem_append -> tD, length_singleton -> t8, map_append -> sY, length_cons -> sX, mem_map -> rf, take_of_length_le -> qa, length_take -> qK, mem_append_right -> pe, filter_eq_self -> pb, lookup -> nj, nodup_cons -> nW, map_congr_left -> Zr, all_eq_true -> Zo, sum_cons -> Zn, mem_cons_self -> Zm, filter_cons_of_pos -> Zh, filter_cons_of_neg -> Zg, filter_append -> Ze, mem_range -> ZW, take_length -> ZT, take_succ -> ZQ, length -> ZN, drop -> ZL, mem_of_mem_take -> ZI, append_nil -> ZF, cons_append -> Z2, length_filter_le -> Z6, pairwise_iff_getElem -> Z7, length_range -> Yv, nodup_range -> Yp, pairwise_cons -> Yl, length_nil -> Yi, filter_nil -> Yh, mem_append_left -> YV, map_nil -> YT, length_drop -> YS, map_take -> YO
open Nat renaming le_refl -> zM, lt_of_lt_of_le -> tN, ne_of_lt -> tB, le_trans -> qM, zero_le -> o3, lt_irrefl -> ZX, le_succ -> YI
open Option renaming map_eq_some_iff -> Zb, isSome_map -> Yw
open Option.some renaming inj -> nc
open PyProof.Rows renaming callWith_type1 -> ZS
open PySem renaming wpAny_bind -> zz, wpAny_pure -> yZ, mainGlobals -> xf, sizeLine_eq -> ue, compareOp -> pZ, bootBuiltins -> nC, wpAny_truthy_bool -> gS, wpAny_mono -> Zq, wpAny_newObj_type -> Zj, wpAny_call_entry -> Zc, mem_of_lookup -> ZP, wpAny_field -> ZO, sysModules -> ZK, wpAny_typeNameOfWhole_keyiter -> ZH, wpAny_holding -> ZA, sliceBounds -> Yz, assignEach -> Yu, wpAny_typeNameOf_keyiter -> Ys, wpAny_getItem_str_slice -> Yo, wpAny_setField_rec -> Yn, wpAny_Call_Name_kw -> Ym, DictEntry -> Ye, behindInMarks -> Yd, attributeBase -> YQ, wpAny_passesOwn -> YL, tupleKind_room_in1 -> YK
open PySem.AutoSeq1 renaming wpAny_loadPart' -> YM
open PySem.Builtin.List renaming listTooLong -> YN
open PySem.Builtin.Slice renaming slicePlaces -> Z9, sliceAdjust -> YR
open PySem.Builtin.SmallTypes renaming nextOf -> ZM
open PySem.Builtin.Str renaming strKind -> ZC, strSliceIndices -> YX
open PySem.Builtin.Tuple renaming tupleExact -> Yr
open PySem.Data renaming fields -> YH
open PySem.F renaming excBase_ValueError -> pf, type_list_append -> Zl, slot_list_append -> Zk, plainAttrs_list -> Zi, slot_dict_keyiterator_next -> ZD, slot_tuple_iterator_next -> Z4, plainAttrs_str -> Yj, slot_enumerate_next -> YY
open PySem.Heap renaming lt_size -> xi, SameBut -> ZV
open PySem.Obj renaming mapSeq -> Za, isFreed_of_fields -> YZ, data_mapFields -> YJ
open PySem.Str renaming ofString -> wo, length -> YW
open PySem.Value renaming ref -> vY, none -> ZR, int -> YU
open PySem.W renaming kitOne -> Zp, findIn -> Zf, kia_one -> Zd, emptyDict -> ZZ, instObj -> ZG, fnOf -> Yx, keepIn -> Yq, mroIn -> Yc, kHook -> Yb
open True renaming intro -> ZJ
namespace L2
theorem Zs {n k c : Nat} (h : n + 100 < c) (d : k <= 100 := by decide) : n + k < c := Nat.lt_of_le_of_lt (Nat.add_le_add_left d _) h
open PySem
noncomputable def dN (s : Stmt) (j : Nat) : Stmt := match s with
 | .ClassDef _ _ _ body _ _ _ _ _ _ _ => body.getD j (.Pass ⟨0, 0, 0, 0⟩)
 | _ => .Pass ⟨0, 0, 0, 0⟩
noncomputable def aB (s : Stmt) : Arguments := match s with
 | .FunctionDef _ a _ _ _ _ _ _ _ _ => a
 | _ => { posonlyargs := [], args := [], vararg := none, kwonlyargs := [], kw_defaults := [], kwarg := none, defaults := [] }
noncomputable def ay (s : Stmt) : List Stmt := match s with
 | .FunctionDef _ _ b _ _ _ _ _ _ _ => b
 | _ => []
noncomputable def ae (s : Stmt) : Scope := match s with
 | .FunctionDef _ _ _ _ _ _ sc _ _ _ => sc
 | _ => { kind := .function, names := [], isGenerator := false, isCoroutine := false }
end L2
namespace K26
open PySem L2
noncomputable def top (i : Nat) : Stmt := PySem.Challenge.pw_evenhall_k26_whole_plans_and_what_was_do.main.body.getD i (.Pass ⟨0, 0, 0, 0⟩)
noncomputable abbrev dY : Stmt := top 16
noncomputable abbrev dZ : Stmt := top 17
noncomputable abbrev c9 : Stmt := top 18
noncomputable abbrev eF : Stmt := top 19
noncomputable abbrev dP : Stmt := top 22
noncomputable abbrev de : Stmt := top 23
noncomputable abbrev dh : Stmt := top 24
noncomputable abbrev dR : Stmt := top 25
noncomputable abbrev dg : Stmt := top 27
noncomputable abbrev eO : Stmt := top 28
noncomputable abbrev c6 : Stmt := top 29
noncomputable abbrev bH : Stmt := top 31
noncomputable abbrev cO : Stmt := top 33
noncomputable abbrev eK : Stmt := top 34
noncomputable abbrev lA : Stmt := top 35
noncomputable abbrev lI : Stmt := top 36
noncomputable abbrev c8 : Stmt := top 38
noncomputable abbrev cr : Stmt := top 39
noncomputable abbrev cn : Stmt := top 41
noncomputable abbrev fR : Stmt := top 42
noncomputable abbrev cJ : Stmt := top 44
noncomputable abbrev bX : Stmt := top 50
noncomputable abbrev cL : Stmt := top 51
noncomputable abbrev cQ : Stmt := top 52
noncomputable abbrev cR : Stmt := top 53
noncomputable abbrev cS : Stmt := top 54
noncomputable abbrev bD : Stmt := top 55
noncomputable abbrev bR : Stmt := top 56
noncomputable abbrev dW : Stmt := top 57
noncomputable abbrev cy : Stmt := top 58
noncomputable abbrev db : Stmt := top 59
noncomputable abbrev a8 : Stmt := top 60
noncomputable abbrev dU : Stmt := top 61
noncomputable abbrev bh : Stmt := top 62
noncomputable abbrev cZ : Stmt := top 63
noncomputable abbrev bZ : Stmt := top 64
noncomputable abbrev df : Stmt := top 65
noncomputable abbrev ce : Stmt := top 66
noncomputable abbrev cK : Stmt := top 67
noncomputable abbrev bp : Stmt := top 68
noncomputable abbrev bC : Stmt := top 69
noncomputable abbrev dy : Stmt := top 70
noncomputable abbrev bB : Stmt := dN (top 45) 0
noncomputable abbrev bv : Stmt := dN (top 46) 0
noncomputable abbrev cp : Stmt := dN (top 46) 1
noncomputable abbrev bI : Stmt := dN (top 46) 2
noncomputable abbrev bO : Stmt := dN (top 46) 4
noncomputable abbrev bP : Stmt := dN (top 46) 5
noncomputable abbrev bA : Stmt := dN (top 46) 6
noncomputable abbrev bd : Stmt := dN (top 46) 7
noncomputable abbrev bt : Stmt := dN (top 48) 0
noncomputable abbrev cv : Stmt := dN (top 48) 1
noncomputable abbrev cf : Stmt := dN (top 48) 3
noncomputable abbrev bN : Stmt := dN (top 48) 4
end K26
namespace TR
open PySem PySem.W
def go (p : Program) (w : World) (lo : Nat) (an : Option Value) : Nat -> SharedT -> Thread -> Option SharedT
 | 0, _, _ => none
 | k + 1, x, th => match through th with
  | true => some x
  | false => match stepOk lo an th with
   | false => none
   | true => match stepT (denote treeTable) p w x th with
    | none => none
    | some y => go p w lo an k y.1 y.2
theorem rO {p : Program} {w : World} {lo : Nat} {an : Option Value} (k : Nat) : ∀ {x y : SharedT} {th : Thread}, go p w lo an k x th = some y -> topRun treeTable p w lo an k x.abs th = some y.abs := by
 induction k with
 | zero => intro x y th e; cases e
 | succ k ih =>
  intro x y th e
  unfold go at e
  unfold topRun
  revert e
  cases through th with
  | true => intro e; cases e; rfl
  | false =>
   cases stepOk lo an th with
   | false => intro e; cases e
   | true =>
    dsimp only
    cases z : stepT (denote treeTable) p w x th with
    | none => intro e; cases e
    | some v =>
     intro e
     obtain ⟨v1, v2⟩ := v
     rw [stepT_spec z]
     exact ih e
noncomputable def lookB (p : Program) (b : Heap) (s : Shared) : Bool := staticsOk (importedModules p.main.body) b s.heap && namesBound p s.heap && gensDone s && laidKept b s.heap
noncomputable def look (p : Program) (P : Params) (s : Shared) : Bool := lookB p (boot_heap P) s
theorem left {p q : Program} {ls : List Str} {Xt : Shared -> Bool} {β : Type} {Yf : Shared -> β} {Ya : World -> β} {N lo : Nat} {an : Option Value} {tr : Params -> BT}
 (ho : ∀ w : World, (fencedOpening treeTable p w N).map (fun s => (s.heap, s.gens, s.drawn, s.toks)) = some (boot_heap w.params, Array.mk [], boot_drawn, boot_toks))
 (hz : ∀ P : Params, ((boot_heap P).isNs xf, (boot_heap P).objs.size, (boot_heap P).nsMap xf "__annotations__") = (true, lo, an))
 (ht : ∀ P : Params, absHeap (tr P) lo (boot_heap P).life = boot_heap P)
 (hr : ∀ w : World, (fun os => (go p w lo an N ⟨tr w.params, lo, (boot_heap w.params).life, Array.mk [], boot_drawn, boot_toks, os⟩ (topStub p)).map fun x => (look p w.params x.abs, openSeen q ls (importedModules p.main.body) Xt true x.abs, Yf x.abs)) = fun _ => some (true, openGood q ls, Ya w)) :
 LeftO p q ls Xt Yf Ya N := by
 intro w
 obtain ⟨⟨h, g, d, k, os⟩, e1, e2⟩ := Zb.mp (ho w)
 simp only [Prod.mk.injEq] at e2
 obtain ⟨rfl, rfl, rfl, rfl⟩ := e2
 have z := hz w.params
 simp only [Prod.mk.injEq] at z
 obtain ⟨z1, z2, z3⟩ := z
 obtain ⟨x, r1, r2⟩ := Zb.mp (congrFun (hr w) os)
 simp only [Prod.mk.injEq] at r2
 obtain ⟨l1, l2, l3⟩ := r2
 have t := rO _ r1
 have ab : SharedT.abs ⟨tr w.params, lo, (boot_heap w.params).life, Array.mk [], boot_drawn, boot_toks, os⟩ = ⟨boot_heap w.params, Array.mk [], boot_drawn, boot_toks, os⟩ := by
  show Shared.mk (absHeap (tr w.params) lo (boot_heap w.params).life) _ _ _ _ = _
  rw [ht]
 rw [ab] at t
 have f : topFrom treeTable p w N ⟨boot_heap w.params, Array.mk [], boot_drawn, boot_toks, os⟩ = some x.abs := by
  unfold topFrom
  dsimp only
  rw [z1, z2, z3, t]
  show (match look p w.params x.abs with | true => some x.abs | false => none) = _
  rw [l1]
 unfold openEnds
 rw [e1]
 show (topFrom treeTable p w N _).map _ = _
 rw [f]
 show some (_, _) = _
 rw [l2, l3]
theorem three {α β γ δ : Type} {o : Option α} {f : α -> β} {g : α -> γ} {h : α -> δ} {a : β} {b : γ} {c : δ} (e1 : o.map f = some a) (e2 : o.map g = some b) (e3 : o.map h = some c) : o.map (fun x => (f x, g x, h x)) = some (a, b, c) := by
 cases o with
 | none => cases e1
 | some x => cases e1; cases e2; cases e3; rfl
end TR
namespace K26
open PySem L2
abbrev kS (s : String) : Str := wo s
abbrev kR (a : Addr) : Value := .ref a
abbrev kY (s : String) : Value := .type s
abbrev kB (s : String) : Value := .builtin s
abbrev kZ (s : Str) (t : Tok) : Value := .str s t
abbrev kN : Value := .none
abbrev kD (h : Int) (k v : Value) : Ye := ⟨h, k, v⟩
abbrev kO (c : Value) (d : Option Addr) (t : Data) (s : Array (Option Value)) : Obj := ⟨c, d, t, s⟩
abbrev keyHash := PyData.keyHash
abbrev kE (P : Params) (s : String) (t : Tok) (v : Value) : Ye := ⟨keyHash P (kS s), kZ (kS s) t, v⟩
abbrev kI (i : Int) (t : Tok) : Value := .int i t
abbrev kz (s : String) (t : Tok) : Value := kZ (kS s) t
abbrev kC (t : Tok) : Value := kz "/claim/cut.py" t
abbrev kT (x : Array Value) : Obj := kO (kY "tuple") none (.seq x 0) #[]
abbrev kU : Value := .bool true
noncomputable abbrev q0 (a : String) (b : Nat) (c : String) (d : Nat) (e : Nat) (f : Int) (g : Int) (h : Nat) (i : Nat) (j : Nat) (k : Nat) (l : Nat) (m : Int) (n : Nat) : Obj := (kO (kY "code") none (YH #[(kz a b), (kz c d), (kC e), (kI f 0), (kI g 0), (kI 0 0), (kI 0 0), (kI 3 0), (kR h), kU, (kI 181 0), (kR i), kN, (kR j), (kR k), (kR l), (kI m 0), (kI f 0), (kC n)]) #[])
noncomputable abbrev q1 (a : String) (b : String) (c : Nat) (d : Nat) (e : Nat) (f : Nat) (g : Int) (h : Nat) (i : Nat) (j : String) (k : Nat) (l : Nat) : Obj := (kO (kY "function") none (Data.func (FuncData.mk (kS a) (kS b) (Arguments.mk [] [(Arg.mk (kS "self") none (Pos.mk c d c e))] none [] [] none []) (FuncBody.stmts [(Stmt.Expr (Expr.Call (Expr.Name (kS "_wall") (Pos.mk f 8 f 13)) [(Expr.Constant (Const.int g) 0 (Pos.mk f 14 f h))] [] (Pos.mk f 8 f i)) (Pos.mk f 8 f i))]) (Scope.mk ScopeKind.function [((kS "self"), NameKind.local), ((kS "_wall"), NameKind.globalImplicit)] false false []) 3 [] kN kN kN (kz j k) none (kR l) kN 0)) #[])
noncomputable abbrev q2 (a : String) (b : Nat) (c : Nat) (d : Nat) (e : Nat) (f : Nat) : Obj := (kO (kY "type") none (Data.cls (ClassData.mk (kS a) [(kR 31)] [(kR b), (kR 31), (kY "ValueError"), (kY "Exception"), (kY "BaseException"), (kY "object")] c (kS a) true [] [] false none false)) #[(some (kR d)), none, (some (kz a e)), (some (kz a f)), (some (kB "ValueError.__new__")), (some kU)])
noncomputable abbrev q3 (a : String) (b : Nat) (c : Nat) (d : Nat) (e : Int) (f : Int) (g : Nat) (h : Nat) (i : Nat) (j : Int) (k : Nat) : Obj := (kO (kY "code") none (YH #[(kz a b), (kz a c), (kC d), (kI e 0), (kI f 0), (kI 0 0), (kI 0 0), (kI 3 0), (kR g), kU, (kI 181 0), (kR h), kN, kN, kN, (kR i), (kI j 0), (kI e 0), (kC k)]) #[])
noncomputable abbrev q4 (P : Params) (a : Nat) (b : Nat) (c : Int) (d : Nat) (e : String) (f : Nat) (g : Nat) (h : String) (i : Nat) (j : Nat) (k : Nat) (l : Nat) : Obj := (kO (kY "dict") none (Data.dict #[(kE P "__module__" a (kz "evenhall.errors" 194)), (kE P "__firstlineno__" b (kI c d)), (kE P e f (kR g)), (kE P h i (kR j)), (kE P "__doc__" k kN)] l) #[])
noncomputable abbrev q5 (a : String) (b : String) (c : Nat) (d : Nat) (e : Nat) (f : String) (g : Nat) (h : Nat) (i : Nat) (j : Int) (k : String) (l : Nat) (m : Nat) : Obj := (kO (kY "function") none (Data.func (FuncData.mk (kS a) (kS b) (Arguments.mk [] [(Arg.mk (kS "self") none (Pos.mk c d c e)), (Arg.mk (kS f) none (Pos.mk c g c h))] none [] [] none []) (FuncBody.stmts [(Stmt.Expr (Expr.Call (Expr.Name (kS "_wall") (Pos.mk i 8 i 13)) [(Expr.Constant (Const.int j) 0 (Pos.mk i 14 i 16))] [] (Pos.mk i 8 i 17)) (Pos.mk i 8 i 17))]) (Scope.mk ScopeKind.function [((kS "self"), NameKind.local), ((kS f), NameKind.local), ((kS "_wall"), NameKind.globalImplicit)] false false []) 3 [] kN kN kN (kz k l) none (kR m) kN 0)) #[])
noncomputable abbrev q6 (a : String) (b : Nat) (c : Nat) (d : Nat) (e : Nat) : Obj := (kO (kY "type") none (Data.cls (ClassData.mk (kS a) [(kY "object")] [(kR b), (kY "object")] c (kS a) true [] [] false none false)) #[none, none, (some (kz a d)), (some (kz a e)), (some (kB "object.__new__")), (some kU)])
noncomputable abbrev q7 (a : Nat) (b : Nat) : Obj := (kO (kY "getset_descriptor") none (YH #[(kz "__weakref__" a), (kR b), (kB "ExceptionGroup.__weakref__"), kN]) #[])
noncomputable abbrev q8 (a : Nat) (b : Nat) : Obj := (kO (kY "getset_descriptor") none (YH #[(kz "__dict__" a), (kR b), (kB "function.__dict__"), (kB "function.__dict__#set")]) #[])
noncomputable abbrev Zz (a b : String) (s : Stmt) (m : String) (n r : Nat) : Obj := (kO (kY "function") none (Data.func (Yx (kS a) (kS b) (aB s) (ay s) (ae s) kN kN kN (kz m n) none (kR r) kN)) #[])
noncomputable abbrev Zy (a b : String) (s : Stmt) (r : Nat) : Obj := Zz a b s "evenhall.words" 490 r
noncomputable abbrev Zx (a b : String) (s : Stmt) (r : Nat) : Obj := Zz a b s "evenhall.days" 521 r
noncomputable abbrev Zw (a b : String) (s : Stmt) (r : Nat) : Obj := Zz a b s "evenhall.watch" 598 r
noncomputable abbrev Zv (a b : String) (s : Stmt) (r : Nat) : Obj := Zz a b s "evenhall.budgets" 664 r
noncomputable abbrev Zu (a b : String) (s : Stmt) (r : Nat) : Obj := Zz a b s "evenhall.journal" 799 r
noncomputable abbrev Zt (a b : String) (s : Stmt) (r : Nat) : Obj := Zz a b s "law_evenhall_k26_whole_plans_and_what_was_do" 872 r
set_option maxRecDepth 100000 in
noncomputable def frag (P : Params) : W.Frag :=
(nat_lit 2, (kO kN none (Data.dict #[] 0) #[]))::
(nat_lit 3, (kO (kY "dict") none (Data.dict #[(kE P "__name__" 165 (kz "law_evenhall_k26_whole_plans_and_what_was_do" 872)), (kE P "__doc__" 166 kN), (kE P "__package__" 167 kN), (kE P "__loader__" 168 (kB "__main__.__loader__#opaque")), (kE P "__spec__" 169 kN), (kE P "__annotations__" 170 (kR 6)), (kE P "__builtins__" 171 (kR 4)), (kE P "__file__" 173 (kC 172)), (kE P "__cached__" 174 kN), (kE P "_wall" 193 (kR 21)), (kE P "HouseError" 213 (kR 31)), (kE P "BadName" 236 (kR 51)), (kE P "BadMonth" 259 (kR 70)), (kE P "BadAmount" 282 (kR 89)), (kE P "BadCurrency" 305 (kR 108)), (kE P "BadShare" 328 (kR 127)), (kE P "BadPath" 351 (kR 146)), (kE P "NoAccount" 374 (kR 165)), (kE P "Twice" 397 (kR 184)), (kE P "NoRate" 420 (kR 203)), (kE P "NoBooking" 443 (kR 222)), (kE P "NoBudget" 466 (kR 241)), (kE P "NoOrder" 489 (kR 260)), (kE P "is_whole" 498 (kR 269)), (kE P "is_among" 507 (kR 276)), (kE P "signs_lie" 513 (kR 281)), (kE P "is_name" 520 (kR 288)), (kE P "LENGTHS" 535 (kR 289)), (kE P "is_month" 542 (kR 296)), (kE P "leap_days" 549 (kR 303)), (kE P "first_day" 559 (kR 310)), (kE P "last_day" 566 (kR 317)), (kE P "are_names" 574 (kR 322)), (kE P "is_path" 581 (kR 329)), (kE P "is_within" 589 (kR 336)), (kE P "amounts_within" 597 (kR 341)), (kE P "sum_within" 605 (kR 346)), (kE P "done_by" 617 (kR 353)), (kE P "left" 627 (kR 360)), (kE P "over" 633 (kR 365)), (kE P "is_amount" 642 (kR 372)), (kE P "is_currency" 649 (kR 379)), (kE P "are_weights" 657 (kR 384)), (kE P "shared" 663 (kR 389)), (kE P "are_months" 673 (kR 396)), (kE P "Budget" 705 (kR 413)), (kE P "Budgets" 798 (kR 483)), (kE P "Journal" 871 (kR 539)), (kE P "_law_cell_at" 881 (kR 550)), (kE P "_law_mixed" 889 (kR 557)), (kE P "_law_whole" 896 (kR 564)), (kE P "_law_names" 902 (kR 569)), (kE P "_law_paths" 916 (kR 576)), (kE P "_law_currencies" 922 (kR 581)), (kE P "_law_first" 933 (kR 588)), (kE P "_law_day" 941 (kR 595)), (kE P "_law_amount" 949 (kR 602)), (kE P "_law_rows" 962 (kR 609)), (kE P "_law_budgets" 968 (kR 614)), (kE P "_law_due" 988 (kR 621)), (kE P "_law_planned_well" 994 (kR 626)), (kE P "_law_none" 1006 (kR 633)), (kE P "_law_answers" 1019 (kR 640)), (kE P "_law_told" 1034 (kR 647)), (kE P "_law_over" 1048 (kR 654)), (kE P "_law_month" 1056 (kR 661)), (kE P "_law_looked" 1069 (kR 668)), (kE P "_law_comes_then" 1075 (kR 673)), (kE P "law" 1081 (kR 678))] 69) #[]))::
(nat_lit 15, (kT #[]))::
(nat_lit 17, (kT #[(kz "k" 190)]))::
(nat_lit 18, (kT #[]))::
(nat_lit 20, (q0 "_wall" 187 "_wall" 188 189 1 1 15 16 17 18 19 191 192))::
(nat_lit 21, (kO (kY "function") none (Data.func (FuncData.mk (kS "_wall") (kS "_wall") (Arguments.mk [] [(Arg.mk (kS "k") none (Pos.mk 1 10 1 11))] none [] [] none []) (FuncBody.stmts [(Stmt.While (Expr.Constant (Const.bool true) 0 (Pos.mk 2 10 2 14)) [(Stmt.Pass (Pos.mk 3 8 3 12))] [] (Pos.mk 2 4 3 12))]) (Scope.mk ScopeKind.function [((kS "k"), NameKind.local)] false false []) 3 [] kN kN kN (kz "__main__" 164) none (kR 20) kN 0)) #[]))::
(nat_lit 22, (kT #[(kY "ValueError")]))::
(nat_lit 29, (kT #[]))::
(nat_lit 30, (q4 P 203 207 5 206 "__static_attributes__" 208 29 "__weakref__" 210 32 211 3))::
(nat_lit 31, (kO (kY "type") none (Data.cls (ClassData.mk (kS "HouseError") [(kY "ValueError")] [(kR 31), (kY "ValueError"), (kY "Exception"), (kY "BaseException"), (kY "object")] 30 (kS "HouseError") true [] [(kR 51), (kR 70), (kR 89), (kR 108), (kR 127), (kR 146), (kR 165), (kR 184), (kR 203), (kR 222), (kR 241), (kR 260)] false none false)) #[(some (kR 22)), none, (some (kz "HouseError" 196)), (some (kz "HouseError" 204)), (some (kB "ValueError.__new__")), (some kU)]))::
(nat_lit 32, (q7 209 31))::
(nat_lit 35, (kT #[(kR 31)]))::
(nat_lit 42, (kT #[]))::
(nat_lit 44, (kT #[(kz "self" 229)]))::
(nat_lit 45, (kT #[]))::
(nat_lit 47, (q0 "small_words" 226 "BadName.small_words" 227 228 9 1 42 43 44 45 46 230 231))::
(nat_lit 48, (q1 "small_words" "BadName.small_words" 9 20 24 10 0 15 16 "evenhall.errors" 194 47))::
(nat_lit 49, (kT #[]))::
(nat_lit 50, (q4 P 221 225 7 224 "small_words" 232 48 "__static_attributes__" 233 49 234 2))::
(nat_lit 51, (q2 "BadName" 51 50 35 214 222))::
(nat_lit 54, (kT #[(kR 31)]))::
(nat_lit 61, (kT #[]))::
(nat_lit 63, (kT #[(kz "self" 252)]))::
(nat_lit 64, (kT #[]))::
(nat_lit 66, (q0 "small_words" 249 "BadMonth.small_words" 250 251 13 1 61 62 63 64 65 253 254))::
(nat_lit 67, (q1 "small_words" "BadMonth.small_words" 13 20 24 14 1 15 16 "evenhall.errors" 194 66))::
(nat_lit 68, (kT #[]))::
(nat_lit 69, (q4 P 244 248 11 247 "small_words" 255 67 "__static_attributes__" 256 68 257 2))::
(nat_lit 70, (q2 "BadMonth" 70 69 54 237 245))::
(nat_lit 73, (kT #[(kR 31)]))::
(nat_lit 80, (kT #[]))::
(nat_lit 82, (kT #[(kz "self" 275)]))::
(nat_lit 83, (kT #[]))::
(nat_lit 85, (q0 "small_words" 272 "BadAmount.small_words" 273 274 17 1 80 81 82 83 84 276 277))::
(nat_lit 86, (q1 "small_words" "BadAmount.small_words" 17 20 24 18 2 15 16 "evenhall.errors" 194 85))::
(nat_lit 87, (kT #[]))::
(nat_lit 88, (q4 P 267 271 15 270 "small_words" 278 86 "__static_attributes__" 279 87 280 2))::
(nat_lit 89, (q2 "BadAmount" 89 88 73 260 268))::
(nat_lit 92, (kT #[(kR 31)]))::
(nat_lit 99, (kT #[]))::
(nat_lit 101, (kT #[(kz "self" 298)]))::
(nat_lit 102, (kT #[]))::
(nat_lit 104, (q0 "small_words" 295 "BadCurrency.small_words" 296 297 21 1 99 100 101 102 103 299 300))::
(nat_lit 105, (q1 "small_words" "BadCurrency.small_words" 21 20 24 22 3 15 16 "evenhall.errors" 194 104))::
(nat_lit 106, (kT #[]))::
(nat_lit 107, (q4 P 290 294 19 293 "small_words" 301 105 "__static_attributes__" 302 106 303 2))::
(nat_lit 108, (q2 "BadCurrency" 108 107 92 283 291))::
(nat_lit 111, (kT #[(kR 31)]))::
(nat_lit 118, (kT #[]))::
(nat_lit 120, (kT #[(kz "self" 321)]))::
(nat_lit 121, (kT #[]))::
(nat_lit 123, (q0 "small_words" 318 "BadShare.small_words" 319 320 25 1 118 119 120 121 122 322 323))::
(nat_lit 124, (q1 "small_words" "BadShare.small_words" 25 20 24 26 4 15 16 "evenhall.errors" 194 123))::
(nat_lit 125, (kT #[]))::
(nat_lit 126, (q4 P 313 317 23 316 "small_words" 324 124 "__static_attributes__" 325 125 326 2))::
(nat_lit 127, (q2 "BadShare" 127 126 111 306 314))::
(nat_lit 130, (kT #[(kR 31)]))::
(nat_lit 137, (kT #[]))::
(nat_lit 139, (kT #[(kz "self" 344)]))::
(nat_lit 140, (kT #[]))::
(nat_lit 142, (q0 "small_words" 341 "BadPath.small_words" 342 343 29 1 137 138 139 140 141 345 346))::
(nat_lit 143, (q1 "small_words" "BadPath.small_words" 29 20 24 30 5 15 16 "evenhall.errors" 194 142))::
(nat_lit 144, (kT #[]))::
(nat_lit 145, (q4 P 336 340 27 339 "small_words" 347 143 "__static_attributes__" 348 144 349 2))::
(nat_lit 146, (q2 "BadPath" 146 145 130 329 337))::
(nat_lit 149, (kT #[(kR 31)]))::
(nat_lit 156, (kT #[]))::
(nat_lit 158, (kT #[(kz "self" 367)]))::
(nat_lit 159, (kT #[]))::
(nat_lit 161, (q0 "small_words" 364 "NoAccount.small_words" 365 366 33 1 156 157 158 159 160 368 369))::
(nat_lit 162, (q1 "small_words" "NoAccount.small_words" 33 20 24 34 6 15 16 "evenhall.errors" 194 161))::
(nat_lit 163, (kT #[]))::
(nat_lit 164, (q4 P 359 363 31 362 "small_words" 370 162 "__static_attributes__" 371 163 372 2))::
(nat_lit 165, (q2 "NoAccount" 165 164 149 352 360))::
(nat_lit 168, (kT #[(kR 31)]))::
(nat_lit 175, (kT #[]))::
(nat_lit 177, (kT #[(kz "self" 390)]))::
(nat_lit 178, (kT #[]))::
(nat_lit 180, (q0 "small_words" 387 "Twice.small_words" 388 389 37 1 175 176 177 178 179 391 392))::
(nat_lit 181, (q1 "small_words" "Twice.small_words" 37 20 24 38 7 15 16 "evenhall.errors" 194 180))::
(nat_lit 182, (kT #[]))::
(nat_lit 183, (q4 P 382 386 35 385 "small_words" 393 181 "__static_attributes__" 394 182 395 2))::
(nat_lit 184, (q2 "Twice" 184 183 168 375 383))::
(nat_lit 187, (kT #[(kR 31)]))::
(nat_lit 194, (kT #[]))::
(nat_lit 196, (kT #[(kz "self" 413)]))::
(nat_lit 197, (kT #[]))::
(nat_lit 199, (q0 "small_words" 410 "NoRate.small_words" 411 412 41 1 194 195 196 197 198 414 415))::
(nat_lit 200, (q1 "small_words" "NoRate.small_words" 41 20 24 42 8 15 16 "evenhall.errors" 194 199))::
(nat_lit 201, (kT #[]))::
(nat_lit 202, (q4 P 405 409 39 408 "small_words" 416 200 "__static_attributes__" 417 201 418 2))::
(nat_lit 203, (q2 "NoRate" 203 202 187 398 406))::
(nat_lit 206, (kT #[(kR 31)]))::
(nat_lit 213, (kT #[]))::
(nat_lit 215, (kT #[(kz "self" 436)]))::
(nat_lit 216, (kT #[]))::
(nat_lit 218, (q0 "small_words" 433 "NoBooking.small_words" 434 435 45 1 213 214 215 216 217 437 438))::
(nat_lit 219, (q1 "small_words" "NoBooking.small_words" 45 20 24 46 9 15 16 "evenhall.errors" 194 218))::
(nat_lit 220, (kT #[]))::
(nat_lit 221, (q4 P 428 432 43 431 "small_words" 439 219 "__static_attributes__" 440 220 441 2))::
(nat_lit 222, (q2 "NoBooking" 222 221 206 421 429))::
(nat_lit 225, (kT #[(kR 31)]))::
(nat_lit 232, (kT #[]))::
(nat_lit 234, (kT #[(kz "self" 459)]))::
(nat_lit 235, (kT #[]))::
(nat_lit 237, (q0 "small_words" 456 "NoBudget.small_words" 457 458 49 1 232 233 234 235 236 460 461))::
(nat_lit 238, (q1 "small_words" "NoBudget.small_words" 49 20 24 50 10 16 17 "evenhall.errors" 194 237))::
(nat_lit 239, (kT #[]))::
(nat_lit 240, (q4 P 451 455 47 454 "small_words" 462 238 "__static_attributes__" 463 239 464 2))::
(nat_lit 241, (q2 "NoBudget" 241 240 225 444 452))::
(nat_lit 244, (kT #[(kR 31)]))::
(nat_lit 251, (kT #[]))::
(nat_lit 253, (kT #[(kz "self" 482)]))::
(nat_lit 254, (kT #[]))::
(nat_lit 256, (q0 "small_words" 479 "NoOrder.small_words" 480 481 53 1 251 252 253 254 255 483 484))::
(nat_lit 257, (q1 "small_words" "NoOrder.small_words" 53 20 24 54 11 16 17 "evenhall.errors" 194 256))::
(nat_lit 258, (kT #[]))::
(nat_lit 259, (q4 P 474 478 51 477 "small_words" 485 257 "__static_attributes__" 486 258 487 2))::
(nat_lit 260, (q2 "NoOrder" 260 259 244 467 475))::
(nat_lit 263, (kT #[]))::
(nat_lit 265, (kT #[(kz "thing" 495)]))::
(nat_lit 266, (kT #[]))::
(nat_lit 268, (q0 "is_whole" 492 "is_whole" 493 494 56 1 263 264 265 266 267 496 497))::
(nat_lit 269, (Zy "is_whole" "is_whole" dY 268))::
(nat_lit 270, (kT #[]))::
(nat_lit 272, (kT #[(kz "thing" 502), (kz "least" 503), (kz "most" 504)]))::
(nat_lit 273, (kT #[]))::
(nat_lit 275, (q0 "is_among" 499 "is_among" 500 501 58 3 270 271 272 273 274 505 506))::
(nat_lit 276, (Zy "is_among" "is_among" dZ 275))::
(nat_lit 277, (kT #[]))::
(nat_lit 280, (q3 "signs_lie" 508 509 510 60 3 277 278 279 511 512))::
(nat_lit 281, (Zy "signs_lie" "signs_lie" c9 280))::
(nat_lit 282, (kT #[]))::
(nat_lit 284, (kT #[(kz "thing" 517)]))::
(nat_lit 285, (kT #[]))::
(nat_lit 287, (q0 "is_name" 514 "is_name" 515 516 62 1 282 283 284 285 286 518 519))::
(nat_lit 288, (Zy "is_name" "is_name" eF 287))::
(nat_lit 289, (kT #[(kI 31 523), (kI 28 524), (kI 31 525), (kI 30 526), (kI 31 527), (kI 30 528), (kI 31 529), (kI 31 530), (kI 30 531), (kI 31 532), (kI 30 533), (kI 31 534)]))::
(nat_lit 290, (kT #[]))::
(nat_lit 292, (kT #[(kz "thing" 539)]))::
(nat_lit 293, (kT #[]))::
(nat_lit 295, (q0 "is_month" 536 "is_month" 537 538 66 1 290 291 292 293 294 540 541))::
(nat_lit 296, (Zx "is_month" "is_month" dP 295))::
(nat_lit 297, (kT #[]))::
(nat_lit 299, (kT #[(kz "years" 546)]))::
(nat_lit 300, (kT #[]))::
(nat_lit 302, (q0 "leap_days" 543 "leap_days" 544 545 68 1 297 298 299 300 301 547 548))::
(nat_lit 303, (Zx "leap_days" "leap_days" de 302))::
(nat_lit 304, (kT #[]))::
(nat_lit 306, (kT #[(kz "month" 553), (kz "years" 554), (kz "ahead" 555), (kz "leaps" 556)]))::
(nat_lit 307, (kT #[]))::
(nat_lit 309, (q0 "first_day" 550 "first_day" 551 552 70 1 304 305 306 307 308 557 558))::
(nat_lit 310, (Zx "first_day" "first_day" dh 309))::
(nat_lit 311, (kT #[]))::
(nat_lit 313, (kT #[(kz "month" 563)]))::
(nat_lit 314, (kT #[]))::
(nat_lit 316, (q0 "last_day" 560 "last_day" 561 562 75 1 311 312 313 314 315 564 565))::
(nat_lit 317, (Zx "last_day" "last_day" dR 316))::
(nat_lit 318, (kT #[]))::
(nat_lit 321, (q3 "are_names" 569 570 571 78 1 318 319 320 572 573))::
(nat_lit 322, (Zz "are_names" "are_names" dg "evenhall.paths" 567 321))::
(nat_lit 323, (kT #[]))::
(nat_lit 325, (kT #[(kz "thing" 578)]))::
(nat_lit 326, (kT #[]))::
(nat_lit 328, (q0 "is_path" 575 "is_path" 576 577 80 1 323 324 325 326 327 579 580))::
(nat_lit 329, (Zz "is_path" "is_path" eO "evenhall.paths" 567 328))::
(nat_lit 330, (kT #[]))::
(nat_lit 332, (kT #[(kz "path" 585), (kz "other" 586)]))::
(nat_lit 333, (kT #[]))::
(nat_lit 335, (q0 "is_within" 582 "is_within" 583 584 82 2 330 331 332 333 334 587 588))::
(nat_lit 336, (Zz "is_within" "is_within" c6 "evenhall.paths" 567 335))::
(nat_lit 337, (kT #[]))::
(nat_lit 340, (q3 "amounts_within" 592 593 594 85 3 337 338 339 595 596))::
(nat_lit 341, (Zz "amounts_within" "amounts_within" bH "evenhall.statements" 590 340))::
(nat_lit 342, (kT #[]))::
(nat_lit 345, (q3 "sum_within" 600 601 602 88 5 342 343 344 603 604))::
(nat_lit 346, (Zw "sum_within" "sum_within" cO 345))::
(nat_lit 347, (kT #[]))::
(nat_lit 349, (kT #[(kz "budgets" 609), (kz "journal" 610), (kz "name" 611), (kz "month" 612), (kz "terms" 613), (kz "last" 614)]))::
(nat_lit 350, (kT #[]))::
(nat_lit 352, (q0 "done_by" 606 "done_by" 607 608 91 4 347 348 349 350 351 615 616))::
(nat_lit 353, (Zw "done_by" "done_by" eK 352))::
(nat_lit 354, (kT #[]))::
(nat_lit 356, (kT #[(kz "budgets" 621), (kz "journal" 622), (kz "name" 623), (kz "month" 624)]))::
(nat_lit 357, (kT #[]))::
(nat_lit 359, (q0 "left" 618 "left" 619 620 95 4 354 355 356 357 358 625 626))::
(nat_lit 360, (Zw "left" "left" lA 359))::
(nat_lit 361, (kT #[]))::
(nat_lit 364, (q3 "over" 628 629 630 97 3 361 362 363 631 632))::
(nat_lit 365, (Zw "over" "over" lI 364))::
(nat_lit 366, (kT #[]))::
(nat_lit 368, (kT #[(kz "thing" 639)]))::
(nat_lit 369, (kT #[]))::
(nat_lit 371, (q0 "is_amount" 636 "is_amount" 637 638 101 1 366 367 368 369 370 640 641))::
(nat_lit 372, (Zz "is_amount" "is_amount" c8 "evenhall.money" 634 371))::
(nat_lit 373, (kT #[]))::
(nat_lit 375, (kT #[(kz "thing" 646)]))::
(nat_lit 376, (kT #[]))::
(nat_lit 378, (q0 "is_currency" 643 "is_currency" 644 645 103 1 373 374 375 376 377 647 648))::
(nat_lit 379, (Zz "is_currency" "is_currency" cr "evenhall.money" 634 378))::
(nat_lit 380, (kT #[]))::
(nat_lit 383, (q3 "are_weights" 652 653 654 106 1 380 381 382 655 656))::
(nat_lit 384, (Zz "are_weights" "are_weights" cn "evenhall.shares" 650 383))::
(nat_lit 385, (kT #[]))::
(nat_lit 388, (q3 "shared" 658 659 660 110 2 385 386 387 661 662))::
(nat_lit 389, (Zz "shared" "shared" fR "evenhall.shares" 650 388))::
(nat_lit 390, (kT #[]))::
(nat_lit 392, (kT #[(kz "first" 669), (kz "last" 670)]))::
(nat_lit 393, (kT #[]))::
(nat_lit 395, (q0 "are_months" 666 "are_months" 667 668 122 2 390 391 392 393 394 671 672))::
(nat_lit 396, (Zv "are_months" "are_months" cJ 395))::
(nat_lit 404, (kT #[]))::
(nat_lit 406, (kT #[(kz "self" 689), (kz "agreed" 690), (kz "parts" 691)]))::
(nat_lit 407, (kT #[]))::
(nat_lit 409, (q0 "__init__" 686 "Budget.__init__" 687 688 126 3 404 405 406 407 408 692 693))::
(nat_lit 410, (Zv "__init__" "Budget.__init__" bB 409))::
(nat_lit 411, (kT #[(kz "agreed" 695), (kz "first" 696), (kz "parts" 697)]))::
(nat_lit 412, (kO (kY "dict") none (Data.dict #[(kE P "__module__" 681 (kz "evenhall.budgets" 664)), (kE P "__firstlineno__" 685 (kI 124 684)), (kE P "__init__" 694 (kR 410)), (kE P "__static_attributes__" 698 (kR 411)), (kE P "__dict__" 700 (kR 414)), (kE P "__weakref__" 702 (kR 415)), (kE P "__doc__" 703 kN)] 4) #[]))::
(nat_lit 413, (q6 "Budget" 413 412 674 682))::
(nat_lit 414, (q8 699 413))::
(nat_lit 415, (q7 701 413))::
(nat_lit 425, (kT #[]))::
(nat_lit 427, (kT #[(kz "self" 721)]))::
(nat_lit 428, (kT #[]))::
(nat_lit 430, (q0 "__init__" 718 "Budgets.__init__" 719 720 132 1 425 426 427 428 429 722 723))::
(nat_lit 431, (Zv "__init__" "Budgets.__init__" bv 430))::
(nat_lit 432, (kT #[]))::
(nat_lit 434, (kT #[(kz "self" 728), (kz "name" 729), (kz "path" 730), (kz "currency" 731), (kz "first" 732), (kz "last" 733), (kz "total" 734), (kz "weights" 735), (kz "parts" 736)]))::
(nat_lit 435, (kT #[]))::
(nat_lit 437, (q0 "put" 725 "Budgets.put" 726 727 135 8 432 433 434 435 436 737 738))::
(nat_lit 438, (Zv "put" "Budgets.put" cp 437))::
(nat_lit 439, (kT #[]))::
(nat_lit 441, (kT #[(kz "self" 743), (kz "name" 744)]))::
(nat_lit 442, (kT #[]))::
(nat_lit 444, (q0 "budget" 740 "Budgets.budget" 741 742 153 2 439 440 441 442 443 745 746))::
(nat_lit 445, (Zv "budget" "Budgets.budget" bI 444))::
(nat_lit 446, (kT #[]))::
(nat_lit 448, (kT #[(kz "self" 751), (kz "name" 752)]))::
(nat_lit 449, (kT #[]))::
(nat_lit 451, (q0 "drop" 748 "Budgets.drop" 749 750 158 2 446 447 448 449 450 753 754))::
(nat_lit 452, (q5 "drop" "Budgets.drop" 158 13 17 "name" 19 23 159 12 "evenhall.budgets" 664 451))::
(nat_lit 453, (kT #[]))::
(nat_lit 455, (kT #[(kz "self" 759)]))::
(nat_lit 456, (kT #[]))::
(nat_lit 458, (q0 "names" 756 "Budgets.names" 757 758 161 1 453 454 455 456 457 760 761))::
(nat_lit 459, (Zv "names" "Budgets.names" bO 458))::
(nat_lit 460, (kT #[]))::
(nat_lit 462, (kT #[(kz "self" 766), (kz "name" 767)]))::
(nat_lit 463, (kT #[]))::
(nat_lit 465, (q0 "terms" 763 "Budgets.terms" 764 765 164 2 460 461 462 463 464 768 769))::
(nat_lit 466, (Zv "terms" "Budgets.terms" bP 465))::
(nat_lit 467, (kT #[]))::
(nat_lit 469, (kT #[(kz "self" 774), (kz "name" 775), (kz "month" 776)]))::
(nat_lit 470, (kT #[]))::
(nat_lit 472, (q0 "planned" 771 "Budgets.planned" 772 773 167 3 467 468 469 470 471 777 778))::
(nat_lit 473, (Zv "planned" "Budgets.planned" bA 472))::
(nat_lit 474, (kT #[]))::
(nat_lit 476, (kT #[(kz "self" 783), (kz "name" 784), (kz "month" 785), (kz "budget" 786)]))::
(nat_lit 477, (kT #[]))::
(nat_lit 479, (q0 "planned_by" 780 "Budgets.planned_by" 781 782 170 3 474 475 476 477 478 787 788))::
(nat_lit 480, (Zv "planned_by" "Budgets.planned_by" bd 479))::
(nat_lit 481, (kT #[(kz "by_name" 790)]))::
(nat_lit 482, (kO (kY "dict") none (Data.dict #[(kE P "__module__" 713 (kz "evenhall.budgets" 664)), (kE P "__firstlineno__" 717 (kI 130 716)), (kE P "__init__" 724 (kR 431)), (kE P "put" 739 (kR 438)), (kE P "budget" 747 (kR 445)), (kE P "drop" 755 (kR 452)), (kE P "names" 762 (kR 459)), (kE P "terms" 770 (kR 466)), (kE P "planned" 779 (kR 473)), (kE P "planned_by" 789 (kR 480)), (kE P "__static_attributes__" 791 (kR 481)), (kE P "__dict__" 793 (kR 484)), (kE P "__weakref__" 795 (kR 485)), (kE P "__doc__" 796 kN)] 4) #[]))::
(nat_lit 483, (q6 "Budgets" 483 482 706 714))::
(nat_lit 484, (q8 792 483))::
(nat_lit 485, (q7 794 483))::
(nat_lit 495, (kT #[]))::
(nat_lit 497, (kT #[(kz "self" 816)]))::
(nat_lit 498, (kT #[]))::
(nat_lit 500, (q0 "__init__" 813 "Journal.__init__" 814 815 176 1 495 496 497 498 499 817 818))::
(nat_lit 501, (Zu "__init__" "Journal.__init__" bt 500))::
(nat_lit 502, (kT #[]))::
(nat_lit 504, (kT #[(kz "self" 823), (kz "day" 824), (kz "note" 825), (kz "rows" 826), (kz "undoes" 827), (kz "number" 828)]))::
(nat_lit 505, (kT #[]))::
(nat_lit 507, (q0 "put" 820 "Journal.put" 821 822 180 5 502 503 504 505 506 829 830))::
(nat_lit 508, (Zu "put" "Journal.put" cv 507))::
(nat_lit 509, (kT #[]))::
(nat_lit 511, (kT #[(kz "self" 835)]))::
(nat_lit 512, (kT #[]))::
(nat_lit 514, (q0 "many" 832 "Journal.many" 833 834 187 1 509 510 511 512 513 836 837))::
(nat_lit 515, (q1 "many" "Journal.many" 187 13 17 188 13 16 17 "evenhall.journal" 799 514))::
(nat_lit 516, (kT #[]))::
(nat_lit 518, (kT #[(kz "self" 842), (kz "number" 843)]))::
(nat_lit 519, (kT #[]))::
(nat_lit 521, (q0 "booking" 839 "Journal.booking" 840 841 190 2 516 517 518 519 520 844 845))::
(nat_lit 522, (Zu "booking" "Journal.booking" cf 521))::
(nat_lit 523, (kT #[]))::
(nat_lit 525, (kT #[(kz "self" 850)]))::
(nat_lit 526, (kT #[]))::
(nat_lit 528, (q0 "every" 847 "Journal.every" 848 849 195 1 523 524 525 526 527 851 852))::
(nat_lit 529, (Zu "every" "Journal.every" bN 528))::
(nat_lit 530, (kT #[]))::
(nat_lit 532, (kT #[(kz "self" 857), (kz "number" 858)]))::
(nat_lit 533, (kT #[]))::
(nat_lit 535, (q0 "undone_by" 854 "Journal.undone_by" 855 856 198 2 530 531 532 533 534 859 860))::
(nat_lit 536, (q5 "undone_by" "Journal.undone_by" 198 18 22 "number" 24 30 199 14 "evenhall.journal" 799 535))::
(nat_lit 537, (kT #[(kz "bookings" 862), (kz "undoings" 863)]))::
(nat_lit 538, (kO (kY "dict") none (Data.dict #[(kE P "__module__" 808 (kz "evenhall.journal" 799)), (kE P "__firstlineno__" 812 (kI 174 811)), (kE P "__init__" 819 (kR 501)), (kE P "put" 831 (kR 508)), (kE P "many" 838 (kR 515)), (kE P "booking" 846 (kR 522)), (kE P "every" 853 (kR 529)), (kE P "undone_by" 861 (kR 536)), (kE P "__static_attributes__" 864 (kR 537)), (kE P "__dict__" 866 (kR 540)), (kE P "__weakref__" 868 (kR 541)), (kE P "__doc__" 869 kN)] 4) #[]))::
(nat_lit 539, (q6 "Journal" 539 538 801 809))::
(nat_lit 540, (q8 865 539))::
(nat_lit 541, (q7 867 539))::
(nat_lit 544, (kT #[]))::
(nat_lit 546, (kT #[(kz "_law_script" 877), (kz "_law_k" 878)]))::
(nat_lit 547, (kT #[]))::
(nat_lit 549, (q0 "_law_cell_at" 874 "_law_cell_at" 875 876 201 2 544 545 546 547 548 879 880))::
(nat_lit 550, (Zt "_law_cell_at" "_law_cell_at" bX 549))::
(nat_lit 551, (kT #[]))::
(nat_lit 553, (kT #[(kz "_law_cell" 885), (kz "_law_k" 886)]))::
(nat_lit 554, (kT #[]))::
(nat_lit 556, (q0 "_law_mixed" 882 "_law_mixed" 883 884 205 2 551 552 553 554 555 887 888))::
(nat_lit 557, (Zt "_law_mixed" "_law_mixed" cL 556))::
(nat_lit 558, (kT #[]))::
(nat_lit 560, (kT #[(kz "_law_found" 893)]))::
(nat_lit 561, (kT #[]))::
(nat_lit 563, (q0 "_law_whole" 890 "_law_whole" 891 892 207 1 558 559 560 561 562 894 895))::
(nat_lit 564, (Zt "_law_whole" "_law_whole" cQ 563))::
(nat_lit 565, (kT #[]))::
(nat_lit 568, (q3 "_law_names" 897 898 899 209 1 565 566 567 900 901))::
(nat_lit 569, (Zt "_law_names" "_law_names" cR 568))::
(nat_lit 570, (kT #[]))::
(nat_lit 572, (kT #[(kz "_law_script" 906), (kz "_law_many" 907), (kz "_law_names_here" 908), (kz "_law_paths_here" 909), (kz "_law_k" 910), (kz "_law_cell" 911), (kz "_law_ahead" 912), (kz "_law_path" 913)]))::
(nat_lit 573, (kT #[]))::
(nat_lit 575, (q0 "_law_paths" 903 "_law_paths" 904 905 220 2 570 571 572 573 574 914 915))::
(nat_lit 576, (Zt "_law_paths" "_law_paths" cS 575))::
(nat_lit 577, (kT #[]))::
(nat_lit 580, (q3 "_law_currencies" 917 918 919 230 1 577 578 579 920 921))::
(nat_lit 581, (Zt "_law_currencies" "_law_currencies" bD 580))::
(nat_lit 582, (kT #[]))::
(nat_lit 584, (kT #[(kz "_law_month_here" 926), (kz "_law_year" 927), (kz "_law_day_here" 928), (kz "_law_long_year" 929), (kz "_law_place" 930)]))::
(nat_lit 585, (kT #[]))::
(nat_lit 587, (q0 "_law_first" 923 "_law_first" 924 925 235 1 582 583 584 585 586 931 932))::
(nat_lit 588, (Zt "_law_first" "_law_first" bR 587))::
(nat_lit 589, (kT #[]))::
(nat_lit 591, (kT #[(kz "_law_cell" 937), (kz "_law_month_here" 938)]))::
(nat_lit 592, (kT #[]))::
(nat_lit 594, (q0 "_law_day" 934 "_law_day" 935 936 242 2 589 590 591 592 593 939 940))::
(nat_lit 595, (Zt "_law_day" "_law_day" dW 594))::
(nat_lit 596, (kT #[]))::
(nat_lit 598, (kT #[(kz "_law_cell" 945), (kz "_law_some" 946)]))::
(nat_lit 599, (kT #[]))::
(nat_lit 601, (q0 "_law_amount" 942 "_law_amount" 943 944 248 1 596 597 598 599 600 947 948))::
(nat_lit 602, (Zt "_law_amount" "_law_amount" cy 601))::
(nat_lit 603, (kT #[]))::
(nat_lit 605, (kT #[(kz "_law_cell" 953), (kz "_law_paths_here" 954), (kz "_law_currencies_here" 955), (kz "_law_rows_here" 956), (kz "_law_k" 957), (kz "_law_path" 958), (kz "_law_currency" 959)]))::
(nat_lit 606, (kT #[]))::
(nat_lit 608, (q0 "_law_rows" 950 "_law_rows" 951 952 253 3 603 604 605 606 607 960 961))::
(nat_lit 609, (Zt "_law_rows" "_law_rows" db 608))::
(nat_lit 610, (kT #[]))::
(nat_lit 613, (q3 "_law_budgets" 963 964 965 260 2 610 611 612 966 967))::
(nat_lit 614, (Zt "_law_budgets" "_law_budgets" a8 613))::
(nat_lit 615, (kT #[]))::
(nat_lit 617, (kT #[(kz "_law_made" 972), (kz "_law_at" 973), (kz "_law_name" 974), (kz "_law_month_here" 975), (kz "_law_path" 976), (kz "_law_currency" 977), (kz "_law_first_here" 978), (kz "_law_last" 979), (kz "_law_total" 980), (kz "_law_found" 981), (kz "_law_one" 982), (kz "_law_where" 983), (kz "_law_other" 984), (kz "_law_amount_here" 985)]))::
(nat_lit 618, (kT #[]))::
(nat_lit 620, (q0 "_law_due" 969 "_law_due" 970 971 275 4 615 616 617 618 619 986 987))::
(nat_lit 621, (Zt "_law_due" "_law_due" dU 620))::
(nat_lit 622, (kT #[]))::
(nat_lit 625, (q3 "_law_planned_well" 989 990 991 282 1 622 623 624 992 993))::
(nat_lit 626, (Zt "_law_planned_well" "_law_planned_well" bh 625))::
(nat_lit 627, (kT #[]))::
(nat_lit 629, (kT #[(kz "_law_made" 998), (kz "_law_name" 999), (kz "_law_many" 1000), (kz "_law_way" 1001), (kz "e" 1002), (kz "_law_others" 1003)]))::
(nat_lit 630, (kT #[]))::
(nat_lit 632, (q0 "_law_none" 995 "_law_none" 996 997 293 2 627 628 629 630 631 1004 1005))::
(nat_lit 633, (Zt "_law_none" "_law_none" cZ 632))::
(nat_lit 634, (kT #[]))::
(nat_lit 636, (kT #[(kz "_law_made" 1010), (kz "_law_at" 1011), (kz "_law_name" 1012), (kz "_law_month_here" 1013), (kz "_law_turn" 1014), (kz "_law_answers_here" 1015), (kz "_law_way" 1016)]))::
(nat_lit 637, (kT #[]))::
(nat_lit 639, (q0 "_law_answers" 1007 "_law_answers" 1008 1009 306 5 634 635 636 637 638 1017 1018))::
(nat_lit 640, (Zt "_law_answers" "_law_answers" bZ 639))::
(nat_lit 641, (kT #[]))::
(nat_lit 643, (kT #[(kz "_law_made" 1023), (kz "_law_at" 1024), (kz "_law_name" 1025), (kz "_law_month_here" 1026), (kz "_law_turn" 1027), (kz "_law_due_here" 1028), (kz "_law_found" 1029), (kz "_law_rest" 1030), (kz "_law_planned" 1031)]))::
(nat_lit 644, (kT #[]))::
(nat_lit 646, (q0 "_law_told" 1020 "_law_told" 1021 1022 316 5 641 642 643 644 645 1032 1033))::
(nat_lit 647, (Zt "_law_told" "_law_told" df 646))::
(nat_lit 648, (kT #[]))::
(nat_lit 650, (kT #[(kz "_law_made" 1038), (kz "_law_at" 1039), (kz "_law_month_here" 1040), (kz "_law_due_here" 1041), (kz "_law_name" 1042), (kz "_law_rest" 1043), (kz "_law_found" 1044), (kz "_law_pair" 1045)]))::
(nat_lit 651, (kT #[]))::
(nat_lit 653, (q0 "_law_over" 1035 "_law_over" 1036 1037 324 3 648 649 650 651 652 1046 1047))::
(nat_lit 654, (Zt "_law_over" "_law_over" ce 653))::
(nat_lit 655, (kT #[]))::
(nat_lit 657, (kT #[(kz "_law_cell" 1052), (kz "_law_base" 1053)]))::
(nat_lit 658, (kT #[]))::
(nat_lit 660, (q0 "_law_month" 1049 "_law_month" 1050 1051 340 2 655 656 657 658 659 1054 1055))::
(nat_lit 661, (Zt "_law_month" "_law_month" cK 660))::
(nat_lit 662, (kT #[]))::
(nat_lit 664, (kT #[(kz "_law_made" 1060), (kz "_law_at" 1061), (kz "_law_one" 1062), (kz "_law_other" 1063), (kz "_law_turn" 1064), (kz "_law_k" 1065), (kz "_law_query" 1066)]))::
(nat_lit 665, (kT #[]))::
(nat_lit 667, (q0 "_law_looked" 1057 "_law_looked" 1058 1059 346 5 662 663 664 665 666 1067 1068))::
(nat_lit 668, (Zt "_law_looked" "_law_looked" bp 667))::
(nat_lit 669, (kT #[]))::
(nat_lit 672, (q3 "_law_comes_then" 1070 1071 1072 353 1 669 670 671 1073 1074))::
(nat_lit 673, (Zt "_law_comes_then" "_law_comes_then" bC 672))::
(nat_lit 674, (kT #[]))::
(nat_lit 677, (q3 "law" 1076 1077 1078 362 1 674 675 676 1079 1080))::
(nat_lit 678, (Zt "law" "law" dy 677))
 :: []
noncomputable def adrs : List Addr := [nat_lit 2, nat_lit 3, nat_lit 15, nat_lit 17, nat_lit 18, nat_lit 20, nat_lit 21, nat_lit 22, nat_lit 29, nat_lit 30, nat_lit 31, nat_lit 32, nat_lit 35, nat_lit 42, nat_lit 44, nat_lit 45, nat_lit 47, nat_lit 48, nat_lit 49, nat_lit 50, nat_lit 51, nat_lit 54, nat_lit 61, nat_lit 63, nat_lit 64, nat_lit 66, nat_lit 67, nat_lit 68, nat_lit 69, nat_lit 70, nat_lit 73, nat_lit 80, nat_lit 82, nat_lit 83, nat_lit 85, nat_lit 86, nat_lit 87, nat_lit 88, nat_lit 89, nat_lit 92, nat_lit 99, nat_lit 101, nat_lit 102, nat_lit 104, nat_lit 105, nat_lit 106, nat_lit 107, nat_lit 108, nat_lit 111, nat_lit 118, nat_lit 120, nat_lit 121, nat_lit 123, nat_lit 124, nat_lit 125, nat_lit 126, nat_lit 127, nat_lit 130, nat_lit 137, nat_lit 139, nat_lit 140, nat_lit 142, nat_lit 143, nat_lit 144, nat_lit 145, nat_lit 146, nat_lit 149, nat_lit 156, nat_lit 158, nat_lit 159, nat_lit 161, nat_lit 162, nat_lit 163, nat_lit 164, nat_lit 165, nat_lit 168, nat_lit 175, nat_lit 177, nat_lit 178, nat_lit 180, nat_lit 181, nat_lit 182, nat_lit 183, nat_lit 184, nat_lit 187, nat_lit 194, nat_lit 196, nat_lit 197, nat_lit 199, nat_lit 200, nat_lit 201, nat_lit 202, nat_lit 203, nat_lit 206, nat_lit 213, nat_lit 215, nat_lit 216, nat_lit 218, nat_lit 219, nat_lit 220, nat_lit 221, nat_lit 222, nat_lit 225, nat_lit 232, nat_lit 234, nat_lit 235, nat_lit 237, nat_lit 238, nat_lit 239, nat_lit 240, nat_lit 241, nat_lit 244, nat_lit 251, nat_lit 253, nat_lit 254, nat_lit 256, nat_lit 257, nat_lit 258, nat_lit 259, nat_lit 260, nat_lit 263, nat_lit 265, nat_lit 266, nat_lit 268, nat_lit 269, nat_lit 270, nat_lit 272, nat_lit 273, nat_lit 275, nat_lit 276, nat_lit 277, nat_lit 280, nat_lit 281, nat_lit 282, nat_lit 284, nat_lit 285, nat_lit 287, nat_lit 288, nat_lit 289, nat_lit 290, nat_lit 292, nat_lit 293, nat_lit 295, nat_lit 296, nat_lit 297, nat_lit 299, nat_lit 300, nat_lit 302, nat_lit 303, nat_lit 304, nat_lit 306, nat_lit 307, nat_lit 309, nat_lit 310, nat_lit 311, nat_lit 313, nat_lit 314, nat_lit 316, nat_lit 317, nat_lit 318, nat_lit 321, nat_lit 322, nat_lit 323, nat_lit 325, nat_lit 326, nat_lit 328, nat_lit 329, nat_lit 330, nat_lit 332, nat_lit 333, nat_lit 335, nat_lit 336, nat_lit 337, nat_lit 340, nat_lit 341, nat_lit 342, nat_lit 345, nat_lit 346, nat_lit 347, nat_lit 349, nat_lit 350, nat_lit 352, nat_lit 353, nat_lit 354, nat_lit 356, nat_lit 357, nat_lit 359, nat_lit 360, nat_lit 361, nat_lit 364, nat_lit 365, nat_lit 366, nat_lit 368, nat_lit 369, nat_lit 371, nat_lit 372, nat_lit 373, nat_lit 375, nat_lit 376, nat_lit 378, nat_lit 379, nat_lit 380, nat_lit 383, nat_lit 384, nat_lit 385, nat_lit 388, nat_lit 389, nat_lit 390, nat_lit 392, nat_lit 393, nat_lit 395, nat_lit 396, nat_lit 404, nat_lit 406, nat_lit 407, nat_lit 409, nat_lit 410, nat_lit 411, nat_lit 412, nat_lit 413, nat_lit 414, nat_lit 415, nat_lit 425, nat_lit 427, nat_lit 428, nat_lit 430, nat_lit 431, nat_lit 432, nat_lit 434, nat_lit 435, nat_lit 437, nat_lit 438, nat_lit 439, nat_lit 441, nat_lit 442, nat_lit 444, nat_lit 445, nat_lit 446, nat_lit 448, nat_lit 449, nat_lit 451, nat_lit 452, nat_lit 453, nat_lit 455, nat_lit 456, nat_lit 458, nat_lit 459, nat_lit 460, nat_lit 462, nat_lit 463, nat_lit 465, nat_lit 466, nat_lit 467, nat_lit 469, nat_lit 470, nat_lit 472, nat_lit 473, nat_lit 474, nat_lit 476, nat_lit 477, nat_lit 479, nat_lit 480, nat_lit 481, nat_lit 482, nat_lit 483, nat_lit 484, nat_lit 485, nat_lit 495, nat_lit 497, nat_lit 498, nat_lit 500, nat_lit 501, nat_lit 502, nat_lit 504, nat_lit 505, nat_lit 507, nat_lit 508, nat_lit 509, nat_lit 511, nat_lit 512, nat_lit 514, nat_lit 515, nat_lit 516, nat_lit 518, nat_lit 519, nat_lit 521, nat_lit 522, nat_lit 523, nat_lit 525, nat_lit 526, nat_lit 528, nat_lit 529, nat_lit 530, nat_lit 532, nat_lit 533, nat_lit 535, nat_lit 536, nat_lit 537, nat_lit 538, nat_lit 539, nat_lit 540, nat_lit 541, nat_lit 544, nat_lit 546, nat_lit 547, nat_lit 549, nat_lit 550, nat_lit 551, nat_lit 553, nat_lit 554, nat_lit 556, nat_lit 557, nat_lit 558, nat_lit 560, nat_lit 561, nat_lit 563, nat_lit 564, nat_lit 565, nat_lit 568, nat_lit 569, nat_lit 570, nat_lit 572, nat_lit 573, nat_lit 575, nat_lit 576, nat_lit 577, nat_lit 580, nat_lit 581, nat_lit 582, nat_lit 584, nat_lit 585, nat_lit 587, nat_lit 588, nat_lit 589, nat_lit 591, nat_lit 592, nat_lit 594, nat_lit 595, nat_lit 596, nat_lit 598, nat_lit 599, nat_lit 601, nat_lit 602, nat_lit 603, nat_lit 605, nat_lit 606, nat_lit 608, nat_lit 609, nat_lit 610, nat_lit 613, nat_lit 614, nat_lit 615, nat_lit 617, nat_lit 618, nat_lit 620, nat_lit 621, nat_lit 622, nat_lit 625, nat_lit 626, nat_lit 627, nat_lit 629, nat_lit 630, nat_lit 632, nat_lit 633, nat_lit 634, nat_lit 636, nat_lit 637, nat_lit 639, nat_lit 640, nat_lit 641, nat_lit 643, nat_lit 644, nat_lit 646, nat_lit 647, nat_lit 648, nat_lit 650, nat_lit 651, nat_lit 653, nat_lit 654, nat_lit 655, nat_lit 657, nat_lit 658, nat_lit 660, nat_lit 661, nat_lit 662, nat_lit 664, nat_lit 665, nat_lit 667, nat_lit 668, nat_lit 669, nat_lit 672, nat_lit 673, nat_lit 674, nat_lit 677, nat_lit 678]
theorem adrs_eq (P : Params) : adrs = (frag P).map (·.1) := by kernel_rfl
noncomputable def vw : Program := PySem.W.view PySem.Challenge.pw_evenhall_k26_whole_plans_and_what_was_do [0, 2, 3, 4, 5, 6, 7, 8, 9, 10, 11, 12, 13, 14, 16, 17, 18, 19, 21, 22, 23, 24, 25, 27, 28, 29, 31, 33, 34, 35, 36, 38, 39, 41, 42, 44, 45, 46, 48, 50, 51, 52, 53, 54, 55, 56, 57, 58, 59, 60, 61, 62, 63, 64, 65, 66, 67, 68, 69, 70]
open PySem.W in
noncomputable def tree0 (P : Params) : BT := (.node (boot_o_0 P) (.node (boot_o_1 P) (.node (boot_o_3 P) (.node (boot_o_7 P) .nil .nil) .nil) (.node (boot_o_5 P) (.node (boot_o_9 P) .nil .nil) .nil)) (.node (boot_o_2 P) (.node (boot_o_4 P) (.node (boot_o_8 P) .nil .nil) .nil) (.node (boot_o_6 P) (.node (boot_o_10 P) .nil .nil) .nil)))
open PySem.W PyProof.Rows in
noncomputable def ran (p : Program) (t : BT) (b : Heap) (w : World) (os : OsState) : Option SharedT := TR.go p w 11 (some (.ref 6)) 11278 ⟨t, 11, b.life, Array.mk [], boot_drawn, boot_toks, os⟩ (topStub p)
noncomputable def runA (p : Program) (t : PySem.W.BT) (b : Heap) (w : World) (os : OsState) := (ran p t b w os).map fun x => TR.lookB p b x.abs
noncomputable def runB (p v : Program) (c : PySem.W.WRecords) (t : PySem.W.BT) (b : Heap) (w : World) (os : OsState) := (ran p t b w os).map fun x => PySem.W.openSeen v [] (importedModules p.main.body) (fun s => PySem.W.xlAt v [] s && PySem.W.recOk c s) true x.abs
noncomputable def runC (p : Program) (t : PySem.W.BT) (b : Heap) (w : World) (os : OsState) := (ran p t b w os).map fun x => adrs.map x.abs.heap.get?
noncomputable def good (v : Program) (_ : OsState) := some (PySem.W.openGood v [])
set_option maxRecDepth 100000 in
set_option maxHeartbeats 0 in
lay_quick K26.runA
set_option maxRecDepth 100000 in
set_option maxHeartbeats 0 in
lay_quick K26.runB
set_option maxRecDepth 100000 in
set_option maxHeartbeats 0 in
lay_quick K26.runC
set_option maxRecDepth 100000 in
set_option maxHeartbeats 0 in
lay_quick K26.good
set_option maxRecDepth 100000 in
set_option maxHeartbeats 0 in
theorem gA (w : World) : PySem.W.Fast.tw530691192225776575 PySem.Challenge.pw_evenhall_k26_whole_plans_and_what_was_do (tree0 w.params) (PySem.W.boot_heap w.params) w = fun _ => some true := by kernel_rfl
set_option maxRecDepth 100000 in
set_option maxHeartbeats 0 in
theorem gB (w : World) : PySem.W.Fast.tw15692592799623559916 PySem.Challenge.pw_evenhall_k26_whole_plans_and_what_was_do vw (PySem.W.RowW.records (PySem.W.OpenRow.toRowW (PySem.W.OpenLaw.row PySem.Challenge.rw_evenhall_k26_whole_plans_and_what_was_do))) (tree0 w.params) (PySem.W.boot_heap w.params) w = PySem.W.Fast.tw8772999590631957499 vw := by kernel_rfl
set_option maxRecDepth 100000 in
set_option maxHeartbeats 0 in
theorem gC (w : World) : PySem.W.Fast.tw2117009174329987205 PySem.Challenge.pw_evenhall_k26_whole_plans_and_what_was_do (tree0 w.params) (PySem.W.boot_heap w.params) w = fun _ => some ((frag w.params).map fun p => some p.2) := by kernel_rfl
set_option maxRecDepth 100000 in
set_option maxHeartbeats 0 in
theorem left : PySem.W.LeftO PySem.Challenge.pw_evenhall_k26_whole_plans_and_what_was_do vw [] (fun s => PySem.W.xlAt vw [] s && PySem.W.recOk (PySem.W.RowW.records (PySem.W.OpenRow.toRowW (PySem.W.OpenLaw.row PySem.Challenge.rw_evenhall_k26_whole_plans_and_what_was_do))) s) (Yb frag adrs adrs_eq).obs (Yb frag adrs adrs_eq).val 11278 :=
 TR.left (lo := 11) (an := some (.ref 6)) (tr := tree0) (PySem.W.boot_open (by kernel_rfl) (by decide) (fun s => by kernel_rfl)) (fun P => by kernel_rfl) (fun P => by kernel_rfl) fun w => funext fun os =>
  TR.three (congrFun ((congrFun (congrFun (congrFun (congrFun PySem.W.Fast.te530691192225776575 _) _) _) w).trans (gA w)) os) (congrFun ((congrFun (congrFun (congrFun (congrFun (congrFun (congrFun PySem.W.Fast.te15692592799623559916 _) _) _) _) _) w).trans ((gB w).trans (congrFun PySem.W.Fast.te8772999590631957499 _).symm)) os) (congrFun ((congrFun (congrFun (congrFun (congrFun PySem.W.Fast.te2117009174329987205 _) _) _) w).trans (gC w)) os)
noncomputable def wsaid (l : PySem.W.OpenLaw) : Bool := PySem.W.OpenLaw.wellSaid l
set_option maxRecDepth 100000 in
set_option maxHeartbeats 0 in
lay_quick K26.wsaid
set_option maxRecDepth 100000 in
set_option maxHeartbeats 0 in
theorem ws : wsaid PySem.Challenge.rw_evenhall_k26_whole_plans_and_what_was_do = true := (congrFun PySem.W.Fast.te16948047243220911141 _).trans (by kernel_rfl)
end K26
namespace L2
open PySem PySem.Spec PyProof.Rows
abbrev Key := Sum Int Str
def uf : Key -> Value -> Bool
 | .inl k, v => Value.isInt k v
 | .inr x, v => Value.isStrOf x v
def HK (w : World) : Key -> Int
 | .inl k => hashInt k
 | .inr x => hashStr w x
theorem cg : ∀ {k : Key} {v : Value}, uf k v = true -> (∃ i t, k = Sum.inl i /\ v = YU i t) \/ (∃ x t, k = Sum.inr x /\ v = Value.str x t)
 | .inl i, v, h => by
  obtain ⟨t, e⟩ := Value.isInt_shape (k := i) (v := v) h
  exact .inl ⟨i, t, rfl, e⟩
 | .inr x, v, h => by
  obtain ⟨t, e⟩ := Value.isStrOf_shape (x := x) (v := v) h
  exact .inr ⟨x, t, rfl, e⟩
theorem AG (i : Int) (t : Tok) : uf (.inl i) (.int i t) = true := by simp [uf, Value.isInt]
theorem As (x : Str) (t : Tok) : uf (.inr x) (.str x t) = true := by simp [uf, Value.isStrOf]
theorem Fu (a b : Int) : decide ((Sum.inl a : Key) = Sum.inl b) = (a == b) := by
 by_cases e : a = b
 ·subst e; simp
 ·have h : ¬ (Sum.inl a : Key) = Sum.inl b := fun q => e (Sum.inl.inj q)
  rw [decide_eq_false h]
  exact (beq_eq_false_iff_ne.mpr e).symm
theorem FQ (a b : Str) : decide ((Sum.inr a : Key) = Sum.inr b) = decide (a = b) := by
 by_cases e : a = b
 ·subst e; simp
 ·have h : ¬ (Sum.inr a : Key) = Sum.inr b := fun q => e (Sum.inr.inj q)
  rw [decide_eq_false h, decide_eq_false e]
theorem ER (a : Int) (b : Str) : decide ((Sum.inl a : Key) = Sum.inr b) = false := decide_eq_false (fun q => nomatch q)
theorem Gj (a : Str) (b : Int) : decide ((Sum.inr a : Key) = Sum.inl b) = false := decide_eq_false (fun q => nomatch q)
def bT (prog : Program) (w : World) : PySem.KeyKind prog w Key where
 is := uf
 hash := HK w
 inj := fun v a b ha hb => by
  rcases cg ha with ⟨i, t, rfl, rfl⟩ | ⟨x, t, rfl, rfl⟩
  ·rcases cg hb with ⟨j, u, rfl, e⟩ | ⟨y, u, rfl, e⟩
   ·injection e with e1 _; rw [e1]
   ·exact nomatch e
  ·rcases cg hb with ⟨j, u, rfl, e⟩ | ⟨y, u, rfl, e⟩
   ·exact nomatch e
   ·injection e with e1 _; rw [e1]
 byValue := fun k v h => by
  rcases cg h with ⟨i, t, rfl, rfl⟩ | ⟨x, t, rfl, rfl⟩ <;> rfl
 pyHash := fun hv h => by
  rcases cg hv with ⟨i, t, rfl, rfl⟩ | ⟨x, t, rfl, rfl⟩
  ·exact wpAny_pyHash_int h
  ·exact wpAny_pyHash_str h
 eqBool := fun hu hv h => by
  rcases cg hu with ⟨i, t, rfl, rfl⟩ | ⟨x, t, rfl, rfl⟩
  ·rcases cg hv with ⟨j, u, rfl, rfl⟩ | ⟨y, u, rfl, rfl⟩
   ·rw [Fu] at h; exact wpAny_eqBool_int h
   ·rw [ER] at h; exact SeqAt.EqAt.int_str i t y u _ _ _ _ h
  ·rcases cg hv with ⟨j, u, rfl, rfl⟩ | ⟨y, u, rfl, rfl⟩
   ·rw [Gj] at h; exact SeqAt.EqAt.str_int x t j u _ _ _ _ h
   ·rw [FQ] at h; exact wpAny_eqBool_str h
 «strs» := fun k x t v h => by
  rcases cg h with ⟨i, u, rfl, e⟩ | ⟨y, u, rfl, e⟩
  ·exact nomatch e
  ·injection e with e1 _
   subst e1
   cases v <;> rfl
theorem wa (prog : Program) (w : World) (i : Int) (t : Tok) : (bT prog w).is (.inl i) (.int i t) = true := AG i t
theorem vZ (prog : Program) (w : World) (x : Str) (t : Tok) : (bT prog w).is (.inr x) (.str x t) = true := As x t
end L2
namespace L2
open PySem PySem.Spec PyProof.Rows
inductive V where
 | non | bl (b : Bool) | int (i : Int) | str (x : Str) | byt (b : Array UInt8) | flt (b : UInt64) | ref (a : Addr) | ty (n : String)
 deriving DecidableEq
def RelV : V -> Value -> Prop
 | .non, u => u = ZR
 | .bl b, u => u = Value.bool b
 | .int i, u => ∃ t, u = YU i t
 | .str x, u => ∃ t, u = Value.str x t
 | .byt b, u => ∃ t, u = Value.bytes b t
 | .flt b, u => ∃ t, u = Value.float b t
 | .ref a, u => u = vY a
 | .ty n, u => u = Value.type n
abbrev Vals : List V -> List Value -> Prop := Paired RelV
theorem Vals.length {xs : List V} {us : List Value} (r : Vals xs us) : xs.length = us.length := Paired.length r
theorem Vals.get : ∀ {xs : List V} {us : List Value} {i : Nat} {x : V}, Vals xs us -> xs[i]? = some x -> ∃ u, us[i]? = some u /\ RelV x u
 | _, _, _, _, .nil, e => by simp at e
 | _, _, 0, _, .cons r _, e => by simp at e; subst e; exact ⟨_, rfl, r⟩
 | _, _, i + 1, x, .cons _ t, e => by
  obtain ⟨u, h1, h2⟩ := Vals.get (i := i) (x := x) t (by simpa using e)
  exact ⟨u, by simpa using h1, h2⟩
theorem Vals.set {x : V} {u : Value} (r : RelV x u) : ∀ {xs : List V} {us : List Value} (i : Nat), Vals xs us -> Vals (xs.set i x) (us.set i u)
 | _, _, _, .nil => .nil
 | _, _, 0, .cons _ t => .cons r t
 | _, _, i + 1, .cons q t => .cons q (Vals.set r i t)
theorem Vals.append : ∀ {xs ys : List V} {us ws : List Value}, Vals xs us -> Vals ys ws -> Vals (xs ++ ys) (us ++ ws)
 | _, _, _, _, .nil, s => s
 | _, _, _, _, .cons r t, s => .cons r (Vals.append t s)
theorem Vals.take : ∀ {xs : List V} {us : List Value} (n : Nat), Vals xs us -> Vals (xs.take n) (us.take n)
 | _, _, 0, _ => .nil
 | _, _, _ + 1, .nil => .nil
 | _, _, n + 1, .cons r t => .cons r (Vals.take n t)
theorem Vals.drop : ∀ {xs : List V} {us : List Value} (n : Nat), Vals xs us -> Vals (xs.drop n) (us.drop n)
 | _, _, 0, r => r
 | _, _, _ + 1, .nil => .nil
 | _, _, n + 1, .cons _ t => Vals.drop n t
def RelO : Option V -> Option Value -> Prop
 | some v, some u => RelV v u
 | none, none => True
 | _, _ => False
def KV {κ : Type} : List (κ × V) -> List (κ × Value) -> Prop := Paired fun (p : κ × V) (q : κ × Value) => p.1 = q.1 /\ RelV p.2 q.2
def kV : Key -> V
 | .inl i => .int i
 | .inr x => .str x
inductive HO where
 | lst (xs : List V)
 | tup (xs : List V)
 | dK (kvs : List (Key × V)) | dT (kvs : List (List Key × V))
 | set (S : Int -> Bool) (n : Nat)
 | ins (C dx : Addr) (fs : List (Str × V))
 | own (x : Addr)
 | xd (fs : List (Str × V))
 | met (f x : Addr)
 | rng (lo hi : Int)
 | frz (o : Obj) (u : HO)
 | tbl (ps : Array Value)
 | ext (φ : Heap -> Prop)
abbrev Hp := Addr -> Option HO
def upd (H : Hp) (a : Addr) (o : HO) : Hp := fun b => if b = a then some o else H b
theorem aj {H : Hp} {a : Addr} {o : HO} : upd H a o a = some o := by unfold upd; rw [if_pos rfl]
theorem ar {H : Hp} {a b : Addr} {o : HO} (h : b ≠ a) : upd H a o b = H b := by unfold upd; rw [if_neg h]
theorem pU {H : Hp} {a : Addr} {o u : HO} : upd (upd H a o) a u = upd H a u := by
 funext b; unfold upd; split <;> rfl
theorem Gu {H : Hp} {a b : Addr} {o u : HO} (h : H a = some o) (h' : H b = some u) (d : o ≠ u) : a ≠ b := by
 intro e; subst e; rw [h] at h'; exact d (nc h')
theorem ai {H : Hp} {a b : Addr} {o : HO} (h : H a = some o) (h' : H b = none) : a ≠ b := by
 intro e; subst e; rw [h] at h'; cases h'
section
variable (P : Program) (w : World)
def ObjOk (H : Hp) (h : Heap) (a : Addr) : HO -> Prop
 | .lst xs => xs.length <= sizeLine /\ ∃ (its : List Value) (n : Nat), Vals xs its /\ h.get? a = some { cls := .type "list", data := .seq its.toArray n }
 | .tup xs => xs.length <= sizeLine /\ ∃ its : List Value, Vals xs its /\ IsTup h a its.toArray
 | .dK kvs => kvs.length <= sizeLine /\ (a == ZK) = false /\ ∃ vs, KV kvs vs /\ h.DictOf (bT P w) a vs
 | .dT kvs => kvs.length <= sizeLine /\ (a == ZK) = false /\ ∃ xs : List (List Key × Addr × Value),
  Paired (fun (p : List Key × V) (q : List Key × Addr × Value) => p.1 = q.1 /\ H q.2.1 = some (.tup (p.1.map kV)) /\ RelV p.2 q.2.2) kvs xs /\
  ∃ o es ep, h.get? a = some o /\ o.ExactDict /\ o.data = .dict es ep /\ es.toList = xs.map (entryOfKey (tupleKind (bT P w))) /\ (xs.map (·.1)).Nodup
 | .set S n => h.SetOf (intKind P w) a S n
 | .ins C dx fs => H dx = some (.own a) /\ fs.length <= 1000 /\ dx ≠ a /\ h.get? a = some (ZG C dx) /\
  ∃ mA, h.Ns1 dx mA /\ (∀ f, RelO (fs.lookup f) (mA f)) /\ PySem.Within mA (fs.map (·.1))
 | .own _ => ∃ o, h.get? a = some o
 | .xd fs => ∃ mA, h.Ns1 a mA /\ ∀ f, RelO (fs.lookup f) (mA f)
 | .rng lo hi => ∃ t u v, h.get? a = some { cls := .type "range", data := .fields #[.int lo t, .int hi u, .int 1 v] }
 | .frz o u => h.get? a = some o /\ ObjOk H h a u
 | .tbl ps => h.get? a = some { cls := .none, data := .fields ps }
 | .met f x => h.get? a = some (PySem.W.methodObj (.ref f) (.ref x))
 | .ext φ => φ h /\ (∃ o, h.get? a = some o) /\ ∀ h1 h2 : Heap, φ h1 -> (∀ o, h1.get? a = some o -> h2.get? a = some o) -> φ h2
def HOk (H : Hp) (h : Heap) : Prop := ∀ a o, H a = some o -> ObjOk P w H h a o
end
section
variable {P : Program} {w : World} {H H' : Hp} {h h' : Heap} {a : Addr} {o : HO}
theorem ObjOk.lt (x : ObjOk P w H h a o) : a < h.objs.size := by
 cases o with
 | lst xs => obtain ⟨_, _, _, _, e⟩ := x; exact xi e
 | tup xs => obtain ⟨_, _, _, p⟩ := x; exact p.lt
 | dK kvs => obtain ⟨_, _, _, _, o, _, _, e, _⟩ := x; exact xi e
 | dT kvs => obtain ⟨_, _, _, _, o, _, _, e, _⟩ := x; exact xi e
 | set S n => obtain ⟨o, _, _, _, e, _⟩ := x; exact xi e
 | ins C dx fs => obtain ⟨_, _, _, e, _⟩ := x; exact xi e
 | own y => obtain ⟨_, e⟩ := x; exact xi e
 | xd fs => obtain ⟨_, ⟨_, _, _, e, _⟩, _⟩ := x; exact xi e
 | rng lo hi => obtain ⟨_, _, _, e⟩ := x; exact xi e
 | frz ob u => obtain ⟨e, _⟩ := x; exact xi e
 | tbl ps => exact xi (show h.get? a = some _ from x)
 | met f y => exact xi (show h.get? a = some _ from x)
 | ext φ => obtain ⟨_, ⟨_, e⟩, _⟩ := x; exact xi e
theorem Paired.mapP {α β : Type} {F G : α -> β -> Prop} : ∀ {l₁ : List α} {l₂ : List β}, Paired F l₁ l₂ -> (∀ a b, F a b -> G a b) -> Paired G l₁ l₂
 | _, _, .nil, _ => .nil
 | _, _, .cons r t, f => .cons (f _ _ r) (Paired.mapP t f)
theorem ObjOk.stay (x : ObjOk P w H h a o) (k : ∀ b u, (b = a \/ H b = some (.own a)) -> h.get? b = some u -> h'.get? b = some u)
 (ho : ∀ b, H b = some (.own a) -> H' b = some (.own a)) (ht : ∀ b xs, H b = some (.tup xs) -> H' b = some (.tup xs)) : ObjOk P w H' h' a o := by
 induction o with
 | lst xs => obtain ⟨z, its, n, r, e⟩ := x; exact ⟨z, its, n, r, k _ _ (.inl rfl) e⟩
 | tup xs => obtain ⟨z, its, r, ob, e, c⟩ := x; exact ⟨z, its, r, ob, k _ _ (.inl rfl) e, c⟩
 | dK kvs => obtain ⟨z, y, vs, r, ob, es, ep, e, c⟩ := x; exact ⟨z, y, vs, r, ob, es, ep, k _ _ (.inl rfl) e, c⟩
 | dT kvs =>
  obtain ⟨z, y, xs, r, ob, es, ep, e, c⟩ := x
  exact ⟨z, y, xs, Paired.mapP r fun p q z => ⟨z.1, ht _ _ z.2.1, z.2.2⟩, ob, es, ep, k _ _ (.inl rfl) e, c⟩
 | set S n => obtain ⟨ob, es, ep, t, e, c⟩ := x; exact ⟨ob, es, ep, t, k _ _ (.inl rfl) e, c⟩
 | ins C dx fs =>
  obtain ⟨d, z, ne, e, mA, ⟨od, es, ep, e2, c⟩, r⟩ := x
  exact ⟨ho _ d, z, ne, k _ _ (.inl rfl) e, mA, ⟨od, es, ep, k _ _ (.inr d) e2, c⟩, r⟩
 | own y => obtain ⟨ob, e⟩ := x; exact ⟨ob, k _ _ (.inl rfl) e⟩
 | xd fs => obtain ⟨mA, ⟨od, es, ep, e, c⟩, r⟩ := x; exact ⟨mA, ⟨od, es, ep, k _ _ (.inl rfl) e, c⟩, r⟩
 | rng lo hi => obtain ⟨t, u, v, e⟩ := x; exact ⟨t, u, v, k _ _ (.inl rfl) e⟩
 | frz ob u ih => obtain ⟨e, q⟩ := x; exact ⟨k _ _ (.inl rfl) e, ih q⟩
 | tbl ps =>
  have e : h.get? a = some { cls := .none, data := .fields ps } := x
  show h'.get? a = some { cls := .none, data := .fields ps }
  exact k a _ (.inl rfl) e
 | met f y =>
  have e : h.get? a = some (PySem.W.methodObj (.ref f) (.ref y)) := x
  show h'.get? a = some (PySem.W.methodObj (.ref f) (.ref y))
  exact k a _ (.inl rfl) e
 | ext φ => obtain ⟨p, ⟨o, e⟩, st⟩ := x; exact ⟨st _ _ p fun o q => k _ _ (.inl rfl) q, ⟨o, k _ _ (.inl rfl) e⟩, st⟩
theorem HOk.lt (x : HOk P w H h) (e : H a = some o) : a < h.objs.size := (x a o e).lt
theorem HOk.fresh (x : HOk P w H h) (e : h.objs.size <= a) : H a = none := by
 cases q : H a with
 | none => rfl
 | some u => exact absurd (tN (x.lt q) e) (ZX _)
theorem HOk.kept (x : HOk P w H h) (k : ∀ b u, h.get? b = some u -> h'.get? b = some u) : HOk P w H h' := fun a o e =>
 (x a o e).stay (fun b u _ q => k b u q) (fun _ q => q) fun _ _ q => q
theorem HOk.laid (x : HOk P w H h) (k : ∀ b u, h.get? b = some u -> h'.get? b = some u) (hp : h.objs.size <= a) (new : ObjOk P w (upd H a o) h' a o) : HOk P w (upd H a o) h' := fun b u e => by
 have hn := x.fresh hp
 by_cases hb : b = a
 ·subst hb; rw [aj] at e; cases e; exact new
 ·rw [ar hb] at e
  exact (x b u e).stay (fun c v _ q => k c v q) (fun c q => by rw [ar (ai q hn)]; exact q) fun c xs q => by rw [ar (ai q hn)]; exact q
end
def Rd (H : Hp) (a : Addr) (u : HO) : Prop := H a = some u \/ ∃ o, H a = some (.frz o u)
theorem Rd.ok {P : Program} {w : World} {H : Hp} {h : Heap} {a : Addr} {u : HO} (r : Rd H a u) (x : HOk P w H h) : ObjOk P w H h a u := by
 rcases r with r | ⟨o, r⟩
 ·exact x a u r
 ·obtain ⟨_, q⟩ := x a _ r
  exact q
def Mut : Option HO -> Prop
 | some (.lst _) => True
 | some (.dK _) => True
 | some (.dT _) => True
 | some (.set _ _) => True
 | some (.ins _ _ _) => True
 | some (.ext _) => True
 | _ => False
section
variable {P : Program} {w : World} {H : Hp} {h h' : Heap} {x e : Addr} {o' : HO}
theorem HOk.write (ok : HOk P w H h) (mu : Mut (H x)) (he : e = x \/ H e = some (.own x)) (k : ∀ b u, b ≠ e -> h.get? b = some u -> h'.get? b = some u) (heo : ∃ u, h'.get? e = some u)
 (new : ObjOk P w (upd H x o') h' x o') : HOk P w (upd H x o') h' := fun b u q => by
 have nown : ∀ c y, H c = some (.own y) -> c ≠ x := fun c y r z => by subst z; rw [r] at mu; exact mu
 have ntup : ∀ c xs, H c = some (.tup xs) -> c ≠ x := fun c xs r z => by subst z; rw [r] at mu; exact mu
 by_cases hb : b = x
 ·subst hb; rw [aj] at q; cases q; exact new
 ·rw [ar hb] at q
  by_cases hbe : b = e
  ·have q' : H b = some (.own x) := by
    rcases he with z | z
    ·exact absurd (hbe.trans z) hb
    ·rw [hbe]; exact z
   rw [q] at q'; cases q'
   obtain ⟨v, hv⟩ := heo
   exact ⟨v, by rw [hbe]; exact hv⟩
  ·refine (ok b u q).stay (fun c v hc r => k c v ?_ r) (fun c r => by rw [ar (nown c b r)]; exact r) fun c xs r => by rw [ar (ntup c xs r)]; exact r
   rcases hc with rfl | hc
   ·exact hbe
   ·rintro rfl
    rcases he with z | z
    ·exact nown c b hc z
    ·rw [hc] at z; cases z; exact hb rfl
end
structure Un (fs ex : List Addr) (H H' : Hp) (h h' : Heap) : Prop where
 keep : ∀ b o, h.get? b = some o -> H b = none -> b ∉ fs -> b ∉ ex -> h'.get? b = some o
 slot : ∀ b o, h.get? b = some o -> H b = none -> b ∈ fs -> b ∉ ex -> ∃ sl, h'.get? b = some { o with slots := sl }
 free : ∀ b o, h.get? b = some o -> H b = none -> b ∉ ex -> H' b = none
 there : ∀ b o, h.get? b = some o -> b ∉ ex -> ∃ o', h'.get? b = some o'
 tups : ∀ b xs, H b = some (.tup xs) -> H' b = some (.tup xs)
 frzs : ∀ b o u, H b = some (.frz o u) -> H' b = some (.frz o u)
 tbls : ∀ b ps, H b = some (.tbl ps) -> ∃ more, H' b = some (.tbl (ps ++ more))
section
variable {fs fs' ex ex' : List Addr} {H H1 H2 : Hp} {h h1 h2 h' : Heap} {a x e : Addr} {o : HO}
theorem Un.any (u : Un fs ex H H1 h h1) {b : Addr} {ob : Obj} (q : h.get? b = some ob) (n : H b = none) (hx : b ∉ ex) : ∃ sl, h1.get? b = some { ob with slots := sl } := by
 by_cases hb : b ∈ fs
 ·exact u.slot b ob q n hb hx
 ·exact ⟨ob.slots, u.keep b ob q n hb hx⟩
theorem Un.kept (k : ∀ b u, h.get? b = some u -> h'.get? b = some u) : Un fs ex H H h h' :=
 ⟨fun b ob q _ _ _ => k b ob q, fun b ob q _ _ _ => ⟨ob.slots, k b ob q⟩, fun _ _ _ n _ => n, fun b ob q _ => ⟨ob, k b ob q⟩, fun _ _ q => q, fun _ _ _ q => q, fun _ ps q => ⟨#[], by rw [q]; simp⟩⟩
theorem Un.refl : Un fs ex H H h h := Un.kept fun _ _ q => q
theorem Un.laid (k : ∀ b u, h.get? b = some u -> h'.get? b = some u) (hp : h.objs.size <= a) (hn : H a = none) : Un fs ex H (upd H a o) h h' where
 keep := fun b u q _ _ _ => k b u q
 slot := fun b u q _ _ _ => ⟨u.slots, k b u q⟩
 free := fun b u q n _ => by rw [ar (tB (tN (xi q) hp))]; exact n
 there := fun b u q _ => ⟨u, k b u q⟩
 tups := fun b xs q => by rw [ar (ai q hn)]; exact q
 frzs := fun b u xs q => by rw [ar (ai q hn)]; exact q
 tbls := fun b ps q => ⟨#[], by rw [ar (ai q hn), q]; simp⟩
theorem Un.write (mu : Mut (H x)) (he : e = x \/ H e = some (.own x)) (k : ∀ b u, b ≠ e -> h.get? b = some u -> h'.get? b = some u) (heo : ∃ u, h'.get? e = some u) : Un fs ex H (upd H x o) h h' := by
 have hx : ∀ b, H b = none -> b ≠ x := fun b n z => by subst z; rw [n] at mu; exact mu
 have hb : ∀ b, H b = none -> b ≠ e := fun b n z => by
  subst z
  rcases he with r | r
  ·exact hx b n r
  ·rw [n] at r; cases r
 have hm : ∀ b u, H b = some u -> ¬ Mut (some u) -> b ≠ x := fun b u q nm z => by subst z; rw [q] at mu; exact nm mu
 refine ⟨fun b u q n _ _ => k b u (hb b n) q, fun b u q n _ _ => ⟨u.slots, k b u (hb b n) q⟩, fun b u q n _ => by rw [ar (hx b n)]; exact n, fun b u q _ => ?_,
  fun b xs q => by rw [ar (hm b _ q fun z => z)]; exact q, fun b u xs q => by rw [ar (hm b _ q fun z => z)]; exact q, fun b ps q => ⟨#[], by rw [ar (hm b _ q fun z => z), q]; simp⟩⟩
 by_cases hbe : b = e
 ·subst hbe; exact heo
 ·exact ⟨u, k b u hbe q⟩
end
def trk (h : Heap) (H : Hp) : List Addr := (xp h.objs.size).filter fun a => (H a).isSome
def uT (h : Heap) (H : Hp) : Heap := PySem.W.hideAll h (trk h H)
theorem Ao (h : Heap) (H : Hp) : (uT h H).objs.size = h.objs.size := PySem.W.hideAll_size _ _
theorem Br {h : Heap} {H : Hp} {b : Addr} {o : Obj} (e : h.get? b = some o) (n : H b = none) : (uT h H).get? b = some o :=
 PySem.W.hideAll_get _ e fun hm => by
  have q : (H b).isSome = true := (List.mem_filter.mp hm).2
  rw [n] at q; simp at q
theorem En {h : Heap} {H : Hp} {b : Addr} {o : Obj} (e : (uT h H).get? b = some o) : h.get? b = some o /\ H b = none := by
 have e' : h.get? b = some o := PySem.W.of_hideAll (trk h H) e
 refine ⟨e', ?_⟩
 cases q : H b with
 | none => rfl
 | some x =>
  have hm : b ∈ trk h H := List.mem_filter.mpr ⟨ZW.mpr (xi e'), by simp [q]⟩
  have z : (uT h H).get? b = none := PySem.W.hideAll_none (trk h H) hm
  rw [z] at e; cases e
def Dh (g h : Heap) (L : Addr) : List (Addr × Obj) := (xp h.objs.size).filterMap fun a => if a = L \/ (g.get? a).isSome = true then none else (h.get? a).map fun o => (a, o)
def rest (g h : Heap) (L d : Addr) : List (Addr × Obj) := (Dh g h L).filter fun p => decide (p.1 ≠ d)
end L2
namespace L2
open PySem PySem.Spec PyProof.Rows
structure Mod (K : W.Frag) (mg : Str -> Option Value) (base : Heap) : Prop where
 kin : K.In base
 glob : base.Ns xf mg
 blt : ∃ mb, base.Ns builtinsNs mb /\ ∀ x : Str, x ≠ "__name__" -> mb x = nC x
 nolimit : base.NoLimit
structure Cx where
 prog : Program
 w : World
 K : W.Frag
 mg : Str -> Option Value
 base : Heap
 A : Around
 N : List Str
 s₀ : Shared
 H₀ : Hp
 env : Env
 outer : List Env
 stack : List Env
 ex : List Addr
 fn : Str -> Bool
 calm : Bool
 pn : List (Addr × Obj)
 xe : Value -> Shared -> Prop
def frs (l : List Env) : List Addr := l.filterMap (·.frame)
abbrev Cx.fs (X : Cx) : List Addr := frs X.outer
def Vis (sc : Scope) (x : Str) : Prop := sc.names.lookup x = some .local \/ sc.names.lookup x = some .cell \/ sc.names.lookup x = some .free
def Loc (sc : Scope) (x : Str) : Prop := sc.names.lookup x = some .local \/ sc.names.lookup x = some .cell
def HN (env : Env) (h : Heap) (m : Str -> Option Value) (x : Str) (u : Value) : Prop :=
 (env.kindOf x = some .local /\ m x = some u) \/ ((env.kindOf x = some .cell \/ env.kindOf x = some .free) /\ ∃ c, env.cells.lookup x = some c /\ h.IsCell c (some u))
structure Cx.Ok (X : Cx) : Prop where
 mod : Mod X.K X.mg X.base
 kind : X.env.scope.kind = .function
 glob : X.env.globals = xf
 blt : X.env.builtins = builtinsNs
 above : X.s₀.heap.objs.size <= X.env.locals
 inj : ∀ x y c, X.env.cells.lookup x = some c -> X.env.cells.lookup y = some c -> x = y
 has : ∀ x, (X.env.kindOf x = some .cell \/ X.env.kindOf x = some .free) -> ∃ c, X.env.cells.lookup x = some c
 cab : ∀ x c, X.fn x = true -> X.env.cells.lookup x = some c -> X.s₀.heap.objs.size <= c
 hd : X.calm = true -> X.A.handled = none
 frames : X.A.frames = some X.stack
 stk : X.stack = X.outer \/ (X.stack = X.env :: X.outer /\ X.env.frame = some X.env.locals)
 exf : ∀ b ∈ X.ex, b ≠ X.env.locals /\ ∀ x c, X.env.cells.lookup x = some c -> c ≠ b
 bs : ∀ b o, X.base.get? b = some o -> X.s₀.heap.get? b = some o /\ X.H₀ b = none
 bsz : X.base.objs.size <= X.s₀.heap.objs.size
 noex : ∀ b o, X.base.get? b = some o -> b ∉ X.ex
 exfs : ∀ b ∈ X.ex, b ∉ X.fs
 funs : X.s₀.heap.FunFrames X.base X.outer
 frf : ∀ b ∈ X.fs, X.H₀ b = none
structure Inv (X : Cx) (pins : List (Addr × Obj)) (σ : List (Option V)) (H : Hp) (s : Shared) : Prop where
 ok : X.Ok
 os : s.os = X.s₀.os
 bare : AllBare s.gens
 base : Un X.fs X.ex X.H₀ H X.s₀.heap s.heap
 loc : ∃ m, s.heap.Ns X.env.locals m /\ ∀ (i : Nat) (x : Str) (v : V), X.N[i]? = some x -> σ[i]? = some (some v) -> Vis X.env.scope x -> ∃ u, RelV v u /\ HN X.env s.heap m x u
 cell : ∀ x c, X.env.cells.lookup x = some c -> ∃ v, s.heap.IsCell c v
 free : H X.env.locals = none
 freeC : ∀ x c, X.env.cells.lookup x = some c -> H c = none
 pin : ∀ p ∈ X.pn ++ pins, s.heap.get? p.1 = some p.2 /\ H p.1 = none /\ p.1 ≠ X.env.locals /\ p.1 ∉ X.fs /\ ∀ v, p.2.data ≠ .cell v
 hok : HOk X.prog X.w H s.heap
 len : σ.length = X.N.length
section
variable {X : Cx} {pins : List (Addr × Obj)} {σ : List (Option V)} {H H' : Hp} {s : Shared} {h' : Heap}
theorem Cx.Ok.nofr (ok : X.Ok) {b : Addr} {o : Obj} (e : X.base.get? b = some o) : b ∉ X.fs := fun hb => by
 have := (ok.funs.mem hb).1
 rw [e] at this; cases this
theorem Inv.bs (I : Inv X pins σ H s) : ∀ b o, X.base.get? b = some o -> s.heap.get? b = some o /\ H b = none := fun b o e =>
 ⟨I.base.keep b o (I.ok.bs b o e).1 (I.ok.bs b o e).2 (I.ok.nofr e) (I.ok.noex b o e), I.base.free b o (I.ok.bs b o e).1 (I.ok.bs b o e).2 (I.ok.noex b o e)⟩
theorem Inv.bk (I : Inv X pins σ H s) : ∀ b o, X.base.get? b = some o -> s.heap.get? b = some o := fun b o e => (I.bs b o e).1
theorem Inv.mod (I : Inv X pins σ H s) : Mod X.K X.mg X.base := I.ok.mod
theorem Inv.kIn (I : Inv X pins σ H s) : X.K.In s.heap := I.ok.mod.kin.keeps I.bk
theorem Inv.lt (I : Inv X pins σ H s) : X.env.locals < s.heap.objs.size := let ⟨_, hn, _⟩ := I.loc; hn.lt
theorem Inv.sz (I : Inv X pins σ H s) : X.s₀.heap.objs.size <= s.heap.objs.size := qM I.ok.above (Nat.le_of_lt I.lt)
theorem Inv.nofs (I : Inv X pins σ H s) {a : Addr} (h : s.heap.objs.size <= a) : a ∉ X.fs := fun hb => by
 obtain ⟨_, o, ho, _⟩ := I.ok.funs.mem hb
 exact absurd (tN (xi ho) (qM I.sz h)) (ZX _)
theorem Inv.cne (I : Inv X pins σ H s) : ∀ x c, X.env.cells.lookup x = some c -> c ≠ X.env.locals := fun x c e z => by
 obtain ⟨v, o, ho, hd⟩ := I.cell x c e
 obtain ⟨m, ⟨o', es, ep, ho', hd', _⟩, _⟩ := I.loc
 rw [z, ho'] at ho; cases ho; rw [hd'] at hd; cases hd
theorem Inv.funs (I : Inv X pins σ H s) : s.heap.FunFrames X.base X.outer := by
 have all : ∀ (l : List Env), (∀ b ∈ frs l, b ∈ X.fs) -> X.s₀.heap.FunFrames X.base l -> s.heap.FunFrames X.base l := by
  intro l
  induction l with
  | nil => intro _ _; trivial
  | cons env r ih =>
   intro hs hl
   obtain ⟨hk, ⟨L, o, hf, hn, ho, hd⟩, hr⟩ := hl
   have hL : L ∈ X.fs := hs L (by unfold frs; rw [List.filterMap_cons, hf]; exact Zm)
   obtain ⟨sl, e⟩ := I.base.slot L o ho (I.ok.frf L hL) hL fun z => I.ok.exfs L z hL
   exact ⟨hk, ⟨L, _, hf, hn, e, hd⟩, ih (fun b hb => hs b (by unfold frs; rw [List.filterMap_cons, hf]; exact tj _ hb)) hr⟩
 exact all X.outer (fun _ hb => hb) I.ok.funs
theorem Inv.stack (I : Inv X pins σ H s) : s.heap.FunFrames X.base X.stack := by
 rcases I.ok.stk with e | ⟨e, hf⟩
 ·rw [e]; exact I.funs
 ·rw [e]
  obtain ⟨m, hn, _⟩ := I.loc
  refine .cons (by rw [I.ok.kind]; decide) hf hn ?_ I.funs
  exact Heap.get?_none_of_le (qM I.ok.bsz I.ok.above)
theorem Inv.stkSub (I : Inv X pins σ H s) : ∀ b ∈ frs X.stack, b ∈ X.env.locals :: X.fs := fun b hb => by
 rcases I.ok.stk with e | ⟨e, hf⟩
 ·rw [e] at hb; exact tj _ hb
 ·rw [e] at hb
  unfold frs at hb
  rw [List.filterMap_cons, hf] at hb
  exact hb
theorem Inv.stkFree (I : Inv X pins σ H s) : ∀ b ∈ frs X.stack, H b = none := fun b hb => by
 rcases ze.mp (I.stkSub b hb) with e | hb
 ·rw [e]; exact I.free
 ·obtain ⟨_, o, ho, _⟩ := I.ok.funs.mem hb
  exact I.base.free b o ho (I.ok.frf b hb) fun z => I.ok.exfs b z hb
theorem Inv.step {g' : Array GenState} {t' : Nat} {d' : Drawn} {ch : List Addr} (I : Inv X pins σ H s)
 (hch : ∀ b ∈ ch, (b ∈ X.ex \/ X.s₀.heap.objs.size <= b) /\ b ≠ X.env.locals /\ (∀ x c, X.env.cells.lookup x = some c -> c ≠ b) /\ ∀ p ∈ X.pn ++ pins, p.1 ≠ b)
 (keep : ∀ b o, b ≠ X.env.locals -> b ∉ X.fs -> b ∉ ch -> s.heap.get? b = some o -> H b = none -> h'.get? b = some o)
 (slot : ∀ b o, b ≠ X.env.locals -> b ∈ X.fs -> b ∉ ch -> s.heap.get? b = some o -> H b = none -> ∃ sl, h'.get? b = some { o with slots := sl }) (free : ∀ b o, b ∉ ch -> s.heap.get? b = some o -> H b = none -> H' b = none)
 (there : ∀ b o, b ∉ ch -> s.heap.get? b = some o -> ∃ o', h'.get? b = some o')
 (tups : ∀ b xs, H b = some (.tup xs) -> H' b = some (.tup xs)) (frzs : ∀ b o u, H b = some (.frz o u) -> H' b = some (.frz o u)) (tbls : ∀ b ps, H b = some (.tbl ps) -> ∃ more, H' b = some (.tbl (ps ++ more)))
 (ns : ∀ m, s.heap.Ns X.env.locals m -> h'.Ns X.env.locals m) (hok : HOk X.prog X.w H' h') (hg : AllBare g') :
 Inv X pins σ H' { s with heap := h', gens := g', drawn := d', toks := t' } := by
 have neL : ∀ b o, X.s₀.heap.get? b = some o -> b ≠ X.env.locals := fun b o e => tB (tN (xi e) I.ok.above)
 have neC : ∀ b o, X.s₀.heap.get? b = some o -> b ∉ X.ex -> b ∉ ch := fun b o e hx hb => by
  rcases (hch b hb).1 with z | z
  ·exact hx z
  ·exact absurd (tN (xi e) z) (ZX _)
 have cellK : ∀ x c, X.env.cells.lookup x = some c -> ∀ v, s.heap.IsCell c v -> h'.IsCell c v := fun x c e v ⟨o, ho, hd⟩ => by
  have nch : c ∉ ch := fun z => (hch c z).2.2.1 x c e rfl
  by_cases hc : c ∈ X.fs
  ·obtain ⟨sl, q⟩ := slot c o (I.cne x c e) hc nch ho (I.freeC x c e)
   exact ⟨_, q, hd⟩
  ·exact ⟨o, keep c o (I.cne x c e) hc nch ho (I.freeC x c e), hd⟩
 refine ⟨I.ok, I.os, hg, ⟨fun b o e n hb hx => ?_, fun b o e n hb hx => ?_, fun b o e n hx => ?_, fun b o e hx => ?_, fun b xs e => tups b xs (I.base.tups b xs e), fun b o xs e => frzs b o xs (I.base.frzs b o xs e), fun b ps e => ?_⟩, ?_, fun x c e => ?_, ?_, fun x c e => ?_, fun p hp => ?_, hok, I.len⟩
 ·exact keep b o (neL b o e) hb (neC b o e hx) (I.base.keep b o e n hb hx) (I.base.free b o e n hx)
 ·obtain ⟨sl, e1⟩ := I.base.slot b o e n hb hx
  obtain ⟨sl', e2⟩ := slot b _ (neL b o e) hb (neC b o e hx) e1 (I.base.free b o e n hx)
  exact ⟨sl', e2⟩
 ·obtain ⟨o', e1⟩ := I.base.there b o e hx
  exact free b o' (neC b o e hx) e1 (I.base.free b o e n hx)
 ·obtain ⟨o', e1⟩ := I.base.there b o e hx
  exact there b o' (neC b o e hx) e1
 ·obtain ⟨m1, e1⟩ := I.base.tbls b ps e
  obtain ⟨m2, e2⟩ := tbls b _ e1
  exact ⟨m1 ++ m2, by rw [e2, Array.append_assoc]⟩
 ·obtain ⟨m, hn, hl⟩ := I.loc
  refine ⟨m, ns m hn, fun i x v e1 e2 e3 => ?_⟩
  obtain ⟨u, r, l⟩ := hl i x v e1 e2 e3
  refine ⟨u, r, ?_⟩
  rcases l with l | ⟨k, c, e, z⟩
  ·exact .inl l
  ·exact .inr ⟨k, c, e, cellK x c e _ z⟩
 ·obtain ⟨v, z⟩ := I.cell x c e
  exact ⟨v, cellK x c e v z⟩
 ·obtain ⟨m, ⟨o, _, _, ho, _⟩, _⟩ := I.loc
  exact free _ o (fun z => (hch _ z).2.1 rfl) ho I.free
 ·obtain ⟨v, o, ho, hd⟩ := I.cell x c e
  exact free c o (fun z => (hch c z).2.2.1 x c e rfl) ho (I.freeC x c e)
 ·obtain ⟨e, n, ne, nf, d⟩ := I.pin p hp
  have nch : p.1 ∉ ch := fun z => (hch p.1 z).2.2.2 p hp rfl
  exact ⟨keep p.1 p.2 ne nf nch e n, free p.1 p.2 nch e n, ne, nf, d⟩
theorem Inv.un {t' : Nat} (I : Inv X pins σ H s) (u : Un X.fs [] H H' s.heap h') (hok : HOk X.prog X.w H' h') : Inv X pins σ H' { s with heap := h', toks := t' } := by
 obtain ⟨m, ⟨o, es, ep, ho, r⟩, _⟩ := id I.loc
 obtain ⟨sl, hL⟩ := u.any ho I.free (by simp)
 exact I.step (g' := s.gens) (d' := s.drawn) (ch := []) (fun _ z => nomatch z) (fun b o _ hb _ e n => u.keep b o e n hb (by simp)) (fun b o _ hb _ e n => u.slot b o e n hb (by simp)) (fun b o _ e n => u.free b o e n (by simp)) (fun b o _ e => u.there b o e (by simp)) u.tups u.frzs u.tbls (fun m' hm => by
  obtain ⟨o', es', ep', ho', r'⟩ := hm
  rw [ho] at ho'; cases ho'
  exact ⟨_, es', ep', hL, r'⟩) hok I.bare
theorem Inv.call {g' : Array GenState} {t' : Nat} {d' : Drawn} {ch : List Addr} (I : Inv X pins σ H s) (u : Un (frs X.stack) ch H H' s.heap h') (hok : HOk X.prog X.w H' h') (hg : AllBare g')
 (hch : ∀ b ∈ ch, (b ∈ X.ex \/ X.s₀.heap.objs.size <= b) /\ b ≠ X.env.locals /\ (∀ x c, X.env.cells.lookup x = some c -> c ≠ b) /\ ∀ p ∈ X.pn ++ pins, p.1 ≠ b) :
 Inv X pins σ H' { s with heap := h', gens := g', drawn := d', toks := t' } := by
 obtain ⟨m, ⟨o, es, ep, ho, r⟩, _⟩ := id I.loc
 obtain ⟨sl, hL⟩ := u.any ho I.free fun z => (hch _ z).2.1 rfl
 exact I.step (ch := ch) hch (fun b o hL hb hc e n => u.keep b o e n (fun z => (ze.mp (I.stkSub b z)).elim hL hb) hc) (fun b o _ _ hc e n => u.any e n hc) (fun b o hc e n => u.free b o e n hc) (fun b o hc e => u.there b o e hc) u.tups u.frzs u.tbls (fun m' hm => by
  obtain ⟨o', es', ep', ho', r'⟩ := hm
  rw [ho] at ho'; cases ho'
  exact ⟨_, es', ep', hL, r'⟩) hok hg
theorem Inv.turned {t' : Nat} {it : Addr} (I : Inv X pins σ H s) (k : ∀ b o, b ≠ it -> s.heap.get? b = some o -> h'.get? b = some o) (hn : H it = none) (hL : it ≠ X.env.locals)
 (h1 : it ∈ X.ex \/ X.s₀.heap.objs.size <= it) (h2 : ∀ x c, X.env.cells.lookup x = some c -> c ≠ it) (h3 : ∀ p ∈ X.pn ++ pins, p.1 ≠ it) : Inv X pins σ H { s with heap := h', toks := t' } := by
 have nit : ∀ b u, H b = some u -> b ≠ it := fun b u e z => by rw [z, hn] at e; cases e
 refine I.step (g' := s.gens) (d' := s.drawn) (ch := [it]) (fun b hb => ?_) (fun b o _ _ hc e _ => k b o (fun z => hc (by simp [z])) e) (fun b o _ _ hc e _ => ⟨o.slots, k b o (fun z => hc (by simp [z])) e⟩) (fun _ _ _ _ n => n)
  (fun b o hc e => ⟨o, k b o (fun z => hc (by simp [z])) e⟩) (fun _ _ e => e) (fun _ _ _ e => e) (fun b ps e => ⟨#[], by rw [e]; simp⟩) (fun m hm => ?_) (fun b u e => ?_) I.bare
 ·have e : b = it := by simpa using hb
  subst e
  exact ⟨h1, hL, h2, h3⟩
 ·obtain ⟨o, es, ep, ho, r⟩ := hm
  exact ⟨o, es, ep, k _ o (Ne.symm hL) ho, r⟩
 ·refine (I.hok b u e).stay (fun c v hc q => k c v ?_ q) (fun _ q => q) fun _ _ q => q
  rcases hc with z | z
  ·rw [z]; exact nit b u e
  ·exact nit c _ z
theorem Inv.tok (I : Inv X pins σ H s) (t : Nat) : Inv X pins σ H { s with toks := t } := I.un (h' := s.heap) (t' := t) Un.refl I.hok
theorem Inv.kept {t' : Nat} (I : Inv X pins σ H s) (k : ∀ b u, s.heap.get? b = some u -> h'.get? b = some u) : Inv X pins σ H { s with heap := h', toks := t' } := I.un (Un.kept k) (I.hok.kept k)
theorem Inv.laid {a : Addr} {o : HO} {t' : Nat} (I : Inv X pins σ H s) (k : ∀ b u, s.heap.get? b = some u -> h'.get? b = some u) (hp : s.heap.objs.size <= a) (new : ObjOk X.prog X.w (upd H a o) h' a o) :
 Inv X pins σ (upd H a o) { s with heap := h', toks := t' } := I.un (Un.laid k hp (I.hok.fresh hp)) (I.hok.laid k hp new)
theorem Inv.write {x e : Addr} {o : HO} {t' : Nat} (I : Inv X pins σ H s) (mu : Mut (H x)) (he : e = x \/ H e = some (.own x)) (k : ∀ b u, b ≠ e -> s.heap.get? b = some u -> h'.get? b = some u) (heo : ∃ u, h'.get? e = some u)
 (new : ObjOk X.prog X.w (upd H x o) h' x o) : Inv X pins σ (upd H x o) { s with heap := h', toks := t' } := I.un (Un.write mu he k heo) (I.hok.write mu he k heo new)
theorem Inv.pins_of {pins' : List (Addr × Obj)} (I : Inv X pins σ H s) (h : ∀ p ∈ pins', s.heap.get? p.1 = some p.2 /\ H p.1 = none /\ p.1 ≠ X.env.locals /\ p.1 ∉ X.fs /\ ∀ v, p.2.data ≠ .cell v) : Inv X pins' σ H s :=
 ⟨I.ok, I.os, I.bare, I.base, I.loc, I.cell, I.free, I.freeC, fun p hp => (tD.mp hp).elim (fun z => I.pin p (YV _ z)) (h p), I.hok, I.len⟩
theorem ql {N : List Str} (hN : N.Nodup) {i j : Nat} {x : Str} (a : N[i]? = some x) (b : N[j]? = some x) : i = j := by
 obtain ⟨h1, e1⟩ := List.getElem?_eq_some_iff.mp a
 obtain ⟨h2, e2⟩ := List.getElem?_eq_some_iff.mp b
 exact (List.getElem_inj hN).mp (e1.trans e2.symm)
theorem tL {M : Model} {A : Around} {E : Value -> Shared -> Prop} {i : Nat} {x : Str} {v : V} {u : Value} {Q : Unit -> Shared -> Prop} (I : Inv X pins σ H s) (hN : X.N.Nodup) (hi : X.N[i]? = some x) (hx : Loc X.env.scope x) (r : RelV v u)
 (h : ∀ s', Inv X pins (σ.set i (some v)) H s' -> (∃ a, ZV a s.heap s'.heap /\ (a = X.env.locals \/ X.env.cells.lookup x = some a)) -> Q () s') (hf : X.fn x = true \/ X.env.scope.names.lookup x = some .local := by first | exact .inl rfl | exact .inr rfl | assumption) : wpAny M A (storeName X.env x u) Q E s := by
 obtain ⟨m, hn, hl⟩ := id I.loc
 have hcls : (X.env.scope.kind == .class || (X.env.scope.kind == .module && X.env.locals != X.env.globals)) = false := by rw [I.ok.kind]; rfl
 have hiσ : i < σ.length := by rw [I.len]; exact (List.getElem?_eq_some_iff.mp hi).1
 have cne := I.cne
 have tracked : ∀ {a : Addr} {h' : Heap}, (∃ o, s.heap.get? a = some o /\ H a = none) -> ZV a s.heap h' -> HOk X.prog X.w H h' := fun {a h'} ha hs b ob e => by
  obtain ⟨_, _, hfree⟩ := ha
  refine (I.hok b ob e).stay (fun c w' hc q => (hs.2 c ?_).trans q) (fun _ q => q) fun _ _ q => q
  rintro rfl
  rcases hc with rfl | hc
  ·rw [hfree] at e; cases e
  ·rw [hfree] at hc; cases hc
 rcases hx with hk | hk
 ·refine wpAny_storeName_local hk hn (fun h' hn' hs => ?_) hcls
  obtain ⟨oL, _, _, hoL, _⟩ := id hn
  refine h _ ⟨I.ok, I.os, I.bare, ⟨fun b o e n hb hx => ?_, fun b o e n hb hx => ?_, I.base.free, fun b o e hx => ?_, I.base.tups, I.base.frzs, I.base.tbls⟩, ⟨_, hn', fun j y v' e1 e2 e3 => ?_⟩, fun y c e => ?_, I.free, I.freeC, fun p hp => ?_, tracked ⟨oL, hoL, I.free⟩ hs, by simpa using I.len⟩ ⟨_, hs, .inl rfl⟩
  ·exact (hs.2 b (tB (tN (xi e) I.ok.above))).trans (I.base.keep b o e n hb hx)
  ·obtain ⟨sl, e1⟩ := I.base.slot b o e n hb hx
   exact ⟨sl, (hs.2 b (tB (tN (xi e) I.ok.above))).trans e1⟩
  ·obtain ⟨o', e1⟩ := I.base.there b o e hx
   exact ⟨o', (hs.2 b (tB (tN (xi e) I.ok.above))).trans e1⟩
  ·by_cases hj : j = i
   ·subst hj
    rw [hi] at e1; cases e1
    rw [List.getElem?_set_self hiσ] at e2
    cases e2
    exact ⟨u, r, .inl ⟨hk, by simp⟩⟩
   ·rw [List.getElem?_set_ne (Ne.symm hj)] at e2
    obtain ⟨u', r', q⟩ := hl j y v' e1 e2 e3
    refine ⟨u', r', ?_⟩
    rcases q with ⟨k, e⟩ | ⟨k, c, e, z⟩
    ·refine .inl ⟨k, ?_⟩
     have : y ≠ x := fun e => hj (ql hN e1 (e ▸ hi))
     simp [this, e]
    ·exact .inr ⟨k, c, e, z.sameBut hs (cne y c e)⟩
  ·obtain ⟨w', z⟩ := I.cell y c e
   exact ⟨w', z.sameBut hs (cne y c e)⟩
  ·obtain ⟨e, n, ne, nf, d⟩ := I.pin p hp
   exact ⟨(hs.2 p.1 ne).trans e, n, ne, nf, d⟩
 ·have hfn : X.fn x = true := by
   rcases hf with z | z
   ·exact z
   ·rw [z] at hk; cases hk
  obtain ⟨c, hc⟩ := I.ok.has x (.inl hk)
  obtain ⟨w', z⟩ := I.cell x c hc
  refine wpAny_storeName_cell I.ok.kind hk hc z (fun h' hc' hs => ?_)
  obtain ⟨oc, hoc, hocd⟩ := id z
  refine h { s with heap := h' } ⟨I.ok, I.os, I.bare, ⟨fun b o e n hb hx => ?_, fun b o e n hb hx => ?_, I.base.free, fun b o e hx => ?_, I.base.tups, I.base.frzs, I.base.tbls⟩, ⟨m, hn.sameBut hs (Ne.symm (cne x c hc)), fun j y v' e1 e2 e3 => ?_⟩, fun y c' e => ?_, I.free, I.freeC, fun p hp => ?_, tracked ⟨oc, hoc, I.freeC x c hc⟩ hs, by simpa using I.len⟩ ⟨c, hs, .inr hc⟩
  ·exact (hs.2 b (tB (tN (xi e) (I.ok.cab x c hfn hc)))).trans (I.base.keep b o e n hb hx)
  ·obtain ⟨sl, e1⟩ := I.base.slot b o e n hb hx
   exact ⟨sl, (hs.2 b (tB (tN (xi e) (I.ok.cab x c hfn hc)))).trans e1⟩
  ·obtain ⟨o', e1⟩ := I.base.there b o e hx
   exact ⟨o', (hs.2 b (tB (tN (xi e) (I.ok.cab x c hfn hc)))).trans e1⟩
  ·by_cases hj : j = i
   ·subst hj
    rw [hi] at e1; cases e1
    rw [List.getElem?_set_self hiσ] at e2
    cases e2
    exact ⟨u, r, .inr ⟨.inl hk, c, hc, hc'⟩⟩
   ·rw [List.getElem?_set_ne (Ne.symm hj)] at e2
    obtain ⟨u', r', q⟩ := hl j y v' e1 e2 e3
    refine ⟨u', r', ?_⟩
    rcases q with q | ⟨k, c', e, z'⟩
    ·exact .inl q
    ·refine .inr ⟨k, c', e, z'.sameBut hs ?_⟩
     rintro rfl
     exact hj (ql hN e1 (I.ok.inj _ _ _ e hc ▸ hi))
  ·by_cases hcc : c' = c
   ·subst hcc; exact ⟨_, hc'⟩
   ·obtain ⟨w2, z2⟩ := I.cell y c' e
    exact ⟨w2, z2.sameBut hs hcc⟩
  ·obtain ⟨e, n, ne, nf, d⟩ := I.pin p hp
   refine ⟨(hs.2 p.1 ?_).trans e, n, ne, nf, d⟩
   intro q
   rw [q, hoc] at e
   have q' : oc = p.2 := nc e
   exact d w' (by rw [<- q']; exact hocd)
theorem pX {M : Model} {A : Around} {E : Value -> Shared -> Prop} {i : Nat} {x : Str} {v : V} {u : Value} {Q : Unit -> Shared -> Prop} (I : Inv X pins σ H s) (hN : X.N.Nodup) (hi : X.N[i]? = some x) (hx : Loc X.env.scope x) (r : RelV v u)
 (h : ∀ s', Inv X pins (σ.set i (some v)) H s' -> Q () s') (hf : X.fn x = true \/ X.env.scope.names.lookup x = some .local := by first | exact .inl rfl | exact .inr rfl | assumption) : wpAny M A (storeName X.env x u) Q E s :=
 tL I hN hi hx r (fun s' I' _ => h s' I') hf
theorem Inv.call' {s' : Shared} {ch : List Addr} (I : Inv X pins σ H s) (ho : s'.os = s.os) (u : Un (frs X.stack) ch H H' s.heap s'.heap) (hok : HOk X.prog X.w H' s'.heap) (hg : AllBare s'.gens)
 (hch : ∀ b ∈ ch, (b ∈ X.ex \/ X.s₀.heap.objs.size <= b) /\ b ≠ X.env.locals /\ (∀ x c, X.env.cells.lookup x = some c -> c ≠ b) /\ ∀ p ∈ X.pn ++ pins, p.1 ≠ b) : Inv X pins σ H' s' := by
 obtain ⟨h', g', d', t', o'⟩ := s'
 have e : o' = s.os := ho
 subst e
 exact I.call (g' := g') (t' := t') (d' := d') u hok hg hch
end
abbrev XK := Value -> Option Addr -> Hp -> Prop
abbrev St := List (Option V)
abbrev VK := V -> Hp -> Prop
abbrev TE := St -> Hp -> VK -> Prop
abbrev TT := St -> Hp -> (Bool -> Hp -> Prop) -> Prop
abbrev TA := St -> Hp -> (List V -> Hp -> Prop) -> Prop
structure fI where
 nx : St -> Hp -> Prop
 rt : VK
 bk : St -> Hp -> Prop := fun _ _ => False
 ct : St -> Hp -> Prop := fun _ _ => False
abbrev TS := fI -> St -> Hp -> Prop
def EP (X : Cx) (pins : List (Addr × Obj)) (σ : St) (Q : VK) (u : Value) (s' : Shared) : Prop := ∃ v H', Inv X pins σ H' s' /\ RelV v u /\ Q v H'
def TP (X : Cx) (pins : List (Addr × Obj)) (σ : St) (Q : Bool -> Hp -> Prop) (b : Bool) (s' : Shared) : Prop := ∃ H', Inv X pins σ H' s' /\ Q b H'
def AP (X : Cx) (pins : List (Addr × Obj)) (σ : St) (Q : List V -> Hp -> Prop) (us : List Value) (s' : Shared) : Prop := ∃ vs H', Inv X pins σ H' s' /\ Vals vs us /\ Q vs H'
def SP (X : Cx) (pins : List (Addr × Obj)) (D : fI) (f : Flow) (s' : Shared) : Prop :=
 match f with
 | .next => ∃ σ' H', Inv X pins σ' H' s' /\ D.nx σ' H'
 | .brk => ∃ σ' H', Inv X pins σ' H' s' /\ D.bk σ' H'
 | .cont => ∃ σ' H', Inv X pins σ' H' s' /\ D.ct σ' H'
 | .ret u => ∃ v σ' H', Inv X pins σ' H' s' /\ RelV v u /\ D.rt v H'
def PE (X : Cx) (e : Expr) (t : TE) : Prop :=
 ∀ (pins : List (Addr × Obj)) (s : Shared) (σ : St) (H : Hp) (Q : VK), Inv X pins σ H s -> t σ H Q -> wpAny (model X.prog X.w) X.A (eval e X.env) (EP X pins σ Q) X.xe s
def PT (X : Cx) (e : Expr) (t : TT) : Prop :=
 ∀ (pins : List (Addr × Obj)) (s : Shared) (σ : St) (H : Hp) (Q : Bool -> Hp -> Prop), Inv X pins σ H s -> t σ H Q -> wpAny (model X.prog X.w) X.A (isTrue e X.env (eval e X.env)) (TP X pins σ Q) X.xe s
def PW (X : Cx) (e : Expr) (t : TT) : Prop :=
 ∀ (whole : Sem Value) (pins : List (Addr × Obj)) (s : Shared) (σ : St) (H : Hp) (Q : Bool -> Hp -> Prop), Inv X pins σ H s -> t σ H Q -> wpAny (model X.prog X.w) X.A (isTrue e X.env whole) (TP X pins σ Q) X.xe s
theorem PW.pt {X : Cx} {e : Expr} {t : TT} (h : PW X e t) : PT X e t := h _
def PA (X : Cx) (es : List Expr) (t : TA) : Prop :=
 ∀ (pos : Pos) (pins : List (Addr × Obj)) (s : Shared) (σ : St) (H : Hp) (Q : List V -> Hp -> Prop), Inv X pins σ H s -> t σ H Q -> wpAny (model X.prog X.w) X.A (spliced (backTo pos (starEach es X.env))) (AP X pins σ Q) X.xe s
def PS (X : Cx) (st : Stmt) (t : TS) : Prop :=
 ∀ (pins : List (Addr × Obj)) (s : Shared) (σ : St) (H : Hp) (D : fI), Inv X pins σ H s -> t D σ H -> wpAny (model X.prog X.w) X.A (exec st X.env) (SP X pins D) X.xe s
def PSs (X : Cx) (st : List Stmt) (t : TS) : Prop :=
 ∀ (pins : List (Addr × Obj)) (s : Shared) (σ : St) (H : Hp) (D : fI), Inv X pins σ H s -> t D σ H -> wpAny (model X.prog X.w) X.A (execs st X.env) (SP X pins D) X.xe s
theorem thn {α : Type} {t : Sem α} {Q Q' : α -> Shared -> Prop} {M : Model} {A : Around} {E : Value -> Shared -> Prop} {s : Shared} (h : wpAny M A t Q E s) (hQ : ∀ a s, Q a s -> Q' a s) : wpAny M A t Q' E s := Zq h hQ fun _ _ x => x
end L2
namespace L2
open PySem PySem.Spec PyProof.Rows
section
variable {X : Cx}
theorem bin {a b : Expr} {ta tb : TE} (ha : PE X a ta) (hb : PE X b tb) {pins : List (Addr × Obj)} {s : Shared} {σ : St} {H : Hp} {R : V -> V -> Hp -> Prop} (I : Inv X pins σ H s) (h : ta σ H fun x H1 => tb σ H1 fun y H2 => R x y H2)
 {α : Type} {Q : α -> Shared -> Prop} {f : Value -> Value -> Sem α}
 (hf : ∀ v u s2 x y H2, Inv X pins σ H2 s2 -> RelV x v -> RelV y u -> R x y H2 -> wpAny (model X.prog X.w) X.A (f v u) Q X.xe s2) :
 wpAny (model X.prog X.w) X.A (eval a X.env) (fun v s₁ => wpAny (model X.prog X.w) X.A (eval b X.env) (fun u s₂ => wpAny (model X.prog X.w) X.A (f v u) Q X.xe s₂) X.xe s₁) X.xe s := by
 refine thn (ha pins s σ H _ I h) fun v s1 ⟨x, H1, I1, r1, q1⟩ => ?_
 refine thn (hb pins s1 σ H1 _ I1 q1) fun u s2 ⟨y, H2, I2, r2, q2⟩ => ?_
 exact hf v u s2 x y H2 I2 r1 r2 q2
def Ht (i : Nat) : TE := fun σ H Q => ∃ v, σ[i]? = some (some v) /\ Q v H
def tC (v : V) : TE := fun _ H Q => Q v H
theorem FY {i : Nat} {x : Str} {pos : Pos} (hN : X.N[i]? = some x) (hv : Vis X.env.scope x) (hd : (x == ("__debug__" : Str)) = false := by decide) (hcd : (x == ("__classdict__" : Str)) = false := by decide) : PE X (.Name x pos) (Ht i) := by
 intro pins s σ H Q I h
 obtain ⟨v, e, h⟩ := h
 obtain ⟨m, hn, hl⟩ := I.loc
 obtain ⟨u, r, l⟩ := hl i x v hN e hv
 have fin : EP X pins σ Q u s := ⟨v, H, I, r, h⟩
 rcases l with ⟨hk, hm⟩ | ⟨hk, c, hc, hcell⟩
 ·exact wpAny_Name (wpAny_loadName_local I.ok.kind hk hn hm fin) hd
 ·rcases hk with hk | hk
  ·exact wpAny_Name (wpAny_loadName_cell I.ok.kind hk hc hcell fin) hd
  ·exact wpAny_Name (wpAny_loadName_free I.ok.kind hk hc hcell fin hcd) hd
theorem ac {i j pos} : PE X (.Constant (.int i) j pos) (tC (.int i)) := fun _ _ _ H _ I h => wpAny_Constant_int ⟨.int i, H, I.tok _, ⟨_, rfl⟩, h⟩
theorem fW {b j pos} : PE X (.Constant (.bool b) j pos) (tC (.bl b)) := fun _ _ _ H _ I h => Constant_bool ⟨.bl b, H, I, rfl, h⟩
theorem uu {j pos} : PE X (.Constant .none j pos) (tC .non) := fun _ _ _ H _ I h => Constant_none ⟨.non, H, I, rfl, h⟩
theorem E2 {x j pos} : PE X (.Constant (.str x) j pos) (tC (.str x)) := fun _ _ _ H _ I h => Calls.Constant_str ⟨.str x, H, I.tok _, ⟨_, rfl⟩, h⟩
def Gl (X : Cx) (x : Str) : Prop := X.env.kindOf x = some .globalImplicit
theorem j8 {E : Value -> Shared -> Prop} {pins : List (Addr × Obj)} {s : Shared} {σ : St} {H : Hp} {x : Str} {u : Value} {pos : Pos} {Q : Value -> Shared -> Prop} (I : Inv X pins σ H s) (hg : Gl X x) (hm : X.mg x = some u) (h : Q u s)
 (hd : (x == ("__debug__" : Str)) = false := by decide) : wpAny (model X.prog X.w) X.A (eval (.Name x pos) X.env) Q E s :=
 Calls.Name_function_global I.ok.kind hg (Calls.loadGlobal_global (by rw [I.ok.glob]; exact I.mod.glob.keeps I.bk) hm h) hd
theorem mt {E : Value -> Shared -> Prop} {pins : List (Addr × Obj)} {s : Shared} {σ : St} {H : Hp} {x : Str} {u : Value} {pos : Pos} {Q : Value -> Shared -> Prop} (I : Inv X pins σ H s) (hg : Gl X x) (hm : X.mg x = none) (hv : nC x = some u) (h : Q u s)
 (hn : x ≠ "__name__" := by decide) (hd : (x == ("__debug__" : Str)) = false := by decide) : wpAny (model X.prog X.w) X.A (eval (.Name x pos) X.env) Q E s := by
 obtain ⟨mb, h1, h2⟩ := I.mod.blt
 exact Calls.Name_function_global I.ok.kind hg (Calls.loadGlobal_builtin (by rw [I.ok.glob]; exact I.mod.glob.keeps I.bk) hm (by rw [I.ok.blt]; exact h1.keeps I.bk) ((h2 x hn).trans hv) h) hd
theorem j9 {x : Str} {v : V} {u : Value} {pos : Pos} (hg : Gl X x) (hm : X.mg x = some u) (r : RelV v u) (hd : (x == ("__debug__" : Str)) = false := by decide) : PE X (.Name x pos) (tC v) :=
 fun _ _ _ H _ I h => j8 I hg hm ⟨v, H, I, r, h⟩ hd
theorem dH {x : Str} {v : V} {u : Value} {pos : Pos} (hg : Gl X x) (hm : X.mg x = none) (hv : nC x = some u) (r : RelV v u) (hn : x ≠ "__name__" := by decide) (hd : (x == ("__debug__" : Str)) = false := by decide) : PE X (.Name x pos) (tC v) :=
 fun _ _ _ H _ I h => mt I hg hm hv ⟨v, H, I, r, h⟩ hn hd
variable {a b : Expr} {ta tb : TE} {pos : Pos}
def PC (X : Cx) (op : CmpOp) (a b : Expr) (t : TE) : Prop :=
 ∀ (pins : List (Addr × Obj)) (s : Shared) (σ : St) (H : Hp) (Q : VK), Inv X pins σ H s -> t σ H Q ->
  wpAny (model X.prog X.w) X.A (eval a X.env) (fun v s₁ => wpAny (model X.prog X.w) X.A (eval b X.env) (fun u s₂ => wpAny (model X.prog X.w) X.A (pZ op v u) (EP X pins σ Q) X.xe s₂) X.xe s₁) X.xe s
theorem B9 (b : Expr) {op : CmpOp} (h : op ≠ .In) (h2 : op ≠ .NotIn) : Yd op b = false := by
 have e1 : (op == CmpOp.In) = false := by cases op <;> first | rfl | exact absurd rfl h
 have e2 : (op == CmpOp.NotIn) = false := by cases op <;> first | rfl | exact absurd rfl h2
 cases b <;> simp [Yd, e1, e2]
def ED (ta : TE) : TE := fun σ H Q => ta σ H fun x H1 => Q (.bl (!decide (x = .non))) H1
theorem RelV.none_iff {x : V} {v : Value} (r : RelV x v) : (v == ZR) = decide (x = .non) := by
 cases x with
 | non => cases r; rfl
 | bl _ => cases r; rfl
 | int _ => obtain ⟨t, rfl⟩ := r; rfl
 | str _ => obtain ⟨t, rfl⟩ := r; rfl
 | byt _ => obtain ⟨t, rfl⟩ := r; rfl
 | flt _ => obtain ⟨t, rfl⟩ := r; rfl
 | ref _ => cases r; rfl
 | ty _ => cases r; rfl
theorem CM {j pos'} (ha : PE X a ta) : PC X .IsNot a (.Constant .none j pos') (ED ta) := by
 intro pins s σ H Q I h
 refine thn (ha pins s σ H _ I h) fun v s1 ⟨x, H1, I1, r1, q1⟩ => ?_
 exact Constant_none (isnot_none_gen ⟨.bl _, H1, I1, by rw [r1.none_iff]; rfl, q1⟩)
variable {tA tB' : TT} {rest : List Expr}
def GF (t u : TT) : TT := fun σ H Q => t σ H fun c H1 => if c = true then u σ H1 Q else Q false H1
def tOr (t u : TT) : TT := fun σ H Q => t σ H fun c H1 => if c = true then Q true H1 else u σ H1 Q
def GH (t : TT) : TT := fun σ H Q => t σ H fun c H1 => Q (!c) H1
theorem pW (ha : PT X a tA) : PW X (.BoolOp .And [a] pos) tA := by
 intro wh pins s σ H Q I h
 refine isTrue_and (thn (ha pins s σ H Q I h) fun c s1 e => ?_)
 cases c with
 | true => exact isTrue_and_nil e
 | false => exact e
theorem lq (ha : PT X a tA) : PW X (.BoolOp .Or [a] pos) tA := by
 intro wh pins s σ H Q I h
 refine isTrue_or (thn (ha pins s σ H Q I h) fun c s1 e => ?_)
 cases c with
 | false => exact isTrue_or_nil e
 | true => exact e
theorem rT (ha : PT X a tA) (hb : PW X (.BoolOp .And (b :: rest) pos) tB') : PW X (.BoolOp .And (a :: b :: rest) pos) (GF tA tB') := by
 intro wh pins s σ H Q I h
 refine isTrue_and (thn (ha pins s σ H _ I h) fun c s1 ⟨H1, I1, q1⟩ => ?_)
 cases c with
 | true => exact hb wh pins s1 σ H1 Q I1 q1
 | false => exact ⟨H1, I1, q1⟩
theorem pv (ha : PT X a tA) (hb : PW X (.BoolOp .Or (b :: rest) pos) tB') : PW X (.BoolOp .Or (a :: b :: rest) pos) (tOr tA tB') := by
 intro wh pins s σ H Q I h
 refine isTrue_or (thn (ha pins s σ H _ I h) fun c s1 ⟨H1, I1, q1⟩ => ?_)
 cases c with
 | true => exact ⟨H1, I1, q1⟩
 | false => exact hb wh pins s1 σ H1 Q I1 q1
theorem b8 (ha : PT X a tA) : PT X (.UnaryOp .Not a pos) (GH tA) := by
 intro pins s σ H Q I h
 exact isTrue_not (ha pins s σ H (fun c H1 => Q (!c) H1) I h)
theorem cV {op} {t : TE} (h : PE X a t) : PE X (.BoolOp op [a] pos) t := fun pins s σ H Q I hw => BoolOp_one (h pins s σ H Q I hw)
def tIf (t : TT) (ta tb : TE) : TE := fun σ H Q => t σ H fun c H1 => if c = true then ta σ H1 Q else tb σ H1 Q
theorem BR {c : Expr} (hc : PT X c tA) (ha : PE X a ta) (hb : PE X b tb) : PE X (.IfExp c a b pos) (tIf tA ta tb) := by
 intro pins s σ H Q I h
 refine wpAny_IfExp (thn (hc pins s σ H _ I h) fun d s1 ⟨H1, I1, q1⟩ => ?_)
 cases d with
 | true => exact ha pins s1 σ H1 Q I1 q1
 | false => exact hb pins s1 σ H1 Q I1 q1
end
end L2
namespace L2
open PySem PySem.Spec PyProof.Rows
def SqL (K : W.Frag) (H : Hp) (a : Addr) (xs : List V) : Prop :=
 Rd H a (.lst xs) \/
  ∃ (o : Obj) (its : Array Value) (n : Nat), K.lookup a = some o /\ o.cls = .type "list" /\ o.dict = none /\ o.data = .seq its n /\ its.size <= sizeLine /\ Vals xs its.toList
def SqT (K : W.Frag) (H : Hp) (a : Addr) (xs : List V) : Prop :=
 Rd H a (.tup xs) \/
  ∃ (o : Obj) (its : Array Value) (n : Nat), K.lookup a = some o /\ o.cls = .type "tuple" /\ o.data = .seq its n /\ its.size <= sizeLine /\ Vals xs its.toList
def A8 : Value -> Option V
 | .none => some .non
 | .bool b => some (.bl b)
 | .int i _ => some (.int i)
 | .str x _ => some (.str x)
 | .bytes b _ => some (.byt b)
 | .float b _ => some (.flt b)
 | .ref a => some (.ref a)
 | .type n => some (.ty n)
 | _ => none
theorem RelV.abs {x : V} {u : Value} (r : RelV x u) : A8 u = some x := by
 cases x with
 | non => cases r; rfl
 | bl _ => cases r; rfl
 | int _ => obtain ⟨t, rfl⟩ := r; rfl
 | str _ => obtain ⟨t, rfl⟩ := r; rfl
 | byt _ => obtain ⟨t, rfl⟩ := r; rfl
 | flt _ => obtain ⟨t, rfl⟩ := r; rfl
 | ref _ => cases r; rfl
 | ty _ => cases r; rfl
theorem RelV.inj {x y : V} {u : Value} (r : RelV x u) (q : RelV y u) : x = y := nc (r.abs.symm.trans q.abs)
theorem Vals.inj : ∀ {xs ys : List V} {us : List Value}, Vals xs us -> Vals ys us -> xs = ys
 | _, _, _, .nil, .nil => rfl
 | _, _, _, .cons r t, .cons r' t' => by rw [r.inj r', Vals.inj t t']
section
variable {X : Cx} {pins : List (Addr × Obj)} {σ : St} {H : Hp} {s : Shared} {a : Addr} {xs ys : List V}
theorem SqL.of {K : W.Frag} (h : H a = some (.lst xs)) : SqL K H a xs := .inl (.inl h)
theorem SqT.of {K : W.Frag} (h : H a = some (.tup xs)) : SqT K H a xs := .inl (.inl h)
theorem Inv.list (I : Inv X pins σ H s) (h : SqL X.K H a xs) : ∃ its : List Value, Vals xs its /\ PlainL s.heap a its.toArray /\ xs.length <= sizeLine := by
 rcases h with h | ⟨o, its, n, hk, hc, hd, hs, hz, r⟩
 ·obtain ⟨z, its, n, r, e⟩ := h.ok I.hok
  exact ⟨its, r, ⟨_, n, e, rfl, rfl, rfl⟩, z⟩
 ·refine ⟨its.toList, r, ⟨o, n, I.kIn a o hk, hc, hd, by simpa using hs⟩, ?_⟩
  have e := r.length
  simp only [ZB] at e
  omega
theorem Inv.tuple (I : Inv X pins σ H s) (h : SqT X.K H a xs) : ∃ its : List Value, Vals xs its /\ IsTup s.heap a its.toArray /\ xs.length <= sizeLine := by
 rcases h with h | ⟨o, its, n, hk, hc, hs, hz, r⟩
 ·obtain ⟨z, its, r, p⟩ := h.ok I.hok
  exact ⟨its, r, p, z⟩
 ·refine ⟨its.toList, r, ⟨o, I.kIn a o hk, hc, n, by simpa using hs⟩, ?_⟩
  have e := r.length
  simp only [ZB] at e
  omega
theorem Inv.list_inj (I : Inv X pins σ H s) (h : SqL X.K H a xs) (h' : SqL X.K H a ys) : xs = ys := by
 obtain ⟨its, r, ⟨o, n, e, _, _, d⟩, _⟩ := I.list h
 obtain ⟨its', r', ⟨o', n', e', _, _, d'⟩, _⟩ := I.list h'
 rw [e] at e'; cases e'
 rw [d] at d'
 injection d' with d1 _
 have : its = its' := by simpa using congrArg Array.toList d1
 subst this
 exact r.inj r'
theorem Inv.tuple_inj (I : Inv X pins σ H s) (h : SqT X.K H a xs) (h' : SqT X.K H a ys) : xs = ys := by
 obtain ⟨its, r, ⟨o, e, _, n, d⟩, _⟩ := I.tuple h
 obtain ⟨its', r', ⟨o', e', _, n', d'⟩, _⟩ := I.tuple h'
 rw [e] at e'; cases e'
 rw [d] at d'
 injection d' with d1 _
 have : its = its' := by simpa using congrArg Array.toList d1
 subst this
 exact r.inj r'
end
abbrev Cx.wish (X : Cx) (E : Value -> Shared -> Prop) : Cx := { X with xe := E }
abbrev Cx.nox (X : Cx) : Cx := X.wish fun _ _ => False
section
variable {X : Cx} {pins : List (Addr × Obj)} {σ : St} {H : Hp} {s : Shared} {E : Value -> Shared -> Prop}
end
section
variable {X : Cx} {st : Stmt} {rest : List Stmt} {t u : TS} {e : Expr} {te : TE} {pos : Pos}
def EO : TS := fun D σ H => D.nx σ H
def Hf (t u : TS) : TS := fun D σ H => t { D with nx := u D } σ H
theorem aV : PSs X [] EO := fun _ _ σ H _ I h => wpAny_execs_nil ⟨σ, H, I, h⟩
theorem af (h1 : PS X st t) (h2 : PSs X rest u) : PSs X (st :: rest) (Hf t u) := by
 intro pins s σ H D I h
 refine wpAny_execs_cons (thn (h1 pins s σ H { D with nx := u D } I h) fun f s1 q => ?_)
 cases f with
 | next =>
  obtain ⟨σ', H', I', q⟩ := q
  exact h2 pins s1 σ' H' D I' q
 | ret v => exact q
 | brk => exact q
 | cont => exact q
theorem ak (h1 : PS X st t) : PSs X [st] t := by
 intro pins s σ H D I h
 refine wpAny_execs_cons (thn (h1 pins s σ H D I h) fun f s1 q => ?_)
 cases f with
 | next => exact wpAny_execs_nil q
 | ret v => exact q
 | brk => exact q
 | cont => exact q
theorem Inv.quiet {pins : List (Addr × Obj)} {σ : St} {H : Hp} {s : Shared} (I : Inv X pins σ H s) : interactive X.env = false := by simp [interactive, I.ok.kind]
def EK (te : TE) : TS := fun D σ H => te σ H fun _ H1 => D.nx σ H1
theorem dv (he : PE X e te) (hs : swapsWith e none pos.line X.env = pure false := by rfl) : PS X (.Expr e pos) (EK te) := by
 intro pins s σ H D I h
 exact wpAny_Expr_any (thn (he pins s σ H _ I h) fun v s1 ⟨x, H1, I1, r1, q1⟩ => ⟨σ, H1, I1, q1⟩) I.quiet hs
def Gs (te : TE) : TS := fun D σ H => te σ H D.rt
theorem aG (he : PE X e te) : PS X (.Return (some e) pos) (Gs te) := by
 intro pins s σ H D I h
 exact wpAny_Return_some (thn (he pins s σ H _ I h) fun v s1 ⟨x, H1, I1, r1, q1⟩ => ⟨x, σ, H1, I1, r1, q1⟩)
def GW (c : TT) (t u : TS) : TS := fun D σ H => c σ H fun b H1 => if b = true then t D σ H1 else u D σ H1
theorem bz {c : Expr} {a b : List Stmt} {tc : TT} (hc : PT X c tc) (ha : PSs X a t) (hb : PSs X b u) : PS X (.If c a b pos) (GW tc t u) := by
 intro pins s σ H D I h
 refine wpAny_If (thn (hc pins s σ H _ I h) fun d s1 ⟨H1, I1, q1⟩ => ?_)
 cases d with
 | true => exact ha pins s1 σ H1 D I1 q1
 | false => exact hb pins s1 σ H1 D I1 q1
end
abbrev TG := V -> St -> Hp -> (St -> Hp -> Prop) -> Prop
abbrev TGs := List V -> St -> Hp -> (St -> Hp -> Prop) -> Prop
def PG (X : Cx) (target : Expr) (t : TG) : Prop :=
 ∀ (pins : List (Addr × Obj)) (s : Shared) (σ : St) (H : Hp) (v : V) (u : Value) (Q : St -> Hp -> Prop), Inv X pins σ H s -> RelV v u -> t v σ H Q ->
  wpAny (model X.prog X.w) X.A (assign target X.env u) (fun _ s' => ∃ σ' H', Inv X pins σ' H' s' /\ Q σ' H') X.xe s
def PGs (X : Cx) (ts : List Expr) (t : TGs) : Prop :=
 ∀ (pins : List (Addr × Obj)) (s : Shared) (σ : St) (H : Hp) (vs : List V) (us : List Value) (Q : St -> Hp -> Prop), Inv X pins σ H s -> Vals vs us -> t vs σ H Q ->
  wpAny (model X.prog X.w) X.A (assignInOrder ((Yu ts X.env).map (·.2)) us) (fun _ s' => ∃ σ' H', Inv X pins σ' H' s' /\ Q σ' H') X.xe s
abbrev F9 := V -> V -> V -> Hp -> (Hp -> Prop) -> Prop
def Gw (X : Cx) (t : F9) : Prop :=
 ∀ (pins : List (Addr × Obj)) (s : Shared) (σ : St) (H : Hp) (o i v : V) (ov iv u : Value) (Q : Hp -> Prop), Inv X pins σ H s -> RelV o ov -> RelV i iv -> RelV v u -> t o i v H Q ->
  wpAny (model X.prog X.w) X.A (setItem ov iv u) (fun _ s' => ∃ H', Inv X pins σ H' s' /\ Q H') X.xe s
section
variable {X : Cx} {pos : Pos}
def ii (i : Nat) : TG := fun v σ H Q => Q (σ.set i (some v)) H
theorem aI {i : Nat} {x : Str} (hN : X.N.Nodup) (hi : X.N[i]? = some x) (hx : Loc X.env.scope x) (hf : X.fn x = true \/ X.env.scope.names.lookup x = some .local := by first | exact .inl rfl | exact .inr rfl | assumption) : PG X (.Name x pos) (ii i) := by
 intro pins s σ H v u Q I r h
 exact wpAny_assign_Name (pX I hN hi hx r (fun s' I' => ⟨_, H, I', h⟩) hf)
def Gm : TGs := fun vs σ H Q => vs = [] /\ Q σ H
def yR (t : TG) (u : TGs) : TGs := fun vs σ H Q => ∃ v r, vs = v :: r /\ t v σ H fun σ' H' => u r σ' H' Q
theorem gR : PGs X [] Gm := by
 intro pins s σ H vs us Q I r h
 obtain ⟨e, h⟩ := h
 subst e
 cases r
 exact assignInOrder_nil ⟨σ, H, I, h⟩
theorem ba {e : Expr} {es : List Expr} {t : TG} {u : TGs} (h1 : PG X e t) (h2 : PGs X es u)
 (hs : (Yu (e :: es) X.env).map (·.2) = assign e X.env :: (Yu es X.env).map (·.2) := by rfl) : PGs X (e :: es) (yR t u) := by
 intro pins s σ H vs us Q I r h
 obtain ⟨v, vr, e1, h⟩ := h
 subst e1
 cases r with
 | cons r rr =>
  rw [hs]
  refine assignInOrder_cons (thn (h1 pins s σ H _ _ _ I r h) fun _ s1 ⟨σ1, H1, I1, q1⟩ => ?_)
  exact h2 pins s1 σ1 H1 _ _ Q I1 rr q1
def Dg (K : W.Frag) (n : Nat) (t : TGs) : TG := fun v σ H Q => ∃ a xs, v = .ref a /\ SqT K H a xs /\ xs.length = n /\ t xs σ H Q
theorem FN {es : List Expr} {k : Nat} {t : TGs} {n : Nat} (hc : X.calm = true) (h : PGs X es t)
 (hn : (Yu es X.env).length = n := by rfl) (hst : (Yu es X.env).findIdx? (·.1) = none := by rfl) : PG X (.Tuple es k pos) (Dg X.K n t) := by
 intro pins s σ H v u Q I r hw
 obtain ⟨a, xs, e1, hq, hl, hw⟩ := hw
 subst e1
 cases r
 obtain ⟨its, rv, ht, hz⟩ := I.tuple hq
 refine assign_Tuple_tuple (I.ok.hd hc) ht (by simp [hn, <- hl, rv.length]) hst fun h' hx => ?_
 have I1 : Inv X pins σ H { s with heap := h' } := I.kept (t' := s.toks) fun b o e => hx b o (tB (xi e)) e
 exact h pins _ σ H xs _ Q I1 (by simpa using rv) hw
def Hd (to ti : TE) (t : F9) : TG := fun v σ H Q => to σ H fun o H1 => ti σ H1 fun i H2 => t o i v H2 fun H3 => Q σ H3
theorem n9 {o i : Expr} {to ti : TE} {t : F9} (ho : PE X o to) (hi : PE X i ti) (hs : Gw X t)
 (ha : ∀ v, assign (.Subscript o i pos) X.env v = (do
  let ov <- holding [v] (eval o X.env)
  let iv <- holding [v, ov] (eval i X.env)
  standAt pos
  holding [v, ov, iv] (setItem ov iv v)
  release [v, ov, iv] []) := by intro _; rfl) : PG X (.Subscript o i pos) (Hd to ti t) := by
 intro pins s σ H v u Q I r h
 rw [ha]
 refine zz (ZA (thn (ho pins s σ H _ I h) fun ov s1 ⟨x, H1, I1, r1, q1⟩ => ?_))
 refine zz (ZA (thn (hi pins s1 σ H1 _ I1 q1) fun iv s2 ⟨y, H2, I2, r2, q2⟩ => ?_))
 refine zz (wpAny_standAt (zz (ZA (thn (hs pins s2 σ H2 x y v ov iv u _ I2 r1 r2 r q2) fun _ s3 ⟨H3, I3, q3⟩ => ?_))))
 exact wpAny_release ⟨σ, H3, I3, q3⟩
def DL (te : TE) (g : TG) : TS := fun D σ H => te σ H fun x H1 => g x σ H1 D.nx
theorem iz {tg e : Expr} {te : TE} {g : TG} (he : PE X e te) (hg : PG X tg g) (hs : swapsWithSole [tg] e pos.line X.env = pure false := by rfl) (hw : swappedStores [tg] e X.env = pure none := by rfl)
 (h1 : (Yu [tg] X.env).map (·.2) = [assign tg X.env] := by rfl) : PS X (.Assign [tg] e pos) (DL te g) := by
 intro pins s σ H D I h
 refine wpAny_Assign_stores (thn (he pins s σ H _ I h) fun v s1 ⟨x, H1, I1, r1, q1⟩ => ?_) hs hw
 rw [h1]
 exact thn (hg pins s1 σ H1 x v _ I1 r1 q1) fun _ s2 q => q
theorem aK {i : Nat} {x : Str} {e : Expr} {te : TE} {pos' : Pos} (hN : X.N.Nodup) (hi : X.N[i]? = some x) (hx : Loc X.env.scope x) (he : PE X e te) (hs : swapsWith e (some (.Name x pos')) pos.line X.env = pure false := by rfl) (hf : X.fn x = true \/ X.env.scope.names.lookup x = some .local := by first | exact .inl rfl | exact .inr rfl | assumption) :
 PS X (.Assign [.Name x pos'] e pos) (DL te (ii i)) := by
 intro pins s σ H D I h
 refine wpAny_Assign_Name (thn (he pins s σ H _ I h) fun v s1 ⟨y, H1, I1, r1, q1⟩ => ?_) hs
 exact pX I1 hN hi hx r1 (fun s2 I2 => ⟨_, H1, I2, q1⟩) hf
end
section
variable {X : Cx} {pos : Pos}
end
structure It where
 go : Nat -> Hp -> Prop
 yld : Nat -> Hp -> V -> Hp -> Prop
 stop : Nat -> Hp -> Prop
def sK (X : Cx) (pins : List (Addr × Obj)) (H : Hp) (b : Addr) : Prop :=
 H b = none /\ b ≠ X.env.locals /\ b ∉ X.fs /\ (b ∈ X.ex \/ X.s₀.heap.objs.size <= b) /\ (∀ x c, X.env.cells.lookup x = some c -> c ≠ b) /\ ∀ p ∈ X.pn ++ pins, p.1 ≠ b
theorem Inv.fpOk {X : Cx} {pins : List (Addr × Obj)} {σ : St} {H H' : Hp} {s : Shared} {b : Addr} (I : Inv X pins σ H s) (hb : s.heap.objs.size <= b) (hn : H' b = none) : sK X pins H' b := by
 refine ⟨hn, Nat.ne_of_gt (tN I.lt hb), I.nofs hb, .inr (qM I.sz hb), fun x c e z => ?_, fun p hp z => ?_⟩
 ·obtain ⟨v, q⟩ := I.cell x c e
  exact absurd (tN q.lt (by rw [z]; exact hb)) (ZX _)
 ·exact absurd (tN (xi (I.pin p hp).1) (by rw [z]; exact hb)) (ZX _)
structure wK (P : Program) (w : World) (K : W.Frag) (tg : Expr) (J : It) (fp : List Addr) (it : Addr) (tn : Nat -> Heap -> Prop) : Prop where
 mem : it ∈ fp
 obj : ∀ i h, tn i h -> ∀ b ∈ fp, ∃ o, h.get? b = some o /\ ∀ v, o.data ≠ .cell v
 keep : ∀ i h h', tn i h -> (∀ b ∈ fp, ∀ o, h.get? b = some o -> h'.get? b = some o) -> tn i h'
 item : ∀ (X : Cx), X.prog = P -> X.w = w -> X.K = K -> X.calm = true -> ∀ (i : Nat) (pins : List (Addr × Obj)) (s : Shared) (σ : St) (H : Hp) (E : Value -> Shared -> Prop), Inv X pins σ H s -> (∀ b ∈ fp, sK X pins H b) -> tn i s.heap -> J.go i H ->
  wpAny (model P w) X.A (pyNext (.ref it)) (fun r s1 => ∃ u, r = some u /\
   wpAny (model P w) X.A (letOwnedTupleGo tg (.ref it) u) (fun _ s2 => ∃ x H', Inv X pins σ H' s2 /\ RelV x u /\ J.yld i H x H' /\ tn (i + 1) s2.heap /\ ∀ b ∈ fp, H' b = none) E s1) E s
 done : ∀ (X : Cx), X.prog = P -> X.w = w -> X.K = K -> X.calm = true -> ∀ (i : Nat) (pins : List (Addr × Obj)) (s : Shared) (σ : St) (H : Hp) (E : Value -> Shared -> Prop), Inv X pins σ H s -> (∀ b ∈ fp, sK X pins H b) -> tn i s.heap -> J.stop i H ->
  wpAny (model P w) X.A (pyNext (.ref it)) (fun r s1 => r = none /\ Inv X pins σ H s1) E s
 self : ∀ (A : Around) (i : Nat) (s : Shared) (Q : Value -> Shared -> Prop) (E : Value -> Shared -> Prop), tn i s.heap -> Q (.ref it) s -> wpAny (model P w) A (pyIter (.ref it)) Q E s
abbrev TI := St -> Hp -> (It -> Hp -> Prop) -> Prop
def PIE (X : Cx) (pins : List (Addr × Obj)) (σ : St) (tg : Expr) (R : It -> Hp -> Prop) (itv : Value) (s2 : Shared) : Prop :=
 ∃ (it : Addr) (fp : List Addr) (tn : Nat -> Heap -> Prop) (J : It) (H' : Hp), itv = .ref it /\ Inv X pins σ H' s2 /\ wK X.prog X.w X.K tg J fp it tn /\ tn 0 s2.heap /\ (∀ b ∈ fp, sK X pins H' b) /\ R J H'
def PI (X : Cx) (tg iter : Expr) (wi : TI) : Prop :=
 ∀ (pins : List (Addr × Obj)) (s : Shared) (σ : St) (H : Hp) (R : It -> Hp -> Prop), Inv X pins σ H s -> wi σ H R ->
  wpAny (model X.prog X.w) X.A (eval iter X.env) (fun v s1 => wpAny (model X.prog X.w) X.A (pyIter v) (PIE X pins σ tg R) X.xe s1) X.xe s
theorem rO {M : Model} {A : Around} {E : Value -> Shared -> Prop} {s : Shared} {tg : Expr} {it : Addr} {u : Value} {o : Obj} {n : String} {vs : Array Value} {Q : Unit -> Shared -> Prop} (ho : s.heap.get? it = some o) (hc : o.cls = .type n) (hd : o.data = .fields vs)
 (hn : ["enumerate", "zip", "dict_itemiterator", "dict_reverseitemiterator", "odict_iterator", "itertools.zip_longest", "itertools.pairwise"].contains n = false) (hQ : Q () s) : wpAny M A (letOwnedTupleGo tg (.ref it) u) Q E s := by
 unfold letOwnedTupleGo
 cases tg <;> first
  | exact yZ hQ
  | (cases u <;> first
   | exact yZ hQ
   | (refine zz (wpAny_load ho ?_)
      rw [hc, hd]
      show wpAny M A (if (["enumerate", "zip", "dict_itemiterator", "dict_reverseitemiterator", "odict_iterator", "itertools.zip_longest", "itertools.pairwise"].contains n && vs[0]? == some (rawInt _)) = true then _ else _) Q E s
      rw [if_neg (by intro h; rw [hn, Bool.false_and] at h; cases h)]
      exact yZ hQ))
def Itl (K : W.Frag) (a : Addr) : It :=
 ⟨fun i H => ∃ xs x, SqL K H a xs /\ xs[i]? = some x, fun i H x H' => H' = H /\ ∀ xs, SqL K H a xs -> xs[i]? = some x, fun i H => ∃ xs, SqL K H a xs /\ xs.length <= i⟩
def Itt (K : W.Frag) (a : Addr) : It :=
 ⟨fun i H => ∃ xs x, SqT K H a xs /\ xs[i]? = some x, fun i H x H' => H' = H /\ ∀ xs, SqT K H a xs -> xs[i]? = some x, fun i H => ∃ xs, SqT K H a xs /\ xs.length <= i⟩
def Itr (lo : Int) (n : Nat) : It := ⟨fun i _ => i < n, fun i H x H' => H' = H /\ x = .int (lo + i), fun i _ => n <= i⟩
theorem Ab {P : Program} {w : World} {K : W.Frag} {tg : Expr} (a it : Addr) : wK P w K tg (Itl K a) [it] it (fun i h => h.IsListIter it a i) where
 mem := by simp
 obj := fun i h st b hb => by
  have e : b = it := by simpa using hb
  subst e
  obtain ⟨o, e, c, d⟩ := st
  exact ⟨o, e, fun v z => by rw [d] at z; cases z⟩
 keep := fun i h h' st k => st.at fun o e => k it (by simp) o e
 item := by
  intro X hP hw hK hc i pins s σ H E I hf st hg
  subst hP hw hK
  obtain ⟨xs, x, hq, hx⟩ := hg
  obtain ⟨its, rv, p, hz⟩ := I.list hq
  obtain ⟨u, hu, ru⟩ := rv.get hx
  obtain ⟨f0, f1, f2, f3, f4, f5⟩ := hf it (by simp)
  refine wpAny_pyNext_list_item st p.isList (x := u) (by simpa using hu) fun h' st' sb => ?_
  have I1 : Inv X pins σ H { s with heap := h' } := I.turned (t' := s.toks) (fun b o hb e => (sb.2 b hb).trans e) f0 f1 f3 f4 f5
  obtain ⟨o, e, c, d⟩ := id st'
  exact ⟨u, rfl, rO (s := { s with heap := h' }) e c d (by decide) ⟨x, H, I1, ru, ⟨rfl, fun ys hy => by rw [I.list_inj hy hq]; exact hx⟩, st', fun b hb => (hf b hb).1⟩⟩
 done := by
  intro X hP hw hK hc i pins s σ H E I hf st hg
  subst hP hw hK
  obtain ⟨xs, hq, hx⟩ := hg
  obtain ⟨its, rv, p, hz⟩ := I.list hq
  obtain ⟨f0, f1, f2, f3, f4, f5⟩ := hf it (by simp)
  have hl := rv.length
  exact wpAny_pyNext_list_end (I.ok.hd hc) st p.isList (by simp; omega) fun h' eb => ⟨rfl, I.turned (t' := s.toks) (fun b o hb e => eb b o hb e) f0 f1 f3 f4 f5⟩
 self := fun _ _ _ _ _ st h => wpAny_pyIter_listiter st h
theorem yC {P : Program} {w : World} {K : W.Frag} {tg : Expr} (a it : Addr) : wK P w K tg (Itt K a) [it] it (fun i h => h.IsTupleIter it a i) where
 mem := by simp
 obj := fun i h st b hb => by
  have e : b = it := by simpa using hb
  subst e
  obtain ⟨o, e, c, d⟩ := st
  exact ⟨o, e, fun v z => by rw [d] at z; cases z⟩
 keep := fun i h h' st k => st.at fun o e => k it (by simp) o e
 item := by
  intro X hP hw hK hc i pins s σ H E I hf st hg
  subst hP hw hK
  obtain ⟨xs, x, hq, hx⟩ := hg
  obtain ⟨its, rv, p, hz⟩ := I.tuple hq
  obtain ⟨u, hu, ru⟩ := rv.get hx
  obtain ⟨f0, f1, f2, f3, f4, f5⟩ := hf it (by simp)
  refine wpAny_pyNext_tuple_item st (show s.heap.IsTuple a its.toArray from p) (x := u) (by simpa using hu) fun h' st' sb => ?_
  have I1 : Inv X pins σ H { s with heap := h' } := I.turned (t' := s.toks) (fun b o hb e => (sb.2 b hb).trans e) f0 f1 f3 f4 f5
  obtain ⟨o, e, c, d⟩ := id st'
  exact ⟨u, rfl, rO (s := { s with heap := h' }) e c d (by decide) ⟨x, H, I1, ru, ⟨rfl, fun ys hy => by rw [I.tuple_inj hy hq]; exact hx⟩, st', fun b hb => (hf b hb).1⟩⟩
 done := by
  intro X hP hw hK hc i pins s σ H E I hf st hg
  subst hP hw hK
  obtain ⟨xs, hq, hx⟩ := hg
  obtain ⟨its, rv, p, hz⟩ := I.tuple hq
  obtain ⟨f0, f1, f2, f3, f4, f5⟩ := hf it (by simp)
  have hl := rv.length
  exact wpAny_pyNext_tuple_end (I.ok.hd hc) st (show s.heap.IsTuple a its.toArray from p) (by simp; omega) fun h' eb => ⟨rfl, I.turned (t' := s.toks) (fun b o hb e => eb b o hb e) f0 f1 f3 f4 f5⟩
 self := fun _ _ _ _ _ st h => wpAny_pyIter_tupleiter st h
theorem xX {P : Program} {w : World} {K : W.Frag} {tg : Expr} (it : Addr) (lo : Int) (n : Nat) : wK P w K tg (Itr lo n) [it] it (fun i h => IsRangeIter h it (lo + (i : Nat) * 1) ((n : Int) - (i : Nat)) 1) where
 mem := by simp
 obj := fun i h st b hb => by
  have e : b = it := by simpa using hb
  subst e
  exact ⟨_, st, fun v z => by
   have z' : YH _ = Data.cell v := z
   cases z'⟩
 keep := fun i h h' st k => k it (by simp) _ st
 item := by
  intro X hP hw hK hc i pins s σ H E I hf st hg
  subst hP hw hK
  obtain ⟨f0, f1, f2, f3, f4, f5⟩ := hf it (by simp)
  have W := Walks.range (prog := X.prog) (w := X.w) (I.ok.hd hc) it lo 1 n
  refine W.item i s _ _ hg st fun v h' tk hv st' kk => ?_
  obtain ⟨t, rfl⟩ := hv
  have I1 : Inv X pins σ H { s with heap := h', toks := tk } := I.turned (fun b o hb e => kk b o (by simpa using hb) e) f0 f1 f3 f4 f5
  refine ⟨_, rfl, rO (s := { s with heap := h', toks := tk }) (n := "range_iterator") st' rfl rfl (by decide) ⟨.int (lo + i), H, I1, ⟨t, ?_⟩, ⟨rfl, rfl⟩, st', fun b hb => (hf b hb).1⟩⟩
  rw [Int.mul_one]
 done := by
  intro X hP hw hK hc i pins s σ H E I hf st hg
  subst hP hw hK
  obtain ⟨f0, f1, f2, f3, f4, f5⟩ := hf it (by simp)
  exact wpAny_pyNext_range_end (I.ok.hd hc) st (by have : n <= i := hg; omega) fun h' eb => ⟨rfl, I.turned (t' := s.toks) (fun b o hb e => eb b o hb e) f0 f1 f3 f4 f5⟩
 self := fun _ _ _ _ _ st h => wpAny_pyIter_rangeiter st h
end L2
namespace L2
open PySem PySem.Spec PyProof.Rows
section
variable {X : Cx} {tg : Expr}
def rF (K : W.Frag) (tl : TE) : TI := fun σ H R => tl σ H fun x H1 => ∃ a, x = .ref a /\ (∃ xs, SqL K H1 a xs) /\ R (Itl K a) H1
def FK (K : W.Frag) (tl : TE) : TI := fun σ H R => tl σ H fun x H1 => ∃ a, x = .ref a /\ (∃ xs, SqT K H1 a xs) /\ R (Itt K a) H1
theorem D7 {l : Expr} {tl : TE} (hl : PE X l tl) : PI X tg l (rF X.K tl) := by
 intro pins s σ H R I h
 refine thn (hl pins s σ H _ I h) fun v s1 ⟨x, H1, I1, r1, q1⟩ => ?_
 obtain ⟨a, e, ⟨xs, hq⟩, q⟩ := q1
 subst e
 cases r1
 obtain ⟨its, rv, p, hz⟩ := I1.list hq
 refine wpAny_pyIter_list p.isList ?_
 refine ⟨s1.heap.objs.size, [s1.heap.objs.size], _, _, H1, rfl, I1.kept (t' := s1.toks) fun b o e => Heap.get?_push_of_some _ e, Ab a _, ⟨_, Heap.get?_push_size _ rfl, rfl, rfl⟩, fun b hb => ?_, q⟩
 have e : b = s1.heap.objs.size := by simpa using hb
 subst e
 exact I1.fpOk (zM _) (I1.hok.fresh (zM _))
theorem Fo {l : Expr} {tl : TE} (hl : PE X l tl) : PI X tg l (FK X.K tl) := by
 intro pins s σ H R I h
 refine thn (hl pins s σ H _ I h) fun v s1 ⟨x, H1, I1, r1, q1⟩ => ?_
 obtain ⟨a, e, ⟨xs, hq⟩, q⟩ := q1
 subst e
 cases r1
 obtain ⟨its, rv, p, hz⟩ := I1.tuple hq
 refine wpAny_pyIter_tuple (show s1.heap.IsTuple a its.toArray from p) ?_
 refine ⟨s1.heap.objs.size, [s1.heap.objs.size], _, _, H1, rfl, I1.kept (t' := s1.toks) fun b o e => Heap.get?_push_of_some _ e, yC a _, ⟨_, Heap.get?_push_size _ rfl, rfl, rfl⟩, fun b hb => ?_, q⟩
 have e : b = s1.heap.objs.size := by simpa using hb
 subst e
 exact I1.fpOk (zM _) (I1.hok.fresh (zM _))
theorem wc {pins : List (Addr × Obj)} {σ : St} {H : Hp} {s : Shared} {R : It -> Hp -> Prop} {E : Value -> Shared -> Prop} {lo hi : Int} {t u v : Tok} {tk : Nat} (I : Inv X pins σ H s) (h1 : -(2 ^ 62) <= lo) (h2 : lo < 2 ^ 62) (h3 : -(2 ^ 62) <= hi) (h4 : hi < 2 ^ 62)
 (q : R (Itr lo (hi - lo).toNat) H) : wpAny (model X.prog X.w) X.A (pyIter (.ref s.heap.objs.size)) (PIE X pins σ tg R) E { s with heap := s.heap.push { cls := .type "range", data := .fields #[.int lo t, .int hi u, .int 1 v] }, toks := tk } := by
 refine wpAny_pyIter_range (IsRange.new ..) (small_one h1 h2 h3 h4) ?_
 have I1 : Inv X pins σ H { s with heap := s.heap.push { cls := .type "range", data := .fields #[.int lo t, .int hi u, .int 1 v] }, toks := tk } := I.kept fun b o e => Heap.get?_push_of_some _ e
 refine ⟨(s.heap.push { cls := .type "range", data := .fields #[.int lo t, .int hi u, .int 1 v] }).objs.size, [(s.heap.push { cls := .type "range", data := .fields #[.int lo t, .int hi u, .int 1 v] }).objs.size], _, _, H, rfl,
  I1.kept (t' := tk) fun b o e => Heap.get?_push_of_some _ e, xX _ lo (hi - lo).toNat, ?_, fun b hb => ?_, q⟩
 ·have e1 : lo + ((0 : Nat) : Int) * 1 = lo := by simp
  have e2 : (((hi - lo).toNat : Nat) : Int) - ((0 : Nat) : Int) = Builtin.Range.rangeSize lo hi 1 := by rw [rangeSize_one]; split <;> omega
  show IsRangeIter _ _ (lo + ((0 : Nat) : Int) * 1) ((((hi - lo).toNat : Nat) : Int) - ((0 : Nat) : Int)) 1
  rw [e1, e2]
  exact Heap.get?_push_size _ rfl
 ·have e : b = (s.heap.push { cls := .type "range", data := .fields #[.int lo t, .int hi u, .int 1 v] }).objs.size := by simpa using hb
  subst e
  exact I1.fpOk (zM _) (I1.hok.fresh (zM _))
def By (ta : TA) : TI := fun σ H R => ta σ H fun vs H1 => ∃ j : Int, vs = [.int j] /\ -(2 ^ 62) <= j /\ j < 2 ^ 62 /\ R (Itr 0 j.toNat) H1
def Cp (ta : TA) : TI := fun σ H R => ta σ H fun vs H1 => ∃ i j : Int, vs = [.int i, .int j] /\ (-(2 ^ 62) <= i /\ i < 2 ^ 62 /\ -(2 ^ 62) <= j /\ j < 2 ^ 62) /\ R (Itr i (j - i).toNat) H1
theorem cU {a : Expr} {ta : TA} {p pos : Pos} (hg : Gl X "range") (hm : X.mg "range" = none) (ha : PA X [a] ta) (hs : starEach [a] X.env = [(false, eval a X.env)] := by rfl) : PI X tg (.Call (.Name "range" p) [a] [] pos) (By ta) := by
 intro pins s σ H R I h
 refine Call_ (mt I hg hm boot_range (ZS (thn (ha pos pins s σ H _ I h) fun us s1 ⟨vs, H1, I1, r1, q1⟩ => ?_) hs rfl))
 obtain ⟨j, e, q1, q2, q⟩ := q1
 subst e
 cases r1 with
 | cons r rr =>
  cases rr
  obtain ⟨t, rfl⟩ := r
  exact call_range_1 (wc I1 (by omega) (by omega) q1 q2 (by simpa using q))
theorem tF {a b : Expr} {ta : TA} {p pos : Pos} (hg : Gl X "range") (hm : X.mg "range" = none) (ha : PA X [a, b] ta) (hs : starEach [a, b] X.env = [(false, eval a X.env), (false, eval b X.env)] := by rfl) (hs2 : starEach [b] X.env = [(false, eval b X.env)] := by rfl) :
 PI X tg (.Call (.Name "range" p) [a, b] [] pos) (Cp ta) := by
 intro pins s σ H R I h
 refine Call_ (mt I hg hm boot_range (ZS (thn (ha pos pins s σ H _ I h) fun us s1 ⟨vs, H1, I1, r1, q1⟩ => ?_) (by rw [hs, hs2]) (by rw [hs2]; rfl)))
 obtain ⟨i, j, e, ⟨q1, q2, q3, q4⟩, q⟩ := q1
 subst e
 cases r1 with
 | cons r rr =>
  cases rr with
  | cons r' rr =>
   cases rr
   obtain ⟨t, rfl⟩ := r
   obtain ⟨t', rfl⟩ := r'
   exact call_range_2 (wc I1 q1 q2 q3 q4 q)
def v7 (wi : TI) (g : TG) (tb : TS) : TS := fun D σ H => wi σ H fun J H1 => ∃ W : Nat -> Nat -> St -> Hp -> Prop, (∃ m, W 0 m σ H1) /\ ∀ i m σ H, W i m σ H ->
 (J.stop i H /\ D.nx σ H) \/ (J.go i H /\ ∃ N : St -> Hp -> Prop, (∀ σ' H', N σ' H' -> ∃ m', m' < m /\ W (i + 1) m' σ' H') /\ ∀ x H', J.yld i H x H' -> g x σ H' fun σ2 H2 => tb { D with nx := N, ct := N, bk := D.nx } σ2 H2)
def rM (fp : List Addr) (h : Heap) : List (Addr × Obj) := fp.filterMap fun b => (h.get? b).map fun o => (b, o)
theorem iG {fp : List Addr} {h : Heap} {b : Addr} {o : Obj} (hb : b ∈ fp) (e : h.get? b = some o) : (b, o) ∈ rM fp h := List.mem_filterMap.mpr ⟨b, hb, by rw [e]; rfl⟩
theorem AF {fp : List Addr} {h : Heap} {p : Addr × Obj} (hp : p ∈ rM fp h) : p.1 ∈ fp /\ h.get? p.1 = some p.2 := by
 obtain ⟨b, hb, e⟩ := List.mem_filterMap.mp hp
 cases q : h.get? b with
 | none => rw [q] at e; cases e
 | some o =>
  rw [q] at e
  have e' : (b, o) = p := nc e
  subst e'
  exact ⟨hb, q⟩
theorem Inv.pinned {pins : List (Addr × Obj)} {σ : St} {H : Hp} {s : Shared} {fp : List Addr} (I : Inv X pins σ H s) (hf : ∀ b ∈ fp, sK X pins H b) (ho : ∀ b ∈ fp, ∃ o, s.heap.get? b = some o /\ ∀ v, o.data ≠ .cell v) : Inv X (pins ++ rM fp s.heap) σ H s :=
 I.pins_of fun p hp => (tD.mp hp).elim (fun z => I.pin p (pe _ z)) fun z => by
  obtain ⟨hb, e⟩ := AF z
  obtain ⟨f0, f1, f2, _⟩ := hf p.1 hb
  obtain ⟨o, e', d⟩ := ho p.1 hb
  rw [e] at e'; cases e'
  exact ⟨e, f0, f1, f2, d⟩
theorem Inv.unpinned {pins pl : List (Addr × Obj)} {σ : St} {H : Hp} {s : Shared} (I : Inv X (pins ++ pl) σ H s) : Inv X pins σ H s := I.pins_of fun p hp => I.pin p (pe _ (YV _ hp))
theorem eh {iter : Expr} {body : List Stmt} {wi : TI} {g : TG} {tb : TS} {pos : Pos} (hp : PassesOwn (model X.prog X.w) X.A X.env X.xe) (hc : X.calm = true) (hi : PI X tg iter wi) (hg : PG X tg g) (hb : PSs X body tb)
 (hs : ∀ x, foldedSetIterable iter X.env x = pure x := by intro _; rfl) : PS X (.For tg iter body [] pos) (v7 wi g tb) := by
 intro pins s σ H D I h
 refine wpAny_For (thn (hi pins s σ H _ I h) fun v s1 h1 => thn h1 fun itv s2 h2 => ?_) hs
 obtain ⟨it, fp, tn, J, H2, e, I2, T, st2, f2, W, ⟨m0, w0⟩, turn⟩ := h2
 subst e
 have stat : ∀ {H' : Hp}, (∀ b ∈ fp, H' b = none) -> ∀ b ∈ fp, sK X pins H' b := fun hn b hb => ⟨hn b hb, (f2 b hb).2⟩
 refine codeAny_forLoop_any (fun n s' => ∃ i σ' H', Inv X pins σ' H' s' /\ tn i s'.heap /\ (∀ b ∈ fp, H' b = none) /\ W i n σ' H') ?_ m0 ⟨0, σ, H2, I2, st2, fun b hb => (f2 b hb).1, w0⟩
 rintro n s3 ⟨i, σ3, H3, I3, st3, fr3, w3⟩
 rcases turn i n σ3 H3 w3 with ⟨stop, qn⟩ | ⟨go, N, hN, step⟩
 ·refine YL hp (thn (T.done X rfl rfl rfl hc i pins s3 σ3 H3 X.xe I3 (stat fr3) st3 stop) fun r s4 ⟨hr, I4⟩ => ?_)
  subst hr
  exact wpAny_execs_nil ⟨σ3, H3, I4, qn⟩
 ·refine YL hp (thn (T.item X rfl rfl rfl hc i pins s3 σ3 H3 X.xe I3 (stat fr3) st3 go) fun r s4 ⟨u, hr, h4⟩ => ?_)
  subst hr
  refine YL hp (thn h4 fun _ s5 ⟨x, H5, I5, r5, y5, st5, fr5⟩ => ?_)
  have I5' := I5.pinned (stat fr5) (T.obj _ _ st5)
  refine YL hp (thn (hg _ s5 σ3 H5 x u _ I5' r5 (step x H5 y5)) fun _ s6 ⟨σ6, H6, I6, q6⟩ => ?_)
  refine YL hp (thn (hb _ s6 σ6 H6 _ I6 q6) fun f s7 q7 => ?_)
  have again : ∀ {σ7 : St} {H7 : Hp}, Inv X (pins ++ rM fp s5.heap) σ7 H7 s7 -> N σ7 H7 -> ∃ m, m < n /\ ∃ i σ' H', Inv X pins σ' H' s7 /\ tn i s7.heap /\ (∀ b ∈ fp, H' b = none) /\ W i m σ' H' := fun {σ7 H7} I7 n7 => by
   obtain ⟨m', hm, w7⟩ := hN σ7 H7 n7
   refine ⟨m', hm, i + 1, σ7, H7, I7.unpinned, T.keep _ _ _ st5 fun b hb o e => (I7.pin (b, o) (pe _ (pe _ (iG hb e)))).1, fun b hb => ?_, w7⟩
   obtain ⟨o, e, d⟩ := T.obj _ _ st5 b hb
   exact (I7.pin (b, o) (pe _ (pe _ (iG hb e)))).2.1
  cases f with
  | next => obtain ⟨σ7, H7, I7, n7⟩ := q7; exact again I7 n7
  | cont => obtain ⟨σ7, H7, I7, n7⟩ := q7; exact again I7 n7
  | brk => obtain ⟨σ7, H7, I7, q7⟩ := q7; exact ⟨σ7, H7, I7.unpinned, q7⟩
  | ret v => obtain ⟨x7, σ7, H7, I7, r7, q7⟩ := q7; exact ⟨x7, σ7, H7, I7.unpinned, r7, q7⟩
end
theorem nk {K : W.Frag} {a : Addr} {xs : List V} {g : TG} {tb : TS} {D : fI} {σ : St} {H : Hp} (Pv : Nat -> St -> Hp -> Prop) (h0 : Pv 0 σ H) (hl : ∀ i σ H, i <= xs.length -> Pv i σ H -> SqL K H a xs)
 (hs : ∀ i x σ H, xs[i]? = some x -> Pv i σ H -> g x σ H fun σ2 H2 => tb { D with nx := Pv (i + 1), ct := Pv (i + 1), bk := D.nx } σ2 H2) (hd : ∀ σ H, Pv xs.length σ H -> D.nx σ H) :
 ∃ W : Nat -> Nat -> St -> Hp -> Prop, (∃ m, W 0 m σ H) /\ ∀ i m σ H, W i m σ H ->
  ((Itl K a).stop i H /\ D.nx σ H) \/ ((Itl K a).go i H /\ ∃ N : St -> Hp -> Prop, (∀ σ' H', N σ' H' -> ∃ m', m' < m /\ W (i + 1) m' σ' H') /\ ∀ x H', (Itl K a).yld i H x H' -> g x σ H' fun σ2 H2 => tb { D with nx := N, ct := N, bk := D.nx } σ2 H2) := by
 refine ⟨fun i m σ H => m = xs.length - i /\ i <= xs.length /\ Pv i σ H, ⟨xs.length, by simp, o3 _, h0⟩, ?_⟩
 rintro i m σ H ⟨rfl, hi, p⟩
 have q := hl i σ H hi p
 by_cases hlt : i < xs.length
 ·refine .inr ⟨⟨xs, xs[i], q, by simp [hlt]⟩, Pv (i + 1), fun σ' H' p' => ⟨xs.length - (i + 1), by omega, rfl, hlt, p'⟩, fun x H' y => ?_⟩
  obtain ⟨e, y⟩ := y
  subst e
  exact hs i x σ _ (y xs q) p
 ·have e : i = xs.length := by omega
  subst e
  exact .inl ⟨⟨xs, q, zM _⟩, hd σ H p⟩
theorem eI {lo : Int} {n : Nat} {g : TG} {tb : TS} {D : fI} {σ : St} {H : Hp} (Pv : Nat -> St -> Hp -> Prop) (h0 : Pv 0 σ H)
 (hs : ∀ i σ H, i < n -> Pv i σ H -> g (.int (lo + i)) σ H fun σ2 H2 => tb { D with nx := Pv (i + 1), ct := Pv (i + 1), bk := D.nx } σ2 H2) (hd : ∀ σ H, Pv n σ H -> D.nx σ H) :
 ∃ W : Nat -> Nat -> St -> Hp -> Prop, (∃ m, W 0 m σ H) /\ ∀ i m σ H, W i m σ H ->
  ((Itr lo n).stop i H /\ D.nx σ H) \/ ((Itr lo n).go i H /\ ∃ N : St -> Hp -> Prop, (∀ σ' H', N σ' H' -> ∃ m', m' < m /\ W (i + 1) m' σ' H') /\ ∀ x H', (Itr lo n).yld i H x H' -> g x σ H' fun σ2 H2 => tb { D with nx := N, ct := N, bk := D.nx } σ2 H2) := by
 refine ⟨fun i m σ H => m = n - i /\ i <= n /\ Pv i σ H, ⟨n, by simp, o3 _, h0⟩, ?_⟩
 rintro i m σ H ⟨rfl, hi, p⟩
 by_cases hlt : i < n
 ·refine .inr ⟨hlt, Pv (i + 1), fun σ' H' p' => ⟨n - (i + 1), by omega, rfl, hlt, p'⟩, fun x H' y => ?_⟩
  obtain ⟨e, y⟩ := y
  subst e y
  exact hs i σ _ hlt p
 ·have e : i = n := by omega
  subst e
  exact .inl ⟨zM _, hd σ H p⟩
end L2
namespace L2
open PySem PySem.Spec PyProof.Rows
abbrev R2 := V -> V -> Hp -> VK -> Prop
def OpR (X : Cx) (f : Value -> Value -> Sem Value) (r : R2) : Prop :=
 ∀ (pins : List (Addr × Obj)) (s : Shared) (σ : St) (H : Hp) (x y : V) (v u : Value) (Q : VK), Inv X pins σ H s -> RelV x v -> RelV y u -> r x y H Q ->
  wpAny (model X.prog X.w) X.A (f v u) (EP X pins σ Q) X.xe s
def UnR (X : Cx) (f : Value -> Sem Value) (r : V -> Hp -> VK -> Prop) : Prop :=
 ∀ (pins : List (Addr × Obj)) (s : Shared) (σ : St) (H : Hp) (x : V) (v : Value) (Q : VK), Inv X pins σ H s -> RelV x v -> r x H Q ->
  wpAny (model X.prog X.w) X.A (f v) (EP X pins σ Q) X.xe s
def CallR (X : Cx) (f : Value) (r : List V -> Hp -> VK -> Prop) : Prop :=
 ∀ (pins : List (Addr × Obj)) (s : Shared) (σ : St) (H : Hp) (xs : List V) (us : List Value) (Q : VK), Inv X pins σ H s -> Vals xs us -> r xs H Q ->
  wpAny (model X.prog X.w) X.A (call f us) (EP X pins σ Q) X.xe s
def HM (X : Cx) (r : V -> Hp -> (Bool -> Hp -> Prop) -> Prop) : Prop :=
 ∀ (pins : List (Addr × Obj)) (s : Shared) (σ : St) (H : Hp) (x : V) (v : Value) (Q : Bool -> Hp -> Prop), Inv X pins σ H s -> RelV x v -> r x H Q ->
  wpAny (model X.prog X.w) X.A (truthy v) (TP X pins σ Q) X.xe s
def tOp (r : R2) (ta tb : TE) : TE := fun σ H Q => ta σ H fun x H1 => tb σ H1 fun y H2 => r x y H2 Q
def tUn (r : V -> Hp -> VK -> Prop) (ta : TE) : TE := fun σ H Q => ta σ H fun x H1 => r x H1 Q
def rI (C : Int -> Int -> Prop) (g : Int -> Int -> V) : R2 := fun x y H Q => ∃ i j, x = .int i /\ y = .int j /\ C i j /\ Q (g i j) H
def rI0 (g : Int -> Int -> V) : R2 := fun x y H Q => ∃ i j, x = .int i /\ y = .int j /\ Q (g i j) H
def rU (g : Int -> V) : V -> Hp -> VK -> Prop := fun x H Q => ∃ i, x = .int i /\ Q (g i) H
section
variable {X : Cx} {a b c : Expr} {ta tb tc : TE} {pos : Pos}
theorem Gd (ha : PE X a ta) (hb : PE X b tb) {pins : List (Addr × Obj)} {s : Shared} {σ : St} {H : Hp} {R : V -> V -> Hp -> Prop} (I : Inv X pins σ H s)
 (h : ta σ H fun x H1 => tb σ H1 fun y H2 => R x y H2) {Q : Value -> Shared -> Prop} {f : Value -> Value -> Sem Value}
 (hf : ∀ v u s2 x y H2, Inv X pins σ H2 s2 -> RelV x v -> RelV y u -> R x y H2 -> wpAny (model X.prog X.w) X.A (f v u) Q X.xe s2) :
 wpAny (model X.prog X.w) X.A (eval a X.env) (fun v s₁ => wpAny (model X.prog X.w) X.A (eval b X.env) (fun u s₂ => wpAny (model X.prog X.w) X.A (f v u) Q X.xe s₂) X.xe s₁) X.xe s := by
 refine thn (ha pins s σ H _ I h) fun v s1 ⟨x, H1, I1, r1, q1⟩ => ?_
 refine thn (hb pins s1 σ H1 _ I1 q1) fun u s2 ⟨y, H2, I2, r2, q2⟩ => ?_
 exact hf v u s2 x y H2 I2 r1 r2 q2
theorem ah {op : Operator} {r : R2} (ho : OpR X (binaryOp op) r) (ha : PE X a ta) (hb : PE X b tb) : PE X (.BinOp a op b pos) (tOp r ta tb) := by
 intro pins s σ H Q I h
 exact wpAny_BinOp (Gd ha hb I h fun v u s2 x y H2 I2 rx ry q => ho pins s2 σ H2 x y v u Q I2 rx ry q)
theorem zG {op : UnaryOp} {r : V -> Hp -> VK -> Prop} (ho : UnR X (unaryOp op) r) (ha : PE X a ta) : PE X (.UnaryOp op a pos) (tUn r ta) := by
 intro pins s σ H Q I h
 exact UnaryOp_ (thn (ha pins s σ H _ I h) fun v s1 ⟨x, H1, I1, r1, q1⟩ => ho pins s1 σ H1 x v Q I1 r1 q1)
theorem opI {f : Value -> Value -> Sem Value} {C : Int -> Int -> Prop} {g : Int -> Int -> Int}
 (rule : ∀ (i j : Int) (t u : Tok) (s : Shared) (Q : Value -> Shared -> Prop) (E : Value -> Shared -> Prop), C i j -> Q (.int (g i j) s.toks) { s with toks := s.toks + 1 } -> wpAny (model X.prog X.w) X.A (f (.int i t) (.int j u)) Q E s) :
 OpR X f (rI C fun i j => .int (g i j)) := by
 intro pins s σ H x y v u Q I rx ry h
 obtain ⟨i, j, rfl, rfl, hc, q⟩ := h
 obtain ⟨t, rfl⟩ := rx
 obtain ⟨t', rfl⟩ := ry
 exact rule i j t t' s _ _ hc ⟨.int (g i j), H, I.tok _, ⟨_, rfl⟩, q⟩
theorem GQ {f : Value -> Value -> Sem Value} {g : Int -> Int -> Int}
 (rule : ∀ (i j : Int) (t u : Tok) (s : Shared) (Q : Value -> Shared -> Prop) (E : Value -> Shared -> Prop), Q (.int (g i j) s.toks) { s with toks := s.toks + 1 } -> wpAny (model X.prog X.w) X.A (f (.int i t) (.int j u)) Q E s) :
 OpR X f (rI0 fun i j => .int (g i j)) := by
 intro pins s σ H x y v u Q I rx ry h
 obtain ⟨i, j, rfl, rfl, q⟩ := h
 obtain ⟨t, rfl⟩ := rx
 obtain ⟨t', rfl⟩ := ry
 exact rule i j t t' s _ _ ⟨.int (g i j), H, I.tok _, ⟨_, rfl⟩, q⟩
theorem FR {f : Value -> Value -> Sem Value} {g : Int -> Int -> Bool}
 (rule : ∀ (i j : Int) (t u : Tok) (s : Shared) (Q : Value -> Shared -> Prop) (E : Value -> Shared -> Prop), Q (.bool (g i j)) s -> wpAny (model X.prog X.w) X.A (f (.int i t) (.int j u)) Q E s) :
 OpR X f (rI0 fun i j => .bl (g i j)) := by
 intro pins s σ H x y v u Q I rx ry h
 obtain ⟨i, j, rfl, rfl, q⟩ := h
 obtain ⟨t, rfl⟩ := rx
 obtain ⟨t', rfl⟩ := ry
 exact rule i j t t' s _ _ ⟨.bl (g i j), H, I, rfl, q⟩
def DX (i j : Int) : Prop := 0 < j /\ j < 1073741824
def FZ (i j : Int) : Prop := 0 <= j /\ j <= 1000000 /\ i.natAbs < 2 ^ 64
def CMul (i j : Int) : Prop := (-(2 ^ 64) < i /\ i < 2 ^ 64) \/ (-(2 ^ 64) < j /\ j < 2 ^ 64)
theorem CMul.ok {i j : Int} (h : CMul i j) : IntMulOk i j := by
 rcases h with ⟨h1, h2⟩ | ⟨h1, h2⟩
 ·exact .of_left (intBits_le_64 h1 h2)
 ·exact .of_right (intBits_le_64 h1 h2)
theorem FG : OpR X (binaryOp .Add) (rI0 fun i j => .int (i + j)) := GQ fun _ _ _ _ _ _ _ q => add_int q
theorem E0 : OpR X (binaryOp .Sub) (rI0 fun i j => .int (i - j)) := GQ fun _ _ _ _ _ _ _ q => sub_int q
theorem F5 : OpR X (binaryOp .Mult) (rI CMul fun i j => .int (i * j)) := opI fun _ _ _ _ _ _ _ hc q => mul_int q hc.ok
theorem D8 : OpR X (binaryOp .FloorDiv) (rI DX fun i j => .int (i / j)) := opI fun i j _ _ _ _ _ hc q => by
 have h1 : (0 : Int) < j := hc.1
 have h2 : j < 1073741824 := hc.2
 exact floordiv_int (by omega) (by rw [Int.fdiv_eq_ediv_of_nonneg i (by omega)]; exact q) (.inl (PyProof.noPylong_small (by omega)))
theorem Gi : OpR X (binaryOp .Mod) (rI (fun _ j => 0 < j) fun i j => .int (i % j)) := opI fun i j _ _ _ _ _ hc q => by
 have h1 : (0 : Int) < j := hc
 exact mod_int' (by omega) (by rw [Int.fmod_eq_emod_of_nonneg i (by omega)]; exact q)
theorem E8 : OpR X (binaryOp .Pow) (rI FZ fun i j => .int (i ^ j.toNat)) := opI fun _ _ _ _ _ _ _ hc q => pow_int_small hc.1 hc.2.1 hc.2.2 q
theorem unI {f : Value -> Sem Value} {g : Int -> Int}
 (rule : ∀ (i : Int) (t : Tok) (s : Shared) (Q : Value -> Shared -> Prop) (E : Value -> Shared -> Prop), Q (.int (g i) s.toks) { s with toks := s.toks + 1 } -> wpAny (model X.prog X.w) X.A (f (.int i t)) Q E s) :
 UnR X f (rU fun i => .int (g i)) := by
 intro pins s σ H x v Q I rx h
 obtain ⟨i, rfl, q⟩ := h
 obtain ⟨t, rfl⟩ := rx
 exact rule i t s _ _ ⟨.int (g i), H, I.tok _, ⟨_, rfl⟩, q⟩
theorem F4 : UnR X (unaryOp .USub) (rU fun i => .int (-i)) := unI fun _ _ _ _ _ q => neg_int q
end
def EV : V -> V -> Bool
 | .non, .non => true | .non, .int _ => true | .int _, .non => true | .non, .bl _ => true | .bl _, .non => true | .non, .str _ => true | .str _, .non => true
 | .int _, .int _ => true | .bl _, .bl _ => true | .str _, .str _ => true | .byt _, .byt _ => true
 | .int _, .str _ => true | .str _, .int _ => true | .bl _, .str _ => true | .str _, .bl _ => true
 | _, _ => false
def rEq : R2 := fun x y H Q => EV x y = true /\ Q (.bl (decide (x = y))) H
def rNe : R2 := fun x y H Q => EV x y = true /\ Q (.bl (!decide (x = y))) H
theorem zB {i j : Int} : decide (V.int i = V.int j) = (i == j) := by
 rw [Yg]
 simp
theorem BB {i j : Bool} : decide (V.bl i = V.bl j) = (i == j) := by
 rw [Yg]
 simp
theorem yQ {i j : Str} : decide (V.str i = V.str j) = (i == j) := by
 rw [Yg]
 simp
theorem zx {i j : Array UInt8} : decide (V.byt i = V.byt j) = (i.toList == j.toList) := by
 rw [Yg]
 cases i
 cases j
 simp
section
variable {X : Cx} {a b c : Expr} {ta tb tc : TE} {pos : Pos}
theorem br {pins : List (Addr × Obj)} {σ : St} {H : Hp} {s : Shared} {Q : VK} {k k' : Bool} (I : Inv X pins σ H s) (q : Q (.bl k) H) (e : k = k') : EP X pins σ Q (.bool k') s := by
 subst e
 exact ⟨.bl k, H, I, rfl, q⟩
theorem GM : OpR X (pZ .Eq) rEq := by
 intro pins s σ H x y v u Q I rx ry h
 obtain ⟨hs, q⟩ := h
 cases x with
 | non =>
  cases rx
  cases y with
  | non => cases ry; exact PySem.EqNone.eq_none_none (br I q (by simp))
  | bl j => cases ry; exact PySem.EqNone.eq_none_bool (br I q (by simp))
  | int j => obtain ⟨t', rfl⟩ := ry; exact PySem.EqNone.eq_none_int (br I q (by simp))
  | str j => obtain ⟨t', rfl⟩ := ry; exact PySem.EqNone.eq_none_str (br I q (by simp))
  | _ => exact absurd (show false = true from hs) xh
 | bl i =>
  cases rx
  cases y with
  | non => cases ry; exact PySem.EqNone.eq_bool_none (br I q (by simp))
  | bl j => cases ry; exact eq_bool (br I q BB)
  | str j => obtain ⟨t', rfl⟩ := ry; exact PySem.EqMixed.eq_bool_str (br I q (by simp))
  | _ => exact absurd (show false = true from hs) xh
 | int i =>
  obtain ⟨t, rfl⟩ := rx
  cases y with
  | non => cases ry; exact PySem.EqNone.eq_int_none (br I q (by simp))
  | int j => obtain ⟨t', rfl⟩ := ry; exact eq_int (br I q zB)
  | str j => obtain ⟨t', rfl⟩ := ry; exact PySem.EqMixed.eq_int_str (br I q (by simp))
  | _ => exact absurd (show false = true from hs) xh
 | str i =>
  obtain ⟨t, rfl⟩ := rx
  cases y with
  | non => cases ry; exact PySem.EqNone.eq_str_none (br I q (by simp))
  | bl j => cases ry; exact PySem.EqMixed.eq_str_bool (br I q (by simp))
  | int j => obtain ⟨t', rfl⟩ := ry; exact PySem.EqMixed.eq_str_int (br I q (by simp))
  | str j => obtain ⟨t', rfl⟩ := ry; exact eq_str (br I q yQ)
  | _ => exact absurd (show false = true from hs) xh
 | byt i =>
  obtain ⟨t, rfl⟩ := rx
  cases y with
  | byt j => obtain ⟨t', rfl⟩ := ry; exact PySem.W.eq_bytes (br I q zx)
  | _ => exact absurd (show false = true from hs) xh
 | _ => cases y <;> exact absurd (show false = true from hs) xh
theorem Ho : OpR X (pZ .NotEq) rNe := by
 intro pins s σ H x y v u Q I rx ry h
 obtain ⟨hs, q⟩ := h
 cases x with
 | non =>
  cases rx
  cases y with
  | non => cases ry; exact PySem.EqNone.ne_none_none (br I q (by simp))
  | bl j => cases ry; exact PySem.EqNone.ne_none_bool (br I q (by simp))
  | int j => obtain ⟨t', rfl⟩ := ry; exact PySem.EqNone.ne_none_int (br I q (by simp))
  | str j => obtain ⟨t', rfl⟩ := ry; exact PySem.EqNone.ne_none_str (br I q (by simp))
  | _ => exact absurd (show false = true from hs) xh
 | bl i =>
  cases rx
  cases y with
  | non => cases ry; exact PySem.EqNone.ne_bool_none (br I q (by simp))
  | bl j => cases ry; exact ne_bool (br I q (congrArg not BB))
  | str j => obtain ⟨t', rfl⟩ := ry; exact PySem.EqMixed.ne_bool_str (br I q (by simp))
  | _ => exact absurd (show false = true from hs) xh
 | int i =>
  obtain ⟨t, rfl⟩ := rx
  cases y with
  | non => cases ry; exact PySem.EqNone.ne_int_none (br I q (by simp))
  | int j => obtain ⟨t', rfl⟩ := ry; exact ne_int (br I q (congrArg not zB))
  | str j => obtain ⟨t', rfl⟩ := ry; exact PySem.EqMixed.ne_int_str (br I q (by simp))
  | _ => exact absurd (show false = true from hs) xh
 | str i =>
  obtain ⟨t, rfl⟩ := rx
  cases y with
  | non => cases ry; exact PySem.EqNone.ne_str_none (br I q (by simp))
  | bl j => cases ry; exact PySem.EqMixed.ne_str_bool (br I q (by simp))
  | int j => obtain ⟨t', rfl⟩ := ry; exact PySem.EqMixed.ne_str_int (br I q (by simp))
  | str j => obtain ⟨t', rfl⟩ := ry; exact ne_str (br I q (congrArg not yQ))
  | _ => exact absurd (show false = true from hs) xh
 | byt i =>
  obtain ⟨t, rfl⟩ := rx
  cases y with
  | byt j => obtain ⟨t', rfl⟩ := ry; exact PySem.W.ne_bytes (br I q (congrArg not zx))
  | _ => exact absurd (show false = true from hs) xh
 | _ => cases y <;> exact absurd (show false = true from hs) xh
theorem GS : OpR X (pZ .Lt) (rI0 fun i j => .bl (decide (i < j))) := FR fun _ _ _ _ _ _ _ q => lt_int q
theorem GN : OpR X (pZ .LtE) (rI0 fun i j => .bl (decide (i <= j))) := FR fun _ _ _ _ _ _ _ q => le_int q
theorem Gy : OpR X (pZ .Gt) (rI0 fun i j => .bl (decide (j < i))) := FR fun _ _ _ _ _ _ _ q => gt_int q
theorem AA : OpR X (pZ .Lt) (fun x y H Q => ∃ i j, x = .str i /\ y = .str j /\ Q (.bl (decide (i.cps.toList < j.cps.toList))) H) := by
 intro pins s σ H x y v u Q I rx ry h
 obtain ⟨i, j, rfl, rfl, q⟩ := h
 obtain ⟨t, rfl⟩ := rx
 obtain ⟨t', rfl⟩ := ry
 exact lt_str (br I q rfl)
theorem OpR.or {f : Value -> Value -> Sem Value} {r r' : R2} (h : OpR X f r) (h' : OpR X f r') : OpR X f (fun x y H Q => r x y H Q \/ r' x y H Q) := by
 intro pins s σ H x y v u Q I rx ry q
 rcases q with q | q
 ·exact h pins s σ H x y v u Q I rx ry q
 ·exact h' pins s σ H x y v u Q I rx ry q
theorem a_ (b : Expr) {op : CmpOp} (h : op ≠ .In := by decide) (h2 : op ≠ .NotIn := by decide) : Yd op b = false := by
 have e1 : (op == CmpOp.In) = false := by cases op <;> first | rfl | exact absurd rfl h
 have e2 : (op == CmpOp.NotIn) = false := by cases op <;> first | rfl | exact absurd rfl h2
 cases b <;> simp [Yd, e1, e2]
theorem dF {op : CmpOp} {r : R2} (ho : OpR X (pZ op) r) (ha : PE X a ta) (hb : PE X b tb) (hm : Yd op b = false) : PE X (.Compare a [op] [b] pos) (tOp r ta tb) := by
 intro pins s σ H Q I h
 exact wpAny_Compare1 (Gd ha hb I h fun v u s2 x y H2 I2 rx ry q => ho pins s2 σ H2 x y v u Q I2 rx ry q) hm
def HP (K : W.Frag) (x : V) (H : Hp) (k : Bool) : Prop :=
 match x with
 | .non => k = false
 | .bl b => k = b
 | .int i => k = (i != 0)
 | .str y => y.length <= sizeLine /\ k = ((y.length : Int) != 0)
 | .byt y => y.size <= sizeLine /\ k = ((y.size : Int) != 0)
 | .ref p => (∃ xs, SqL K H p xs /\ k = !xs.isEmpty) \/ (∃ xs, SqT K H p xs /\ k = !xs.isEmpty) \/ ∃ kvs, H p = some (.dK kvs) /\ k = !kvs.isEmpty
 | _ => False
theorem xA {κ : Type} {kvs : List (κ × V)} {vs : List (κ × Value)} (r : KV kvs vs) : (!vs.isEmpty) = !kvs.isEmpty := by
 cases r <;> rfl
theorem rb {xs : List V} {its : List Value} (r : Vals xs its) : (!its.toArray.isEmpty) = !xs.isEmpty := by
 cases r <;> simp
theorem n_ : (sizeLine : Nat) < 2 ^ 63 := by rw [ue]; decide
theorem Hz : HM X (fun x H Q => ∃ k, HP X.K x H k /\ Q k H) := by
 intro pins s σ H x v Q I rx h
 obtain ⟨k, e, q⟩ := h
 have hl := n_
 have hs : sizeLine = 16777216 := ue
 cases x with
 | non =>
  cases rx
  have e' : k = false := e
  subst e'
  exact truthy_none ⟨H, I, q⟩
 | bl b =>
  cases rx
  have e' : k = b := e
  subst e'
  exact gS ⟨H, I, q⟩
 | int i =>
  obtain ⟨t, rfl⟩ := rx
  have e' : k = (i != 0) := e
  subst e'
  exact PySem.P.truthy_int ⟨H, I, q⟩
 | str y =>
  obtain ⟨t, rfl⟩ := rx
  obtain ⟨hy, e'⟩ : y.length <= sizeLine /\ k = ((y.length : Int) != 0) := e
  subst e'
  exact PySem.P.truthy_str (by omega) ⟨H, I.tok _, q⟩
 | byt y =>
  obtain ⟨t, rfl⟩ := rx
  obtain ⟨hy, e'⟩ : y.size <= sizeLine /\ k = ((y.size : Int) != 0) := e
  subst e'
  exact PySem.W.truthy_bytes (by omega) ⟨H, I.tok _, q⟩
 | ref p =>
  cases rx
  have e' : (∃ xs, SqL X.K H p xs /\ k = !xs.isEmpty) \/ (∃ xs, SqT X.K H p xs /\ k = !xs.isEmpty) \/ ∃ kvs, H p = some (.dK kvs) /\ k = !kvs.isEmpty := e
  rcases e' with ⟨xs, hx, e'⟩ | ⟨xs, hx, e'⟩ | ⟨kvs, hx, e'⟩
  ·subst e'
   obtain ⟨its, r, pl, hz⟩ := I.list hx
   have hlen := r.length
   exact wpAny_truthy_list pl.isList (by simp only [yY]; omega) ⟨H, I.tok _, by rw [rb r]; exact q⟩
  ·subst e'
   obtain ⟨its, r, pl, hz⟩ := I.tuple hx
   have hlen := r.length
   exact truthy_tuple pl (by simp only [yY]; omega) ⟨H, I.tok _, by rw [rb r]; exact q⟩
  ·subst e'
   obtain ⟨hz, hS, vs, r, m⟩ : kvs.length <= sizeLine /\ (p == ZK) = false /\ ∃ vs, KV kvs vs /\ s.heap.DictOf (bT X.prog X.w) p vs := I.hok p _ hx
   have hlen : kvs.length = vs.length := Paired.length r
   exact wpAny_truthy_dict hS m (by omega) ⟨H, I.tok _, by rw [xA r]; exact q⟩
 | _ => exact (show False from e).elim
theorem xF : OpR X (binaryOp .Add) (fun x y H Q => ∃ i j, x = .str i /\ y = .str j /\ i.length + j.length <= sizeLine /\ Q (.str (i ++ j)) H) := by
 intro pins s σ H x y v u Q I rx ry h
 obtain ⟨i, j, rfl, rfl, hz, q⟩ := h
 obtain ⟨t, rfl⟩ := rx
 obtain ⟨t', rfl⟩ := ry
 exact add_str (fun t' tk => ⟨.str (i ++ j), H, I.tok _, ⟨_, rfl⟩, q⟩) hz
theorem fz {x : V} {us : List Value} (r : Vals [x] us) : ∃ u, us = [u] /\ RelV x u := by
 cases r with
 | cons r1 r2 => cases r2; exact ⟨_, rfl, r1⟩
theorem zf {x y : V} {us : List Value} (r : Vals [x, y] us) : ∃ u w', us = [u, w'] /\ RelV x u /\ RelV y w' := by
 cases r with
 | cons r1 r2 =>
  cases r2 with
  | cons r3 r4 => cases r4; exact ⟨_, _, rfl, r1, r3⟩
theorem z_ (hc : X.calm = true) : CallR X (.builtin "max") (fun xs H Q => ∃ i j, xs = [.int i, .int j] /\ Q (.int (if j > i then j else i)) H) := by
 intro pins s σ H xs us Q I r h
 obtain ⟨i, j, rfl, q⟩ := h
 obtain ⟨u, w', rfl, ⟨t, rfl⟩, ⟨t', rfl⟩⟩ := zf r
 refine max_two_ints (I.ok.hd hc) fun h' tk k => ⟨_, H, I.kept k, ?_, q⟩
 by_cases hj : j > i
 ·rw [if_pos hj, if_pos hj]; exact ⟨_, rfl⟩
 ·rw [if_neg hj, if_neg hj]; exact ⟨_, rfl⟩
theorem Al (hc : X.calm = true) : CallR X (.builtin "min") (fun xs H Q => ∃ i j, xs = [.int i, .int j] /\ Q (.int (if j < i then j else i)) H) := by
 intro pins s σ H xs us Q I r h
 obtain ⟨i, j, rfl, q⟩ := h
 obtain ⟨u, w', rfl, ⟨t, rfl⟩, ⟨t', rfl⟩⟩ := zf r
 refine min_two_ints (I.ok.hd hc) fun h' tk k => ⟨_, H, I.kept k, ?_, q⟩
 by_cases hj : j < i
 ·rw [if_pos hj, if_pos hj]; exact ⟨_, rfl⟩
 ·rw [if_neg hj, if_neg hj]; exact ⟨_, rfl⟩
theorem Av : CallR X (.type "int") (fun xs H Q => (∃ i, xs = [.int i] /\ Q (.int i) H) \/ ∃ k, xs = [.bl k] /\ Q (.int (if k then 1 else 0)) H) := by
 intro pins s σ H xs us Q I r h
 rcases h with ⟨i, rfl, q⟩ | ⟨k, rfl, q⟩
 ·obtain ⟨u, rfl, t, rfl⟩ := fz r
  exact call_int_int ⟨.int i, H, I, ⟨_, rfl⟩, q⟩
 ·obtain ⟨u, rfl, r1⟩ := fz r
  cases r1
  exact call_int_bool ⟨.int (if k then 1 else 0), H, I.tok _, ⟨_, rfl⟩, q⟩
def HQ (K : W.Frag) (x : V) (H : Hp) (n : Nat) : Prop :=
 match x with
 | .str y => y.length <= sizeLine /\ n = y.length
 | .byt y => y.size <= sizeLine /\ n = y.size
 | .ref p => (∃ xs, SqL K H p xs /\ n = xs.length) \/ ∃ xs, SqT K H p xs /\ n = xs.length
 | _ => False
theorem AS : CallR X (.builtin "len") (fun xs H Q => ∃ x n, xs = [x] /\ HQ X.K x H n /\ Q (.int n) H) := by
 intro pins s σ H xs us Q I r h
 obtain ⟨x, n, rfl, e, q⟩ := h
 obtain ⟨u, rfl, rx⟩ := fz r
 have hl := n_
 have hs : sizeLine = 16777216 := ue
 cases x with
 | str y =>
  obtain ⟨t, rfl⟩ := rx
  obtain ⟨hy, e'⟩ : y.length <= sizeLine /\ n = y.length := e
  subst e'
  exact len_str (by omega) ⟨.int _, H, I.tok _, ⟨_, rfl⟩, q⟩
 | byt y =>
  obtain ⟨t, rfl⟩ := rx
  obtain ⟨hy, e'⟩ : y.size <= sizeLine /\ n = y.size := e
  subst e'
  exact PySem.W.len_bytes (by omega) ⟨.int _, H, I.tok _, ⟨_, rfl⟩, q⟩
 | ref p =>
  cases rx
  have e' : (∃ xs, SqL X.K H p xs /\ n = xs.length) \/ ∃ xs, SqT X.K H p xs /\ n = xs.length := e
  rcases e' with ⟨xs, hx, e'⟩ | ⟨xs, hx, e'⟩
  ·subst e'
   obtain ⟨its, r', pl, hz⟩ := I.list hx
   have hlen := r'.length
   exact Calls.call_len_list pl.isList (by simp only [yY]; omega) ⟨.int xs.length, H, I.tok _, ⟨_, by simp only [yY]; rw [hlen]⟩, q⟩
  ·subst e'
   obtain ⟨its, r', pl, hz⟩ := I.tuple hx
   have hlen := r'.length
   exact len_tuple pl (by simp only [yY]; omega) ⟨.int xs.length, H, I.tok _, ⟨_, by simp only [yY]; rw [hlen]⟩, q⟩
 | _ => exact (show False from e).elim
end
end L2
namespace L2
open PySem PySem.Spec PyProof.Rows
structure ObjM (h : Heap) (x dx C : Addr) (mA : Str -> Option Value) : Prop where
 obj : h.get? x = some (ZG C dx)
 ns : h.Ns1 dx mA
 ne : dx ≠ x
theorem AC {h : Heap} {dx : Addr} {mA : Str -> Option Value} (n : h.Ns1 dx mA) : ∃ od, h.get? dx = some od /\ ∀ name, PySem.W.lookIn name od = some (mA name) := by
 obtain ⟨o, es, ep, ho, hd, hk, _, hm⟩ := n
 refine ⟨o, ho, fun name => ?_⟩
 have e := hm name
 unfold nsFind findBy at e
 rw [<- Array.find?_toList] at e
 unfold PySem.W.lookIn
 rw [hd]
 dsimp only
 split
 ·rename_i y q
  rw [q] at e
  exact congrArg some e
 ·rename_i q
  rw [q] at e
  have a : es.toList.any (·.refKey) = false := by
   rw [List.any_eq_false]
   intro y hy
   obtain ⟨z, t, hkey⟩ := hk y (Array.mem_toList_iff.mp hy)
   simp [Ye.refKey, hkey]
  have a' : ¬ es.toList.any (·.refKey) = true := by rw [a]; exact xh
  rw [if_neg a']
  exact congrArg some e
theorem ObjM.look {h : Heap} {x dx C : Addr} {mA : Str -> Option Value} (I : ObjM h x dx C mA) : ∃ od, PySem.W.InstAt h x (ZG C dx) C (some od) /\ ∀ name, PySem.W.lookIn name od = some (mA name) :=
 let ⟨od, ho, hl⟩ := AC I.ns
 ⟨od, ⟨I.obj, rfl, rfl, ho⟩, hl⟩
section
variable {prog : Program} {w : World} {A : Around} {E : Value -> Shared -> Prop} {s : Shared} {K : W.Frag} {x dx C f : Addr} {mA : Str -> Option Value} {name : Str} {v : Value}
theorem DA {expr : Bool} {Q : Value -> Shared -> Prop} (X : K.In s.heap) (I : ObjM s.heap x dx C mA) (hg : PySem.W.plainGet K C name = true) (hh : PySem.W.hasDictIn K C = true)
 (ha : Zf K (.ref C) name = some none) (hv : mA name = some v) (hv' : PySem.W.handedIn v = true) (h : Q v { s with toks := s.toks + 1 }) :
 wpAny (model prog w) A (getAttr (.ref x) name expr) Q E s := by
 obtain ⟨od, J, hl⟩ := I.look
 exact PySem.W.get_value X J (PySem.W.plainGet_of hg).1 (PySem.W.findObj_own hh ha rfl (by rw [hl, hv])) hv' h
theorem Bw {pl : Sem Bool} {Q : Value × List Value -> Shared -> Prop} (X : K.In s.heap) (I : ObjM s.heap x dx C mA) (hg : PySem.W.plainGet K C name = true)
 (hf : Zf K (.ref C) name = some (some (.ref f))) (ht : PySem.W.isFn K (.ref f) = true) (hv : mA name = none) (h : Q (.ref f, [.ref x]) s) :
 wpAny (model prog w) A (getMethod (.ref x) name pl) Q E s := by
 obtain ⟨od, J, hl⟩ := I.look
 exact PySem.W.method_fn X J (PySem.W.plainGet_of hg).1 (PySem.W.plainGet_of hg).2 hf (beq_iff_eq.mp ht) (by show (PySem.W.lookIn name od).map (·.isSome) = some false; rw [hl, hv]; rfl) h
theorem Dy {ns : List Str} {Q : Unit -> Shared -> Prop} (X : K.In s.heap) (I : ObjM s.heap x dx C mA)
 (hs : Zf K (.ref C) "__setattr__" = some (some (.builtin "object.__setattr__"))) (hp : PySem.W.plainOver K C = true) (ht : PySem.W.takerIn K C name = some none) (hh : PySem.W.hasDictIn K C = true)
 (hw : PySem.Within mA ns) (hsz : ns.length <= sizeLine)
 (h : ∀ h', ObjM h' x dx C (fun y => if y = name then some v else mA y) -> ZV dx s.heap h' -> Q () { s with heap := h', toks := s.toks + 2 }) :
 wpAny (model prog w) A (setAttr (.ref x) name v) Q E s := by
 obtain ⟨od, J, hl⟩ := I.look
 refine PySem.W.set_plain X J hs (PySem.W.osa_open (s := { s with toks := s.toks + 1 }) (r := none) X J hp ht fun b => ?_)
 obtain ⟨cd, hc, hd'⟩ := PySem.W.any_some hh
 have hx : s.heap.get? x = some ⟨.ref C, some dx, .plain, #[]⟩ := I.obj
 refine zz (yZ (zz (zz (wpAny_loadPart hx (zz (PySem.W.Looks.here (s := { s with toks := s.toks + 1 }) (PySem.W.looks_clsIn X hc) ?_))))))
 rw [hd']
 refine yZ (a := some dx) (zz (yZ (zz ?_)))
 refine wpAny_nsSet1 (s := { s with toks := s.toks + 1 }) I.ns fun h' hn2 hs2 => ?_
 obtain ⟨oD, esD, epD, hoD, hdD, hcD⟩ := hn2.count (PySem.Within.cons name v hw)
 refine zz (wpAny_lookBehind hoD (by rw [hdD]; exact pastItsLine_dict (qM hcD (by rw [sX]; omega))) ?_)
 exact yZ (h _ ⟨(hs2.2 _ (Ne.symm I.ne)).trans I.obj, hn2, I.ne⟩ hs2)
theorem CC {R : Result -> Shared -> Prop} {vs : List Value} {kw : List (Str × Value)} (X : K.In s.heap) (hm : PySem.W.makesIn K C = true)
 (hi : Zf K (.ref C) "__init__" = some (some (.ref f))) (hf : PySem.W.typeIn K (.ref f) = some (.type "function"))
 (h : codeAny (model prog w) (A.under (.builtin "type.__call__" ⟨.ref C :: vs, kw⟩)) (.call (.ref f) ⟨.ref (s.heap.objs.size + 1) :: vs, kw⟩) (PySem.W.InitBack (s.heap.objs.size + 1) R)
  { s with heap := (s.heap.push ZZ).push (ZG C s.heap.objs.size) }) :
 codeAny (model prog w) A (.call (.ref C) ⟨vs, kw⟩) R s := by
 obtain ⟨hh, g, d, t, os⟩ := s
 exact PySem.W.make_core (PySem.W.makes_of X hm) (PySem.W.looks_findIn X hi) (fun self => PySem.W.bind_fn X self hf) (.inl rfl) h
end
def fH (f : Str) (v : V) : List (Str × V) -> List (Str × V)
 | [] => [(f, v)]
 | (g, x) :: r => if g = f then (g, v) :: r else (g, x) :: fH f v r
theorem oZ (f g : Str) (v : V) : ∀ fs : List (Str × V), (fH f v fs).lookup g = if g = f then some v else fs.lookup g
 | [] => by
  show nj g [(f, v)] = _
  by_cases h : g = f
  ·have hb : (g == f) = true := beq_iff_eq.mpr h
   simp only [nj, hb, if_pos h]
  ·have hb : (g == f) = false := beq_eq_false_iff_ne.mpr h
   simp only [nj, hb, if_neg h]
 | (k, x) :: r => by
  have ih := oZ f g v r
  rw [show fH f v ((k, x) :: r) = (if k = f then (k, v) :: r else (k, x) :: fH f v r) from rfl]
  by_cases hk : k = f
  ·rw [if_pos hk]
   by_cases h : g = k
   ·have hb : (g == k) = true := beq_iff_eq.mpr h
    simp only [nj, hb, if_pos (h.trans hk)]
   ·have hb : (g == k) = false := beq_eq_false_iff_ne.mpr h
    simp only [nj, hb, if_neg (fun e : g = f => h (e.trans hk.symm))]
  ·rw [if_neg hk]
   by_cases h : g = k
   ·have hb : (g == k) = true := beq_iff_eq.mpr h
    simp only [nj, hb, if_neg (fun e : g = f => hk (h.symm.trans e))]
   ·have hb : (g == k) = false := beq_eq_false_iff_ne.mpr h
    simp only [nj, hb]
    exact ih
theorem oy (f : Str) (v : V) : ∀ fs : List (Str × V), f ∈ (fH f v fs).map (·.1) /\ ∀ g, g ∈ fs.map (·.1) -> g ∈ (fH f v fs).map (·.1)
 | [] => ⟨by simp [fH], fun g h => by simp at h⟩
 | (k, x) :: r => by
  obtain ⟨i1, i2⟩ := oy f v r
  rw [show fH f v ((k, x) :: r) = (if k = f then (k, v) :: r else (k, x) :: fH f v r) from rfl]
  by_cases hk : k = f
  ·rw [if_pos hk]
   subst hk
   exact ⟨by simp, fun g h => by simpa using h⟩
  ·rw [if_neg hk]
   refine ⟨?_, fun g h => ?_⟩
   ·rw [wW]
    exact tj _ i1
   ·rw [wW] at h |-
    rcases ze.mp h with e | e
    ·exact ze.mpr (.inl e)
    ·exact tj _ (i2 g e)
theorem pc (f : Str) (v : V) : ∀ fs : List (Str × V), (fH f v fs).length <= fs.length + 1
 | [] => by simp [fH]
 | (k, x) :: r => by
  have ih := pc f v r
  rw [show fH f v ((k, x) :: r) = (if k = f then (k, v) :: r else (k, x) :: fH f v r) from rfl]
  by_cases hk : k = f
  ·rw [if_pos hk, sX, sX]; omega
  ·rw [if_neg hk, sX, sX]; omega
theorem RelO.some_of {v : V} {o : Option Value} (r : RelO (some v) o) : ∃ u, o = some u /\ RelV v u := by
 cases o with
 | none => exact (show False from r).elim
 | some u => exact ⟨u, rfl, r⟩
theorem RelO.none_of {o : Option Value} (r : RelO none o) : o = none := by
 cases o with
 | none => rfl
 | some u => exact (show False from r).elim
theorem Aq {v : V} {u : Value} (r : RelV v u) : PySem.W.handedIn u = true := by
 cases v with
 | non => cases (show u = ZR from r); rfl
 | bl b => cases (show u = Value.bool b from r); rfl
 | int i => obtain ⟨t, e⟩ := (show ∃ t, u = YU i t from r); cases e; rfl
 | str x => obtain ⟨t, e⟩ := (show ∃ t, u = Value.str x t from r); cases e; rfl
 | byt b => obtain ⟨t, e⟩ := (show ∃ t, u = Value.bytes b t from r); cases e; rfl
 | flt b => obtain ⟨t, e⟩ := (show ∃ t, u = Value.float b t from r); cases e; rfl
 | ref a => cases (show u = vY a from r); rfl
 | ty n => cases (show u = Value.type n from r); rfl
section
variable {P : Program} {w : World} {H H' : Hp} {h h' : Heap} {a C dx : Addr} {fs fs' : List (Str × V)}
theorem pV (hok : HOk P w H h) (e : H a = some (.ins C dx fs)) : ∃ mA, ObjM h a dx C mA /\ (∀ f, RelO (fs.lookup f) (mA f)) /\ PySem.Within mA (fs.map (·.1)) /\ fs.length <= 1000 /\ H dx = some (.own a) := by
 obtain ⟨d, z, ne, ob, mA, n, r, q⟩ := (show ObjOk P w H h a (.ins C dx fs) from hok a _ e)
 exact ⟨mA, ⟨ob, n, ne⟩, r, q, z, d⟩
end
structure Cls (K : W.Frag) (C : Addr) : Prop where
 pg : PySem.W.plainGet K C Str.empty = true
 hd : PySem.W.hasDictIn K C = true
 po : PySem.W.plainOver K C = true
 sa : Zf K (.ref C) "__setattr__" = some (some (.builtin "object.__setattr__"))
theorem Cls.get {K : W.Frag} {C : Addr} (c : Cls K C) (f : Str) : PySem.W.plainGet K C f = true := c.pg
def NoAttr (K : W.Frag) (C : Addr) (f : Str) : Prop := Zf K (.ref C) f = some none
theorem NoAttr.taker {K : W.Frag} {C : Addr} {f : Str} (n : NoAttr K C f) : PySem.W.takerIn K C f = some none := by
 unfold PySem.W.takerIn
 rw [show Zf K (.ref C) f = some none from n]
 rfl
structure mx (K : W.Frag) (C : Addr) (m : Str) (f : Addr) : Prop where
 at_ : Zf K (.ref C) m = some (some (.ref f))
 fn : PySem.W.isFn K (.ref f) = true
 kp : Yq K (.ref f) = true
section
variable {X : Cx} {pins : List (Addr × Obj)} {σ : St} {H : Hp} {s : Shared} {a C dx : Addr} {fs : List (Str × V)} {f : Str} {v : V} {A : Around} {E : Value -> Shared -> Prop}
theorem xE {b : Bool} {Q : Value -> Shared -> Prop} (I : Inv X pins σ H s) (e : H a = some (.ins C dx fs)) (c : Cls X.K C) (n : NoAttr X.K C f) (l : fs.lookup f = some v)
 (h : ∀ u s', Inv X pins σ H s' -> RelV v u -> Q u s') : wpAny (model X.prog X.w) A (getAttr (.ref a) f b) Q E s := by
 obtain ⟨mA, O, r, _, _, _⟩ := pV I.hok e
 obtain ⟨u, hu, ru⟩ := RelO.some_of (v := v) (o := mA f) (by rw [<- l]; exact r f)
 exact DA I.kIn O (c.get f) c.hd n hu (Aq ru) (h u _ (I.tok _) ru)
theorem qY {m : Str} {g : Addr} {pl : Sem Bool} {Q : Value × List Value -> Shared -> Prop} (I : Inv X pins σ H s) (e : H a = some (.ins C dx fs)) (c : Cls X.K C) (k : mx X.K C m g) (l : fs.lookup m = none)
 (h : Q (.ref g, [.ref a]) s) : wpAny (model X.prog X.w) A (getMethod (.ref a) m pl) Q E s := by
 obtain ⟨mA, O, r, _, _, _⟩ := pV I.hok e
 have hn : mA m = none := RelO.none_of (by rw [<- l]; exact r m)
 exact Bw I.kIn O (c.get m) k.at_ k.fn hn h
theorem xG {y : V} {u : Value} {Q : Unit -> Shared -> Prop} (I : Inv X pins σ H s) (e : H a = some (.ins C dx fs)) (c : Cls X.K C) (n : NoAttr X.K C f) (hl : fs.length < 1000) (ry : RelV y u)
 (h : ∀ s', Inv X pins σ (upd H a (.ins C dx (fH f y fs))) s' -> Q () s') : wpAny (model X.prog X.w) A (setAttr (.ref a) f u) Q E s := by
 obtain ⟨mA, O, r, wi, _, ho⟩ := pV I.hok e
 have hz : (fs.map (·.1)).length <= sizeLine := by rw [zc, ue]; omega
 refine Dy I.kIn O c.sa c.po n.taker c.hd wi hz fun h' O' sb => h _ ?_
 have hd : ∃ o, h'.get? dx = some o := let ⟨o, _, _, e', _⟩ := O'.ns; ⟨o, e'⟩
 refine I.write (x := a) (e := dx) (by rw [e]; exact ZJ) (.inr ho) (fun b q hb z => (sb.2 b hb).trans z) hd ?_
 refine ⟨by rw [ar O.ne]; exact ho, ?_, O.ne, O'.obj, _, O'.ns, fun g => ?_, fun g hg => ?_⟩
 ·have := pc f y fs; omega
 ·show RelO ((fH f y fs).lookup g) (if g = f then some u else mA g)
  rw [oZ]
  by_cases q : g = f
  ·rw [if_pos q, if_pos q]; exact ry
  ·rw [if_neg q, if_neg q]; exact r g
 ·by_cases q : g = f
  ·rw [q]; exact (oy f y fs).1
  ·refine (oy f y fs).2 g (wi g fun z => hg ?_)
   show (if g = f then some u else mA g) = none
   rw [if_neg q]; exact z
theorem Inv.made (I : Inv X pins σ H s) : Inv X pins σ (upd (upd H s.heap.objs.size (.own (s.heap.objs.size + 1))) (s.heap.objs.size + 1) (.ins C s.heap.objs.size []))
 { s with heap := (s.heap.push ZZ).push (ZG C s.heap.objs.size) } := by
 have e1 : (s.heap.push ZZ).get? s.heap.objs.size = some ZZ := Heap.get?_push_size s.heap rfl
 have e2 : ((s.heap.push ZZ).push (ZG C s.heap.objs.size)).get? (s.heap.objs.size + 1) = some (ZG C s.heap.objs.size) := by
  have := Heap.get?_push_size (s.heap.push ZZ) (o := ZG C s.heap.objs.size) rfl
  rwa [Heap.size_push] at this
 have e3 : (s.heap.push ZZ).Ns s.heap.objs.size (fun _ => none) := ⟨ZZ, #[], _, e1, rfl, (fun e he => absurd he (by simp)), fun _ => rfl⟩
 have I1 := I.laid (a := s.heap.objs.size) (o := .own (s.heap.objs.size + 1)) (h' := s.heap.push ZZ) (t' := s.toks) (fun b u q => Heap.get?_push_of_some _ q) (zM _) ⟨_, e1⟩
 refine I1.laid (a := s.heap.objs.size + 1) (o := .ins C s.heap.objs.size []) (t' := s.toks) (fun b u q => Heap.get?_push_of_some _ q) (Nat.le_of_eq (Heap.size_push _ _)) ?_
 have ne : s.heap.objs.size ≠ s.heap.objs.size + 1 := tB (Nat.lt_succ_self _)
 refine ⟨by rw [ar ne, aj], o3 _, ne, e2, fun _ => none, (Heap.Ns1.of_empty e3).at fun o q => Heap.get?_push_of_some _ q, fun _ => ZJ, fun y hy => absurd rfl hy⟩
theorem Dp {prog : Program} {w : World} {env : Env} {e : Expr} {f : Str} {pos : Pos} {s : Shared} {Q : Value -> Shared -> Prop} (hb : YQ e f env (eval e env) = eval e env)
 (h : wpAny (model prog w) A (eval e env) (fun o s₁ => wpAny (model prog w) A (getAttr o f true) Q E s₁) E s) : wpAny (model prog w) A (eval (.Attribute e f pos) env) Q E s :=
 Attribute_any_ h (by rw [arm_eval_Attribute, hb])
end
section
variable {X : Cx} {o e value : Expr} {f : Str} {pos pos' tpos : Pos} {ta tv : TE}
end
section
variable {X : Cx} {pins : List (Addr × Obj)} {σ : St} {H : Hp} {s : Shared} {A : Around} {E : Value -> Shared -> Prop} {Q : Value -> Shared -> Prop} {c : Value} {b : Bool}
inductive lJ (K : W.Frag) (H : Hp) : V -> Value -> Prop where
 | non : lJ K H .non (.type "NoneType")
 | bl (x : Bool) : lJ K H (.bl x) (.type "bool")
 | int (i : Int) : lJ K H (.int i) (.type "int")
 | str (x : Str) : lJ K H (.str x) (.type "str")
 | flt (x : UInt64) : lJ K H (.flt x) (.type "float")
 | lst {a : Addr} {xs : List V} (e : H a = some (.lst xs)) : lJ K H (.ref a) (.type "list")
 | frz {a : Addr} {o : Obj} {xs : List V} (e : H a = some (.frz o (.lst xs))) : lJ K H (.ref a) (.type "list")
 | tup {a : Addr} {xs : List V} (e : H a = some (.tup xs)) : lJ K H (.ref a) (.type "tuple")
 | dK {a : Addr} {kvs : List (Key × V)} (e : H a = some (.dK kvs)) : lJ K H (.ref a) (.type "dict")
 | dT {a : Addr} {kvs : List (List Key × V)} (e : H a = some (.dT kvs)) : lJ K H (.ref a) (.type "dict")
 | ins {a C dx : Addr} {fs : List (Str × V)} (e : H a = some (.ins C dx fs)) (cl : Cls K C) (ha : Zf K (.ref C) "__class__" = some (some (.builtin "object.__class__")))
  (hn : PySem.W.specialIn K (.builtin "object.__class__") "__get__" = some (some (.builtin "getset_descriptor.__get__"))) (htk : PySem.W.takesIn K (.builtin "object.__class__") = some true)
  (hm : Yc K C (.type "object") = some true) : lJ K H (.ref a) (.ref C)
theorem Ax {x : V} {u t : Value} (I : Inv X pins σ H s) (rx : RelV x u) (ty : lJ X.K H x t) (e : Zp X.K t c = some b) (h : ∀ tk, Q (.bool b) { s with toks := tk }) :
 wpAny (model X.prog X.w) A (call (.builtin "isinstance") [u, c]) Q E s := by
 cases ty with
 | non => cases (show u = ZR from rx); exact Zd PySem.W.kitx_none I.kIn ZJ e (fun z => nomatch z) h
 | bl y => cases (show u = Value.bool y from rx); exact Zd PySem.W.kitx_bool I.kIn ZJ e (fun z => nomatch z) h
 | int i => obtain ⟨t, q⟩ := (show ∃ t, u = YU i t from rx); cases q; exact Zd PySem.W.kitx_int I.kIn ZJ e (fun z => nomatch z) h
 | str y => obtain ⟨t, q⟩ := (show ∃ t, u = Value.str y t from rx); cases q; exact Zd PySem.W.kitx_str I.kIn ZJ e (fun z => nomatch z) h
 | flt y => obtain ⟨t, q⟩ := (show ∃ t, u = Value.float y t from rx); cases q; exact Zd PySem.W.kitx_float I.kIn ZJ e (fun z => nomatch z) h
 | @lst a xs ea =>
  cases (show u = vY a from rx)
  obtain ⟨_, _, n, _, h1⟩ := (show ObjOk X.prog X.w H s.heap a (.lst xs) from I.hok a _ ea)
  exact Zd PySem.W.kitx_list I.kIn ⟨_, h1, rfl⟩ e (fun z => nomatch z) h
 | @frz a ob xs ea =>
  cases (show u = vY a from rx)
  obtain ⟨_, _, _, n, _, h1⟩ := (show ObjOk X.prog X.w H s.heap a (.frz ob (.lst xs)) from I.hok a _ ea)
  exact Zd PySem.W.kitx_list I.kIn ⟨_, h1, rfl⟩ e (fun z => nomatch z) h
 | @tup a xs ea =>
  cases (show u = vY a from rx)
  obtain ⟨_, _, _, p⟩ := (show ObjOk X.prog X.w H s.heap a (.tup xs) from I.hok a _ ea)
  obtain ⟨o, h1, h2, _⟩ := p
  exact Zd PySem.W.kitx_tuple I.kIn ⟨o, h1, h2⟩ e (fun z => nomatch z) h
 | @dK a kvs ea =>
  cases (show u = vY a from rx)
  obtain ⟨_, _, vs, _, p⟩ := (show ObjOk X.prog X.w H s.heap a (.dK kvs) from I.hok a _ ea)
  obtain ⟨o, es, ep, h1, h2, _⟩ := p
  exact Zd PySem.W.kitx_dict I.kIn ⟨o, h1, h2.1⟩ e (fun z => nomatch z) h
 | @dT a kvs ea =>
  cases (show u = vY a from rx)
  obtain ⟨_, _, xs, _, o, es, ep, h1, h2, _⟩ := (show ObjOk X.prog X.w H s.heap a (.dT kvs) from I.hok a _ ea)
  exact Zd PySem.W.kitx_dict I.kIn ⟨o, h1, h2.1⟩ e (fun z => nomatch z) h
 | @ins a C dx fs ea cl ha hn htk hm =>
  cases (show u = vY a from rx)
  obtain ⟨mA, O, _⟩ := pV I.hok ea
  obtain ⟨od, J, _⟩ := O.look
  exact Zd (PySem.W.kitx_own (cl.get _) cl.hd ha hn htk hm) I.kIn J e (fun z => nomatch z) h
end
end L2
namespace L2
open PySem PySem.Spec PyProof.Rows
structure Room (k : Nat) (A : Around) : Prop where
 hd : A.handled = none
 dp : A.depth + 3 * k + 5 < recursionLimit
 un : A.units + 16 * k + 200 < cLine
theorem Room.mono {j k : Nat} {A : Around} (r : Room k A) (h : j <= k) : Room j A := ⟨r.hd, by have := r.dp; omega, by have := r.un; omega⟩
theorem Room.deeper {k : Nat} {A : Around} (r : Room (k + 1) A) (env : Env) : Room k (A.deeper env) :=
 ⟨r.hd, by have := r.dp; show A.depth + 1 + 3 * k + 5 < _; omega, by have := r.un; show A.units + 3 + 16 * k + 200 < _; omega⟩
theorem yA {A : Around} {C : Addr} {us : List Value} {kw : List (Str × Value)} : (A.under (.builtin "type.__call__" ⟨.ref C :: us, kw⟩)).depth = A.depth + 1 := by
 first | rfl | simp [Around.under, Code.weight, Code.isCreation, Code.isGuard, Code.isCaller, Code.frames, Code.isFrame, guardIds]
theorem xV {A : Around} {C : Addr} {us : List Value} {kw : List (Str × Value)} : (A.under (.builtin "type.__call__" ⟨.ref C :: us, kw⟩)).units = A.units + 1 := by
 first | rfl | simp [Around.under, Code.cUnits, Code.frames, Code.isFrame]
theorem Room.make {k : Nat} {A : Around} (r : Room (k + 1) A) (C : Addr) (us : List Value) (kw : List (Str × Value)) : Room k (A.under (.builtin "type.__call__" ⟨.ref C :: us, kw⟩)) :=
 ⟨r.hd, by have := r.dp; rw [yA]; omega, by have := r.un; rw [xV]; omega⟩
theorem Room.depth {k : Nat} {A : Around} (r : Room k A) : A.depth < recursionLimit := by have := r.dp; omega
def zR : TA := fun _ H Q => Q [] H
def wG (ta : TE) (tr : TA) : TA := fun σ H Q => ta σ H fun x H1 => tr σ H1 fun xs H2 => Q (x :: xs) H2
section
variable {X : Cx} {e : Expr} {es : List Expr} {te : TE} {t : TA} {pos : Pos}
theorem EY : PA X [] zR := fun _ _ _ _ H Q I h => Calls.spliced_nil ⟨[], H, I, .nil, h⟩
theorem Di (ha : PE X e te) (hr : PA X es t) (hs : starEach (e :: es) X.env = (false, eval e X.env) :: starEach es X.env := by rfl) : PA X (e :: es) (wG te t) := by
 intro pos pins s σ H Q I h
 rw [hs]
 show wpAny _ _ (spliced ((false, eval e X.env) :: backTo pos (starEach es X.env))) _ _ s
 refine Calls.spliced_cons (thn (ha pins s σ H _ I h) fun u s1 ⟨x, H1, I1, r1, q1⟩ => ?_)
 exact thn (hr pos pins s1 σ H1 _ I1 q1) fun us s2 ⟨xs, H2, I2, r2, q2⟩ => ⟨x :: xs, H2, I2, .cons r1 r2, q2⟩
def E7 (t : TA) : TE := fun σ H Q => t σ H fun xs H1 => xs.length <= sizeLine /\ ∀ p, H1 p = none -> Q (.ref p) (upd H1 p (.tup xs))
def Hh (t : TA) : TE := fun σ H Q => t σ H fun xs H1 => xs.length <= sizeLine /\ ∀ p, H1 p = none -> Q (.ref p) (upd H1 p (.lst xs))
theorem dQ {x1} (h : PA X es t) : PE X (.Tuple es x1 pos) (E7 t) := by
 intro pins s σ H Q I hq
 refine wpAny_Tuple_spliced (thn (h pos pins s σ H _ I hq) fun us s1 ⟨xs, H1, I1, r, z, q⟩ => ⟨by rw [<- r.length]; exact z, ?_⟩)
 have hf : H1 s1.heap.objs.size = none := I1.hok.fresh (zM _)
 refine ⟨.ref s1.heap.objs.size, upd H1 s1.heap.objs.size (.tup xs), I1.laid (t' := s1.toks) (fun b u e => Heap.get?_push_of_some _ e) (zM _) ?_, rfl, q _ hf⟩
 exact ⟨z, us, r, ⟨_, Heap.get?_push_size _ rfl, rfl, _, rfl⟩⟩
theorem cw (h : PA X es t) : PE X (.List es pos) (Hh t) := by
 intro pins s σ H Q I hq
 refine wpAny_List_spliced (thn (h pos pins s σ H _ I hq) fun us s1 ⟨xs, H1, I1, r, z, q⟩ => ⟨by rw [<- r.length]; exact z, ?_⟩)
 have hf : H1 s1.heap.objs.size = none := I1.hok.fresh (zM _)
 refine ⟨.ref s1.heap.objs.size, upd H1 s1.heap.objs.size (.lst xs), I1.laid (t' := s1.toks) (fun b u e => Heap.get?_push_of_some _ e) (zM _) ?_, rfl, q _ hf⟩
 exact ⟨z, us, 0, r, Heap.get?_push_size _ rfl⟩
end
abbrev Sp := List V -> Hp -> VK -> XK -> Prop
abbrev CXT := List Env -> Hp -> Shared -> XK -> Value -> Shared -> Prop
structure Env0 (P : Program) (w : World) (K : W.Frag) (mg : Str -> Option Value) (base : Heap) (A : Around) (outer : List Env) (s : Shared) (H : Hp) : Prop where
 frames : A.frames = some outer
 mod : Mod K mg base
 bs : ∀ b o, base.get? b = some o -> s.heap.get? b = some o /\ H b = none
 bsz : base.objs.size <= s.heap.objs.size
 funs : s.heap.FunFrames base outer
 frf : ∀ b ∈ frs outer, H b = none
 hok : HOk P w H s.heap
 bare : AllBare s.gens
def CE (outer : List Env) (P : Program) (w : World) (H : Hp) (s : Shared) (Q : VK) (u : Value) (s' : Shared) : Prop :=
 ∃ v H', s'.os = s.os /\ AllBare s'.gens /\ Un (frs outer) [] H H' s.heap s'.heap /\ HOk P w H' s'.heap /\ RelV v u /\ Q v H'
def CR (CX : CXT) (outer : List Env) (P : Program) (w : World) (H : Hp) (s : Shared) (Q : VK) (E : XK) (r : Result) (s' : Shared) : Prop :=
 match r with
 | .ok (.ret u) => CE outer P w H s Q u s'
 | .ok _ => False
 | .error e => CX outer H s E e s'
structure bg (P : Program) (w : World) (K : W.Frag) (mg : Str -> Option Value) (base : Heap) (CX : CXT) (k : Nat) (f : Addr) (fd : FuncData) (ps : List Str) (sp : Sp) : Prop where
 len : ∀ vs H Q E, sp vs H Q E -> vs.length = ps.length
 run : ∀ (A : Around) (outer : List Env) (s : Shared) (H : Hp) (args : Args) (us : List Value) (vs : List V) (Q : VK) (E : XK), Room k A -> Env0 P w K mg base A outer s H -> BindsTo s fd args (ps.zip us) -> Vals vs us -> sp vs H Q E ->
  codeAny (model P w) A (.call (.ref f) args) (CR CX outer P w H s Q E) s
theorem Env0.make {P : Program} {w : World} {K : W.Frag} {mg : Str -> Option Value} {base : Heap} {A : Around} {outer : List Env} {s : Shared} {H : Hp} (e : Env0 P w K mg base A outer s H) (C : Addr) (us : List Value) (kw : List (Str × Value)) :
 Env0 P w K mg base (A.under (.builtin "type.__call__" ⟨.ref C :: us, kw⟩)) outer s H := ⟨by first | exact e.frames | (simpa [Around.under, Code.envs, Code.isFrame, pushEnvs] using e.frames), e.mod, e.bs, e.bsz, e.funs, e.frf, e.hok, e.bare⟩
section
variable {X : Cx} {pins : List (Addr × Obj)} {σ : St} {H : Hp} {s s' : Shared}
theorem Inv.env0 (I : Inv X pins σ H s) : Env0 X.prog X.w X.K X.mg X.base X.A X.stack s H :=
 ⟨I.ok.frames, I.ok.mod, I.bs, qM I.ok.bsz I.sz, I.stack, I.stkFree, I.hok, I.bare⟩
theorem Inv.after {Q : VK} {u : Value} (I : Inv X pins σ H s) (h : CE X.stack X.prog X.w H s Q u s') : EP X pins σ Q u s' := by
 obtain ⟨v, H', os, bare, un, hok, r, q⟩ := h
 obtain ⟨hh, g, d, t, os'⟩ := s'
 obtain rfl : os' = s.os := os
 exact ⟨v, H', I.call (h' := hh) (g' := g) (d' := d) (t' := t) (ch := []) un hok bare (fun b z => absurd z (by simp)), r, q⟩
end
def Binds (K : W.Frag) (fd : FuncData) (ps : List Str) (ds : List Value) : Prop :=
 ∀ (s : Shared) (us : List Value), K.In s.heap -> (us ++ ds).length = ps.length -> BindsTo s fd ⟨us, []⟩ (ps.zip (us ++ ds))
theorem Binds.all {K : W.Frag} {fd : FuncData} {ps : List Str} (h : ∀ us : List Value, us.length = ps.length -> bindArgs fd ⟨us, []⟩ = pure (ps.zip us)) : Binds K fd ps [] := fun s us _ hl => by
 rw [ZF] at hl |-
 exact .of_eq (h us hl)
section
variable {X : Cx} {CX : CXT} {k : Nat} {f C : Addr} {fd : FuncData} {ps : List Str} {sp : Sp} {dvs : List V} {ds : List Value} {E : XK} {x m : Str} {p pos apos : Pos} {e o : Expr} {es : List Expr} {ta : TE} {t : TA}
structure Mk (K : W.Frag) (C f : Addr) : Prop where
 makes : PySem.W.makesIn K C = true
 init : Zf K (.ref C) "__init__" = some (some (.ref f))
 fn : PySem.W.isFn K (.ref f) = true
 kp : Yq K (.ref C) = true
end
section
variable {X : Cx} {CX : CXT} {k : Nat} {f C : Addr} {fd : FuncData} {ps ks : List Str} {sp : Sp} {E : XK} {x m : Str} {p pos apos kpos : Pos} {e o : Expr} {es : List Expr} {kws : List Keyword} {te ta : TE} {t tk : TA} {nm : Option Str}
variable {g : List Value -> List Value -> List Value} {gV : List V -> List V -> List V}
end
structure aF (N P : List Str) (sc : Scope) : Prop where
 kind : sc.kind = .function
 co : sc.isCoroutine = false
 gen : sc.isGenerator = false
 nd : N.Nodup
 pre : N.take P.length = P
 par : ∀ x ∈ P, sc.names.lookup x = some .local \/ sc.names.lookup x = some .cell
 nofree : ∀ y ∈ sc.names, y.2 ≠ .free
theorem tO {kindOf : Str -> Option NameKind} {x : Str} : ∀ {binds : List (Str × Value)} {m : Str -> Option Value}, (∀ v, (x, v) ∉ binds) -> bindL kindOf binds m x = m x
 | [], _, _ => rfl
 | (n, v) :: r, m, h => by
  unfold bindL
  rw [tO fun w hw => h w (tj _ hw)]
  split
  ·have : x ≠ n := by rintro rfl; exact h v Zm
   simp [this]
  ·rfl
theorem tP {kindOf : Str -> Option NameKind} {x : Str} : ∀ {binds : List (Str × Value)} {m : Str -> Option Value}, (∀ v, (x, v) ∉ binds) -> bindC kindOf binds m x = m x
 | [], _, _ => rfl
 | (n, v) :: r, m, h => by
  unfold bindC
  rw [tP fun w hw => h w (tj _ hw)]
  split
  ·rfl
  ·have : x ≠ n := by rintro rfl; exact h v Zm
   simp [this]
theorem tZ {kindOf : Str -> Option NameKind} {x : Str} {v : Value} : ∀ {P : List Str} {vs : List Value} {i : Nat} {m : Str -> Option Value}, P.Nodup -> P[i]? = some x -> vs[i]? = some v -> kindOf x = some .local ->
 bindL kindOf (P.zip vs) m x = some v
 | [], _, _, _, _, h, _, _ => by simp at h
 | _ :: _, [], _, _, _, _, h, _ => by simp at h
 | p :: P, w :: vs, 0, m, nd, h1, h2, hk => by
  simp at h1 h2; subst h1; subst h2
  show bindL kindOf ((p, w) :: P.zip vs) m p = _
  unfold bindL
  rw [tO fun v hv => (nW.mp nd).1 (List.of_mem_zip hv).1, if_pos hk]
  simp
 | p :: P, w :: vs, i + 1, m, nd, h1, h2, hk => by
  show bindL kindOf ((p, w) :: P.zip vs) m x = _
  unfold bindL
  exact tZ (i := i) (nW.mp nd).2 (by simpa using h1) (by simpa using h2) hk
theorem sZ {kindOf : Str -> Option NameKind} {x : Str} {v : Value} : ∀ {P : List Str} {vs : List Value} {i : Nat} {m : Str -> Option Value}, P.Nodup -> P[i]? = some x -> vs[i]? = some v -> kindOf x ≠ some .local ->
 bindC kindOf (P.zip vs) m x = some v
 | [], _, _, _, _, h, _, _ => by simp at h
 | _ :: _, [], _, _, _, _, h, _ => by simp at h
 | p :: P, w :: vs, 0, m, nd, h1, h2, hk => by
  simp at h1 h2; subst h1; subst h2
  show bindC kindOf ((p, w) :: P.zip vs) m p = _
  unfold bindC
  rw [tP fun v hv => (nW.mp nd).1 (List.of_mem_zip hv).1, if_neg hk]
  simp
 | p :: P, w :: vs, i + 1, m, nd, h1, h2, hk => by
  show bindC kindOf ((p, w) :: P.zip vs) m x = _
  unfold bindC
  exact sZ (i := i) (nW.mp nd).2 (by simpa using h1) (by simpa using h2) hk
def iW (N : List Str) (vs : List V) : St := vs.map some ++ List.replicate (N.length - vs.length) none
def d7 (CX : CXT) (P : Program) (w : World) (K : W.Frag) (mg : Str -> Option Value) (base : Heap) (N : List Str) (qual : Str) (scope : Scope) (f : Addr) (cd : Value) (A : Around) (outer : List Env) (s : Shared) (H : Hp) (E : XK) : Cx where
 prog := P
 w := w
 K := K
 mg := mg
 base := base
 A := A.deeper (envOfC qual scope s.heap.objs.size f cd)
 N := N
 s₀ := s
 H₀ := H
 env := envOfC qual scope s.heap.objs.size f cd
 outer := outer
 stack := envOfC qual scope s.heap.objs.size f cd :: outer
 ex := []
 calm := true
 fn := fun _ => true
 pn := []
 xe := fun e s' => wpAny (model P w) (A.deeper (envOfC qual scope s.heap.objs.size f cd)) (leaving (envOfC qual scope s.heap.objs.size f cd) e) (fun _ s'' => CX outer H s E e s'') (fun e' s'' => CX outer H s E e' s'') s'
theorem v9 {sc : Scope} {n : Nat} {x : Str} (h : sc.names.lookup x = some .cell) : ∃ c, (cellsFrom n sc.names []).lookup x = some c := by
 have q := PySem.W.cellsFrom_some sc.names n [] (.inl h)
 exact Option.isSome_iff_exists.mp q
theorem Ai {CX : CXT} {P : Program} {w : World} {K : W.Frag} {mg : Str -> Option Value} {base : Heap} {N ps : List Str} {qual : Str} {scope : Scope} {f : Addr} {cd : Value} {A : Around} {outer : List Env} {s s1 : Shared} {H : Hp} {E : XK} {us : List Value} {vs : List V}
 (S : aF N ps scope) (hd : A.handled = none) (e0 : Env0 P w K mg base A outer s H) (hl : vs.length = ps.length) (r : Vals vs us)
 (x : InCallC s s.heap.objs.size (bindL (envOfC qual scope s.heap.objs.size f cd).kindOf (ps.zip us) fun _ => none) (cellsFrom (s.heap.objs.size + 1) scope.names []) (bindC (envOfC qual scope s.heap.objs.size f cd).kindOf (ps.zip us) fun _ => none) s1) :
 Inv (d7 CX P w K mg base N qual scope f cd A outer s H E) [] (iW N vs) H s1 := by
 have hpl : ps.length <= N.length := by have := congrArg ZN S.pre; rw [qK] at this; omega
 obtain ⟨h1, tk, rfl, hk⟩ := x.done
 have noA : ∀ b : Addr, b ∉ (d7 CX P w K mg base N qual scope f cd A outer s H E).ex := fun b z => absurd (show b ∈ ([] : List Addr) from z) (by simp)
 refine ⟨⟨e0.mod, S.kind, rfl, rfl, zM _, fun y z c h1 h2 => ?_, fun y hy => ?_, fun y c _ h => ?_, fun _ => hd, Around.frames_deeper e0.frames, .inr ⟨rfl, rfl⟩, fun b z => absurd z (noA b), e0.bs, e0.bsz, fun b _ _ => noA b, fun b z => absurd z (noA b), e0.funs, e0.frf⟩,
  rfl, e0.bare, Un.kept hk, ⟨_, x.toInCall.ns, fun i y v h1 h2 h3 => ?_⟩, fun y c h => ⟨_, x.cell y c h⟩, e0.hok.fresh (zM _), fun y c h => ?_, fun p hp => absurd (show p ∈ ([] : List (Addr × Obj)) from hp) (by simp), e0.hok.kept hk, ?_⟩
 ·exact name_of_addr x.apart (ZP h1) (ZP h2)
 ·have hy : scope.names.lookup y = some .cell \/ scope.names.lookup y = some .free := hy
  rcases hy with hy | hy
  ·exact v9 hy
  ·exact absurd rfl (S.nofree _ (ZP hy))
 ·exact Nat.le_of_lt (x.above y c (ZP h))
 ·have hi : i < vs.length := by
   unfold iW at h2
   by_cases hi : i < vs.length
   ·exact hi
   ·rw [List.getElem?_append_right (by simpa using hi)] at h2
    rw [List.getElem?_replicate] at h2
    split at h2 <;> cases h2
  have ha : vs[i]? = some v := by
   unfold iW at h2
   rw [List.getElem?_append_left (by simpa using hi), List.getElem?_map] at h2
   cases e : vs[i]? with
   | none => rw [e] at h2; cases h2
   | some a => rw [e] at h2; cases h2; rfl
  obtain ⟨u, hu, rv⟩ := r.get ha
  have hp : ps[i]? = some y := by
   rw [<- S.pre, List.getElem?_take_of_lt (by omega)]; exact h1
  have ndP : ps.Nodup := by rw [<- S.pre]; exact S.nd.sublist (List.take_sublist _ _)
  refine ⟨u, rv, ?_⟩
  rcases S.par y (tM hp) with k | k
  ·exact .inl ⟨k, tZ ndP hp hu k⟩
  ·obtain ⟨c, e⟩ := v9 (n := s.heap.objs.size + 1) k
   refine .inr ⟨.inl k, c, e, ?_⟩
   have q := x.cell y c e
   rw [sZ ndP hp hu (by show scope.names.lookup y ≠ _; rw [k]; decide)] at q
   exact q
 ·exact e0.hok.fresh (Nat.le_of_lt (x.above y c (ZP h)))
 ·unfold iW
  show _ = N.length
  rw [wz, zc, List.length_replicate]
  omega
theorem Ha {CX : CXT} {P : Program} {w : World} {K : W.Frag} {mg : Str -> Option Value} {base : Heap} {k : Nat} {f : Addr} {name qual : Str} {params : Arguments} {body : List Stmt} {scope : Scope} {dV kV doc pm cdv ct oc : Value} {an od : Option Addr}
 {osl : Array (Option Value)} {N ps : List Str} {sp : Sp} (lk : K.lookup f = some ⟨oc, od, .func (Yx name qual params body scope dV kV doc pm an cdv ct), osl⟩) (hcd : PySem.W.codeIn K cdv qual = true) (S : aF N ps scope)
 (len : ∀ vs H Q E, sp vs H Q E -> vs.length = ps.length)
 (hbody : ∀ (A : Around) (outer : List Env) (s : Shared) (H : Hp) (vs : List V) (Q : VK) (E : XK), Room k (A.deeper (envOfC qual scope s.heap.objs.size f cdv)) -> sp vs H Q E ->
  ∃ t, PSs (d7 CX P w K mg base N qual scope f cdv A outer s H E) body t /\ t { nx := fun _ H' => Q .non H', rt := Q } (iW N vs) H) :
 bg P w K mg base CX (k + 1) f (Yx name qual params body scope dV kV doc pm an cdv ct) ps sp := by
 refine ⟨len, fun A outer s H args us vs Q E hr e0 hb r hsp => ?_⟩
 have hl := len _ _ _ _ hsp
 have KX : K.In s.heap := e0.mod.kin.keeps fun b o e => (e0.bs b o e).1
 have lim : s.heap.NoLimit := e0.mod.nolimit.keeps fun b o e => (e0.bs b o e).1
 have hkind : ∀ y ∈ ps.zip us, scope.names.lookup y.1 = some .local \/ (scope.names.lookup y.1 = some .cell /\ ((cellsFrom (s.heap.objs.size + 1) scope.names []).lookup y.1).isSome = true) := fun ⟨n, v⟩ hy => by
  rcases S.par n (List.of_mem_zip hy).1 with q | q
  ·exact .inl q
  ·exact .inr ⟨q, PySem.W.cellsFrom_some _ _ _ (.inl q)⟩
 refine codeAny_call_function hr.depth (KX _ _ lk) rfl S.co S.gen rfl (PySem.W.codeRec_of KX hcd) (hb _ _ _ _ ?_)
 refine wpAny_newFunctionEnv_cells S.kind hkind fun env he s1 x => ?_
 subst he
 refine ⟨lim.keeps x.toInCall.keep, codeAny_func ?_⟩
 obtain ⟨t, ht, hq⟩ := hbody A outer s H vs Q E (hr.deeper _) hsp
 have I : Inv (d7 CX P w K mg base N qual scope f cdv A outer s H E) [] (iW N vs) H s1 := Ai S hr.hd e0 hl r x
 refine Zq (ht [] s1 (iW N vs) H _ I hq) (fun fl s' hs => ?_) fun e s' hs => hs
 have fin : ∀ {σ' : St} {H' : Hp} {v : V} {u : Value}, Inv (d7 CX P w K mg base N qual scope f cdv A outer s H E) [] σ' H' s' -> RelV v u -> Q v H' -> CE outer P w H s Q u s' :=
  fun {σ' H' v u} J rv q => ⟨v, H', J.os, J.bare, J.base, J.hok, rv, q⟩
 cases fl with
 | ret u =>
  obtain ⟨v, σ', H', J, rv, q⟩ := hs
  exact fin J rv q
 | next =>
  obtain ⟨σ', H', J, q⟩ := hs
  exact fin (v := V.non) (u := ZR) J rfl q
 | brk =>
  obtain ⟨_, _, _, q⟩ := hs
  exact Z3 q
 | cont =>
  obtain ⟨_, _, _, q⟩ := hs
  exact Z3 q
end L2
namespace L2
open PySem PySem.Spec PyProof.Rows
section
variable {X : Cx} {x : Str} {p pos : Pos} {e : Expr} {es : List Expr} {t : TA} {id T : String} {r : List V -> Hp -> VK -> Prop}
def tCB (r : List V -> Hp -> VK -> Prop) (t : TA) : TE := fun σ H Q => t σ H fun vs H1 => r vs H1 Q
theorem aE (hc : CallR X (.builtin id) r) (hg : Gl X x) (hm : X.mg x = none) (hv : nC x = some (.builtin id)) (ha : PA X (e :: es) t) (hn : x ≠ "__name__" := by decide) (hdb : (x == ("__debug__" : Str)) = false := by decide)
 (he : starEach (e :: es) X.env = (false, eval e X.env) :: starEach es X.env := by rfl) (hpl : (backTo pos (starEach es X.env)).any (·.1) = false := by rfl) : PE X (.Call (.Name x p) (e :: es) [] pos) (tCB r t) := by
 intro pins s σ H Q I h
 refine Ym (mt I hg hm hv ?_ hn hdb)
 exact PyProof.Rows.callWith_builtin1 (thn (ha pos pins s σ H _ I h) fun us s1 ⟨vs, H1, I1, r1, q1⟩ => hc pins s1 σ H1 vs us Q I1 r1 q1) he hpl
theorem fL (hc : CallR X (.type T) r) (hg : Gl X x) (hm : X.mg x = none) (hv : nC x = some (.type T)) (ha : PA X (e :: es) t) (hn : x ≠ "__name__" := by decide) (hdb : (x == ("__debug__" : Str)) = false := by decide)
 (he : starEach (e :: es) X.env = (false, eval e X.env) :: starEach es X.env := by rfl) (hpl : (backTo pos (starEach es X.env)).any (·.1) = false := by rfl) : PE X (.Call (.Name x p) (e :: es) [] pos) (tCB r t) := by
 intro pins s σ H Q I h
 refine Ym (mt I hg hm hv ?_ hn hdb)
 exact ZS (thn (ha pos pins s σ H _ I h) fun us s1 ⟨vs, H1, I1, r1, q1⟩ => hc pins s1 σ H1 vs us Q I1 r1 q1) he hpl
end
end L2
namespace HT
open PySem PyProof.Rows
section
open PySem.SeqAt
open PySem.AutoSeq1 (wpAny_loadPart')
open PySem.MeetsSeq PySem.MeetsSeq2 PySem.MeetsSeq3
end
section
variable {prog : Program} {w : World} {A : Around} {E : Value -> Shared -> Prop} {s : Shared}
theorem cat_tup {t b : Addr} {vs ws : List Value} {Q : Value -> Shared -> Prop} (ht : IsTup s.heap t vs.toArray) (hb : IsTup s.heap b ws.toArray) (hv : vs ≠ [])
 (h1 : ws = [] -> Q (.ref t) s) (h2 : ws ≠ [] -> Q (.ref s.heap.objs.size) { s with heap := s.heap.push { cls := .type "tuple", data := .seq (vs ++ ws).toArray } })
 (hsz : vs.length + ws.length <= sizeLine) : wpAny (model prog w) A (binaryOp .Add (.ref t) (.ref b)) Q E s := by
 obtain ⟨⟨cls, dd, data, sl⟩, ho, hc, n, hd⟩ := id ht
 obtain ⟨⟨cls2, dd2, data2, sl2⟩, ho2, hc2, n2, hd2⟩ := id hb
 simp only at hc hd hc2 hd2
 subst hc hd hc2 hd2
 have e : vs.toArray ++ ws.toArray = (vs ++ ws).toArray := by simp
 by_cases hw : ws = []
 ·exact concat_meets ⟨_, ho, rfl⟩ ⟨_, ho2, rfl⟩ noFill_tuple_add seq_tuple_add PySem.F.slot_tuple_add PySem.F.entry_tuple_add (PySem.F.args_tuple_add_2 _ _)
   (tuple_addW1 t b vs.toArray ws.toArray n n2 dd dd2 sl sl2 (by simpa using hv) (by simp [hw])) ⟨ho, ho2, h1 hw⟩
 ·refine concat_meets ⟨_, ho, rfl⟩ ⟨_, ho2, rfl⟩ noFill_tuple_add seq_tuple_add PySem.F.slot_tuple_add PySem.F.entry_tuple_add (PySem.F.args_tuple_add_2 _ _)
   (tuple_addW2 t b vs.toArray ws.toArray n n2 dd dd2 sl sl2 (by simpa using hv) (by simpa using hw) (by rw [yY, yY]; exact hsz)) ⟨ho, ho2, ?_⟩
  rw [e]
  exact h2 hw
def sIx (n d : Nat) : Option Int -> Nat
 | none => d
 | some v => if v < 0 then (v + (n : Int)).toNat else min v.toNat n
theorem sIx_none (n d : Nat) : sIx n d none = d := rfl
theorem sIx_nat (n d k : Nat) : sIx n d (some (k : Int)) = min k n := by
 show (if (k : Int) < 0 then ((k : Int) + (n : Int)).toNat else min (k : Int).toNat n) = min k n
 rw [if_neg (by omega), ZY]
theorem sIx_le (n d : Nat) (hd : d <= n) (o : Option Int) : sIx n d o <= n := by
 cases o with
 | none => exact hd
 | some v =>
  show (if v < 0 then (v + (n : Int)).toNat else min v.toNat n) <= n
  by_cases hv : v < 0
  ·rw [if_pos hv]; omega
  ·rw [if_neg hv]; exact Nat.min_le_right _ _
theorem zI (v : Int) (n d : Nat) : (if v < 0 then max (v + (n : Int)) 0 else min v (n : Int)) = ((sIx n d (some v) : Nat) : Int) := by
 show (if v < 0 then max (v + (n : Int)) 0 else min v (n : Int)) = (((if v < 0 then (v + (n : Int)).toNat else min v.toNat n) : Nat) : Int)
 by_cases hv : v < 0
 ·simp only [if_pos hv]; omega
 ·simp only [if_neg hv]; omega
theorem x_ (lo hi : Option Int) (n : Nat) : YR lo hi 1 (n : Int) = (((sIx n 0 lo : Nat) : Int), ((sIx n n hi : Nat) : Int)) := by
 have h1 : ¬ ((1 : Int) < 0) := by omega
 unfold YR
 simp only [h1, if_false]
 refine Prod.ext ?_ ?_
 ·cases lo with
  | none => rfl
  | some v => exact zI v n 0
 ·cases hi with
  | none => rfl
  | some v => exact zI v n n
theorem yi (i j : Nat) : Z9 (i : Int) (j : Int) 1 = j - i := by
 unfold Z9
 have h1 : (1 : Int) > 0 := by omega
 simp only [h1, if_true, Int.ediv_one]
 split <;> omega
theorem qq {v : Value} {o : Option Int} {Q : Option Int -> Shared -> Prop} (p : IsPart v o) (h : Q o s) : wpAny (model prog w) A (Builtin.Slice.slicePartIndex v) Q E s := by
 cases p with
 | none => exact slicePart_none h
 | int i t => exact slicePart_int h
theorem oK {sl : Addr} {vl vu : Value} {lo hi : Option Int} {n : Nat} {Q : Int × Int × Nat -> Shared -> Prop} (hs : s.heap.IsSliceOf sl vl vu .none) (pl : IsPart vl lo) (pu : IsPart vu hi)
 (h : Q (((sIx n 0 lo : Nat) : Int), 1, sIx n n hi - sIx n 0 lo) s) : wpAny (model prog w) A (Builtin.Slice.sliceApplied (.ref sl) (pure (n : Int))) Q E s := by
 obtain ⟨os, hos, hcs, hds⟩ := id hs
 unfold Builtin.Slice.sliceApplied Builtin.Slice.sliceFields
 refine zz (zz (ZO hos hds (x := vl) rfl (zz (ZO hos hds (x := vu) rfl (zz (ZO hos hds (x := .none) rfl (yZ ?_)))))))
 refine zz (slicePart_none ?_)
 show wpAny _ _ (if ((1 : Int) == 0) = true then _ else _) _ _ s
 rw [if_neg (by decide)]
 refine zz (qq pl (zz (qq pu (zz (yZ ?_)))))
 show wpAny _ _ (match YR lo hi 1 (n : Int) with | (lo, hi) => pure (lo, (1 : Int), Z9 lo hi 1)) _ _ s
 rw [x_ lo hi n]
 show wpAny _ _ (pure (((sIx n 0 lo : Nat) : Int), (1 : Int), Z9 ((sIx n 0 lo : Nat) : Int) ((sIx n n hi : Nat) : Int) 1)) _ _ s
 rw [yi]
 exact yZ h
theorem AU (xs : Array Value) (i k : Nat) : ((xp k).filterMap fun (m : Nat) => xs[((i : Int) + (m : Int) * 1).toNat]?).toArray = ((xs.toList.drop i).take k).toArray := by
 have e : (fun (m : Nat) => xs[((i : Int) + (m : Int) * 1).toNat]?) = fun m => xs[i + m]? := by
  funext m
  have : ((i : Int) + (m : Int) * 1).toNat = i + m := by omega
  rw [this]
 rw [e]
 have := pick_run xs i k
 rw [List.filterMap_map] at this
 have e2 : ((fun x => xs[x]?) ∘ fun x => i + x) = fun m => xs[i + m]? := rfl
 rw [e2] at this
 rw [this]
theorem getItem_tuple_cut {t sl : Addr} {items : Array Value} {vl vu : Value} {lo hi : Option Int} {Q : Value -> Shared -> Prop} (ht : IsTup s.heap t items) (hs : s.heap.IsSliceOf sl vl vu .none) (pl : IsPart vl lo) (pu : IsPart vu hi)
 (hw : ¬ (sIx items.size 0 lo = 0 /\ sIx items.size items.size hi = items.size))
 (h : Q (.ref s.heap.objs.size) { s with heap := s.heap.push { cls := .type "tuple", data := .seq ((items.toList.drop (sIx items.size 0 lo)).take (sIx items.size items.size hi - sIx items.size 0 lo)).toArray } })
 (hsz : items.size <= sizeLine) : wpAny (model prog w) A (getItem (.ref t) (.ref sl)) Q E s := by
 have htake : sizeOk (.seq ((items.toList.drop (sIx items.size 0 lo)).take (sIx items.size items.size hi - sIx items.size 0 lo)).toArray) := by
  show ((items.toList.drop (sIx items.size 0 lo)).take (sIx items.size items.size hi - sIx items.size 0 lo)).toArray.size <= sizeLine
  rw [yY, qK, YS, ZB]
  omega
 have hj : sIx items.size items.size hi <= items.size := sIx_le _ _ (zM _) hi
 obtain ⟨os, hos, hcs, hds⟩ := id hs
 have hTs : s.TypeIs (.ref sl) "slice" := ⟨os, hos, hcs⟩
 unfold getItem
 try with_reducible refine ZA ?_
 first | refine zz (yZ ?_) | skip
 refine zz (wpAny_sequenceKey ht.typeIs (by decide) ?_)
 refine zz (wpAny_callSpecial?_slot (name := wo "__getitem__") ht.typeIs PyProof.Rows.slot_tuple_getitem
  (Zc PyProof.Rows.slot_tuple_getitem ht.typeIs entry_tuple_getitem ?_ (args_tuple_getitem _ _)))
 show wpAny _ _ (Builtin.Tuple.tupleItemsOf (.ref t) >>= _) _ _ s
 refine zz (tupleItemsOf_ ht ?_)
 refine zz (wpAny_typeOf hTs ?_)
 rw [if_pos (by decide)]
 refine zz (oK hs pl pu ?_)
 have hno : ¬ ((((sIx items.size 0 lo : Nat) : Int) == 0 && (1 : Int) == 1 && (sIx items.size items.size hi - sIx items.size 0 lo) == items.size) = true) := by
  intro q
  rw [sW, sW] at q
  have q1 : ((sIx items.size 0 lo : Nat) : Int) = 0 := eq_of_beq q.1.1
  have q2 : sIx items.size items.size hi - sIx items.size 0 lo = items.size := eq_of_beq q.2
  exact hw ⟨by omega, by omega⟩
 show wpAny _ _ (if (((sIx items.size 0 lo : Nat) : Int) == 0 && (1 : Int) == 1 && (sIx items.size items.size hi - sIx items.size 0 lo) == items.size) = true then _ else _) _ _ s
 rw [if_neg hno, AU]
 first
  | exact zz (m := Yr _) (Zj (yZ ⟨_, rfl, yZ h⟩) htake)
  | exact zz (m := Yr _) (Zj (zz (yZ (yZ ⟨_, rfl, yZ h⟩))) htake)
  | exact zz (zz (m := Yr _) (Zj (yZ (yZ ⟨_, rfl, yZ h⟩)) htake))
  | exact zz (zz (m := Yr _) (Zj (yZ ⟨_, rfl, yZ h⟩) htake))
end
end HT
namespace L2
open PySem PySem.Spec PyProof.Rows
abbrev TO := St -> Hp -> (Option Int -> Hp -> Prop) -> Prop
def PO (X : Cx) (e : Option Expr) (t : TO) : Prop :=
 ∀ (pins : List (Addr × Obj)) (s : Shared) (σ : St) (H : Hp) (Q : Option Int -> Hp -> Prop), Inv X pins σ H s -> t σ H Q ->
  wpAny (model X.prog X.w) X.A (evalPart e X.env) (fun u s' => ∃ o H', Inv X pins σ H' s' /\ IsPart u o /\ Q o H') X.xe s
def yT : TO := fun _ H Q => Q none H
def Ep (t : TE) : TO := fun σ H Q => t σ H fun x H1 => ∃ i, x = .int i /\ Q (some i) H1
theorem qJ {ns : List Int} : ∀ {us : List Value}, Vals (ns.map V.int) us -> IntsAre us ns := by
 induction ns with
 | nil => intro us r; rw [YT] at r; cases r; exact .nil
 | cons n ns ih =>
  intro us r
  rw [wW] at r
  cases r with
  | cons r1 r2 =>
   obtain ⟨t, e⟩ := r1
   subst e
   exact .cons n t (ih r2)
section
variable {X : Cx} {e : Expr} {te : TE} {lo hi : Option Expr} {tl th : TO} {pos p2 : Pos}
theorem eV : PO X none yT := by
 intro pins s σ H Q I h
 rw [evalPart_none]
 exact yZ ⟨none, H, I, .none, h⟩
theorem eU (h : PE X e te) : PO X (some e) (Ep te) := by
 intro pins s σ H Q I hw
 rw [evalPart_some]
 refine thn (h pins s σ H _ I hw) fun u s1 ⟨x, H1, I1, r1, q1⟩ => ?_
 obtain ⟨i, rfl, q⟩ := q1
 obtain ⟨t, rfl⟩ := r1
 exact ⟨some i, H1, I1, .int i t, q⟩
def SlR (X : Cx) (r : V -> Option Int -> Option Int -> Hp -> VK -> Prop) : Prop :=
 ∀ (pins : List (Addr × Obj)) (s : Shared) (σ : St) (H : Hp) (x : V) (v vl vu : Value) (lo hi : Option Int) (sl : Addr) (Q : VK), Inv X pins σ H s -> RelV x v -> s.heap.IsSliceOf sl vl vu .none -> IsPart vl lo -> IsPart vu hi -> r x lo hi H Q ->
  ∃ T id, typeLookup (.type T) "__getitem__" = pure (some (.builtin id)) /\ s.TypeIs v T /\ wpAny (model X.prog X.w) X.A (getItem v (.ref sl)) (EP X pins σ Q) X.xe s
def tSl (r : V -> Option Int -> Option Int -> Hp -> VK -> Prop) (te : TE) (tl th : TO) : TE := fun σ H Q => te σ H fun x H1 => tl σ H1 fun l H2 => th σ H2 fun u H3 => r x l u H3 Q
theorem dC {r : V -> Option Int -> Option Int -> Hp -> VK -> Prop} (hr : SlR X r) (he : PE X e te) (hl : PO X lo tl) (hu : PO X hi th) : PE X (.Subscript e (.Slice lo hi none p2) pos) (tSl r te tl th) := by
 intro pins s σ H Q I h
 refine Subscript_ (thn (he pins s σ H _ I h) fun v s1 ⟨x, H1, I1, r1, q1⟩ => ?_)
 refine wpAny_Slice (thn (hl pins s1 σ H1 _ I1 q1) fun vl s2 ⟨l, H2, I2, pl, q2⟩ => thn (hu pins s2 σ H2 _ I2 q2) fun vu s3 ⟨u, H3, I3, pu, q3⟩ => ?_)
 rw [evalPart_none]
 refine yZ ?_
 have I4 : Inv X pins σ H3 { s3 with heap := s3.heap.push { cls := .type "slice", data := .fields #[vl, vu, .none] } } := I3.kept (t' := s3.toks) fun b ob q => Heap.get?_push_of_some _ q
 obtain ⟨T, id, hT, ht, hg⟩ := hr pins { s3 with heap := s3.heap.push { cls := .type "slice", data := .fields #[vl, vu, .none] } } σ H3 x v vl vu l u s3.heap.objs.size Q I4 r1 (Heap.IsSliceOf.new ..) pl pu q3
 show wpAny (model X.prog X.w) X.A (subscriptTail e (.Slice lo hi none p2) v (.ref s3.heap.objs.size)) (EP X pins σ Q) X.xe { s3 with heap := s3.heap.push { cls := .type "slice", data := .fields #[vl, vu, .none] } }
 exact tail_any (ops := [.ref s3.heap.objs.size, v]) ht hT hg (by with_unfolding_all rfl)
def um (xs : List V) (lo hi : Option Int) : List V := (xs.drop (HT.sIx xs.length 0 lo)).take (HT.sIx xs.length xs.length hi - HT.sIx xs.length 0 lo)
theorem o8 (xs : List V) (lo hi : Option Int) : (um xs lo hi).length <= xs.length := by
 unfold um
 rw [qK, YS]
 omega
def GZ (K : W.Frag) : V -> Option Int -> Option Int -> Hp -> VK -> Prop := fun x lo hi H Q => ∃ a xs, x = .ref a /\ SqT K H a xs /\
 ¬ (HT.sIx xs.length 0 lo = 0 /\ HT.sIx xs.length xs.length hi = xs.length) /\ ∀ p, H p = none -> Q (.ref p) (upd H p (.tup (um xs lo hi)))
theorem FT : SlR X (GZ X.K) := by
 intro pins s σ H x v vl vu lo hi sl Q I rx hs pl pu h
 obtain ⟨a, xs, rfl, hx, hw, q⟩ := h
 cases rx
 obtain ⟨its, r, ht, hz⟩ := I.tuple hx
 have hlen : its.toArray.size = xs.length := by rw [yY]; exact r.length.symm
 refine ⟨"tuple", _, PyProof.Rows.slot_tuple_getitem.lookup, ht.typeIs, ?_⟩
 refine HT.getItem_tuple_cut ht hs pl pu (by rw [hlen]; exact hw) ?_ (by rw [hlen]; exact hz)
 rw [hlen]
 refine ⟨.ref s.heap.objs.size, _, I.laid (t' := s.toks) (o := .tup (um xs lo hi)) (fun b ob q => Heap.get?_push_of_some _ q) (zM _) ?_, rfl, q _ (I.hok.fresh (zM _))⟩
 exact ⟨qM (o8 xs lo hi) hz, _, (r.drop (HT.sIx xs.length 0 lo)).take (HT.sIx xs.length xs.length hi - HT.sIx xs.length 0 lo), IsTup.new _ _⟩
def G_ (K : W.Frag) : R2 := fun x y H Q => ∃ a b xs ys, x = .ref a /\ y = .ref b /\ SqT K H a xs /\ SqT K H b ys /\ xs ≠ [] /\ xs.length + ys.length <= sizeLine /\
 (ys = [] -> Q (.ref a) H) /\ (ys ≠ [] -> ∀ p, H p = none -> Q (.ref p) (upd H p (.tup (xs ++ ys))))
theorem Vals.nil_iff {xs : List V} {us : List Value} (r : Vals xs us) : us = [] ↔ xs = [] := by
 cases r with
 | nil => simp
 | cons _ _ => simp
theorem Dj : OpR X (binaryOp .Add) (G_ X.K) := by
 intro pins s σ H x y v u Q I rx ry h
 obtain ⟨a, b, xs, ys, rfl, rfl, ha, hb, hx, hz, q1, q2⟩ := h
 cases rx
 cases ry
 obtain ⟨its, r1, p1, _⟩ := I.tuple ha
 obtain ⟨its2, r2, p2, _⟩ := I.tuple hb
 refine HT.cat_tup p1 p2 (fun z => hx (r1.nil_iff.mp z)) (fun z => ⟨.ref a, H, I, rfl, q1 (r2.nil_iff.mp z)⟩) (fun z => ?_) (by rw [<- r1.length, <- r2.length]; exact hz)
 refine ⟨.ref s.heap.objs.size, _, I.laid (t' := s.toks) (o := .tup (xs ++ ys)) (fun b ob q => Heap.get?_push_of_some _ q) (zM _) ?_, rfl, q2 (fun w => z (r2.nil_iff.mpr w)) _ (I.hok.fresh (zM _))⟩
 exact ⟨by rw [wz]; exact hz, _, r1.append r2, IsTup.new _ _⟩
end
end L2
namespace L2
open PySem PySem.Spec PyProof.Rows
def ixN (n : Nat) (i : Int) : Option Nat := if 0 <= i then (if i < n then some i.toNat else none) else if -(n : Int) <= i then some (i + n).toNat else none
def atI {α : Type} (xs : List α) (i : Int) : Option α := (ixN xs.length i).bind fun j => xs[j]?
theorem zb {n : Nat} {i : Int} {j : Nat} (h : ixN n i = some j) : seqIndex? i n = some j /\ j < n /\ -(n : Int) <= i /\ i < n := by
 unfold ixN at h
 by_cases h0 : 0 <= i
 ·rw [if_pos h0] at h
  by_cases h1 : i < n
  ·rw [if_pos h1] at h
   have e : i.toNat = j := nc h
   exact ⟨by rw [seqIndex_of h0 h1, e], by omega, by omega, h1⟩
  ·rw [if_neg h1] at h; cases h
 ·rw [if_neg h0] at h
  by_cases h1 : -(n : Int) <= i
  ·rw [if_pos h1] at h
   have e : (i + n).toNat = j := nc h
   exact ⟨by rw [seqIndex_neg (by omega) h1, e], by omega, h1, by omega⟩
  ·rw [if_neg h1] at h; cases h
theorem uI {α : Type} {xs : List α} {i : Int} {v : α} (h : atI xs i = some v) : ∃ j, seqIndex? i xs.length = some j /\ xs[j]? = some v /\ j < xs.length /\ -(xs.length : Int) <= i /\ i < xs.length := by
 unfold atI at h
 cases e : ixN xs.length i with
 | none => rw [e] at h; cases h
 | some j =>
  rw [e] at h
  obtain ⟨h1, h2, h3, h4⟩ := zb e
  exact ⟨j, h1, h, h2, h3, h4⟩
theorem a9 {α : Type} {xs : List α} {j : Nat} {v : α} (h : xs[j]? = some v) : atI xs (j : Int) = some v := by
 have hj : j < xs.length := (List.getElem?_eq_some_iff.mp h).1
 have e : ixN xs.length (j : Int) = some j := by
  unfold ixN
  rw [if_pos (by omega), if_pos (by omega)]; simp
 unfold atI; rw [e]; exact h
def zn (b : Expr) : Prop := ∀ o i, subscripted b false o i = operate [o, i] (getItem o i)
def IxR (X : Cx) (r : R2) : Prop :=
 ∀ (value slice : Expr) (pins : List (Addr × Obj)) (s : Shared) (σ : St) (H : Hp) (x y : V) (v u : Value) (Q : VK), Inv X pins σ H s -> RelV x v -> RelV y u -> r x y H Q ->
  subscripted slice false v u = operate [v, u] (getItem v u) -> wpAny (model X.prog X.w) X.A (subscriptTail value slice v u) (EP X pins σ Q) X.xe s
def MtR (X : Cx) (id : String) (r : V -> List V -> Hp -> VK -> Prop) : Prop :=
 ∀ (pins : List (Addr × Obj)) (s : Shared) (σ : St) (H : Hp) (x : V) (xs : List V) (v : Value) (us : List Value) (Q : VK), Inv X pins σ H s -> RelV x v -> Vals xs us -> r x xs H Q ->
  wpAny (model X.prog X.w) X.A (call (.builtin id) (v :: us)) (EP X pins σ Q) X.xe s
section
variable {X : Cx} {a b : Expr} {ta tb : TE} {pos : Pos}
theorem IxR.or {r r' : R2} (h : IxR X r) (h' : IxR X r') : IxR X (fun x y H Q => r x y H Q \/ r' x y H Q) := by
 intro value slice pins s σ H x y v u Q I rx ry q hs
 rcases q with q | q
 ·exact h value slice pins s σ H x y v u Q I rx ry q hs
 ·exact h' value slice pins s σ H x y v u Q I rx ry q hs
theorem aX {r : R2} (hr : IxR X r) (ha : PE X a ta) (hb : PE X b tb) (hs : zn b) : PE X (.Subscript a b pos) (tOp r ta tb) := by
 intro pins s σ H Q I h
 exact Subscript_ (Gd ha hb I h fun v u s2 x y H2 I2 rx ry q => hr a b pins s2 σ H2 x y v u Q I2 rx ry q (hs _ _))
def GJ (K : W.Frag) : R2 := fun x y H Q => ∃ p xs i v, x = .ref p /\ y = .int i /\ SqL K H p xs /\ atI xs i = some v /\ Q v H
def Hm (K : W.Frag) : R2 := fun x y H Q => ∃ p xs i v, x = .ref p /\ y = .int i /\ SqT K H p xs /\ atI xs i = some v /\ Q v H
def Hc : R2 := fun x y H Q => ∃ z i c, x = .str z /\ y = .int i /\ z.length <= sizeLine /\ atI z.cps.toList i = some c /\ Q (.str ⟨#[c]⟩) H
theorem yM : IxR X (GJ X.K) := by
 intro value slice pins s σ H x y v u Q I rx ry h hs
 obtain ⟨p, xs, i, z, rfl, rfl, hq, he, q⟩ := h
 cases rx
 obtain ⟨t, rfl⟩ := ry
 obtain ⟨its, r, pl, hz⟩ := I.list hq
 obtain ⟨j, h1, h2, h3, h4, h5⟩ := uI he
 obtain ⟨w, ew, rw'⟩ := r.get h2
 have hl := r.length
 have hn := n_
 have fin : EP X pins σ Q w s := ⟨z, H, I, rw', q⟩
 by_cases h0 : 0 <= i
 ·have hj : i.toNat = j := by
   rw [seqIndex_of h0 h5] at h1
   exact nc h1
  exact item_listR pl.isList h0 (by omega) (by rw [hj]; simpa using ew) fin hs
 ·have hj : (i + (its.toArray.size : Int)).toNat = j := by
   rw [seqIndex_neg (by omega) h4] at h1
   rw [yY, <- hl]
   exact nc h1
  exact subscriptTail_builtinR (x := w) pl.isList.typeIs slot_list_getitem.lookup
   (wpAny_getItem_list_neg (Q := fun r s' => r = w /\ EP X pins σ Q r s') pl.isList (by omega) (by rw [yY] <;> omega) (by omega) (by rw [hj]; simpa using ew) ⟨rfl, fin⟩) hs
theorem Fk : IxR X (Hm X.K) := by
 intro value slice pins s σ H x y v u Q I rx ry h hs
 obtain ⟨p, xs, i, z, rfl, rfl, hq, he, q⟩ := h
 cases rx
 obtain ⟨t, rfl⟩ := ry
 obtain ⟨its, r, pl, hz⟩ := I.tuple hq
 obtain ⟨j, h1, h2, h3, h4, h5⟩ := uI he
 obtain ⟨w, ew, rw'⟩ := r.get h2
 have hl := r.length
 have hn := n_
 have fin : EP X pins σ Q w s := ⟨z, H, I, rw', q⟩
 exact subscriptTail_builtinR (x := w) pl.typeIs slot_tuple_getitem.lookup
  (getItem_tuple (j := j) (Q := fun r s' => r = w /\ EP X pins σ Q r s') pl (by omega) (by omega) (by rw [yY, <- hl]; exact h1) (by simpa using ew) ⟨rfl, fin⟩) hs
theorem EQ : IxR X Hc := by
 intro value slice pins s σ H x y v u Q I rx ry h hs
 obtain ⟨z, i, c, rfl, rfl, hz, he, q⟩ := h
 obtain ⟨t, rfl⟩ := rx
 obtain ⟨t', rfl⟩ := ry
 obtain ⟨j, h1, h2, h3, h4, h5⟩ := uI he
 have hl : z.cps.toList.length = z.length := by simp [YW]
 rw [hl] at h1 h4 h5
 have hn := n_
 exact tail_any (typeIs_str s z t) slot_str_getitem.lookup (getItem_str (c := c) (by
  have e1 : decide (i < -(2 ^ 63 : Int)) = false := decide_eq_false (by omega)
  have e2 : decide (i ≥ 2 ^ 63) = false := decide_eq_false (by omega)
  rw [e1, e2, Bool.or_false]) (by rw [h1]; simpa using h2) ⟨.str ⟨#[c]⟩, H, I.tok _, ⟨_, rfl⟩, q⟩) hs
def rIx (K : W.Frag) : R2 := fun x y H Q => GJ K x y H Q \/ Hm K x y H Q \/ Hc x y H Q
theorem Fe : IxR X (rIx X.K) := yM.or (Fk.or EQ)
theorem yy (its : List Value) (n j : Nat) (u : Value) : Za (·.setIfInBounds j u) { cls := .type "list", data := .seq its.toArray n } = { cls := .type "list", data := .seq (its.set j u).toArray n } := by
 simp [Za]
theorem Inv.lst {pins : List (Addr × Obj)} {σ : St} {H : Hp} {s : Shared} {p : Addr} {xs : List V} (I : Inv X pins σ H s) (h : H p = some (.lst xs)) :
 ∃ (its : List Value) (n : Nat), Vals xs its /\ s.heap.get? p = some { cls := .type "list", data := .seq its.toArray n } /\ xs.length <= sizeLine := by
 obtain ⟨z, its, n, r, e⟩ := I.hok p _ h
 exact ⟨its, n, r, e, z⟩
theorem Inv.lstUpd {pins : List (Addr × Obj)} {σ : St} {H : Hp} {s : Shared} {p : Addr} {xs ys : List V} {its its' : List Value} {n n' : Nat} {f : Obj -> Obj} (I : Inv X pins σ H s) (h : H p = some (.lst xs))
 (ho : s.heap.get? p = some { cls := .type "list", data := .seq its.toArray n }) (hf : f { cls := .type "list", data := .seq its.toArray n } = { cls := .type "list", data := .seq its'.toArray n' }) (r : Vals ys its') (hz : ys.length <= sizeLine) (t : Nat) :
 Inv X pins σ (upd H p (.lst ys)) { s with heap := s.heap.update p f, toks := t } := by
 have e : (s.heap.update p f).get? p = some { cls := .type "list", data := .seq its'.toArray n' } := by
  rw [Heap.get?_update_self f ho (by rw [hf] <;> rfl), hf]
 refine I.write (x := p) (e := p) (by rw [h]; trivial) (.inl rfl) (fun b u hb q => (Heap.get?_update_other _ _ (Ne.symm hb)).trans q) ⟨_, e⟩ ?_
 exact ⟨hz, its', n', r, e⟩
def Es : V -> V -> V -> Hp -> (Hp -> Prop) -> Prop := fun o i v H Q => ∃ p xs k j, o = .ref p /\ i = .int k /\ H p = some (.lst xs) /\ ixN xs.length k = some j /\ Q (upd H p (.lst (xs.set j v)))
theorem il : Gw X Es := by
 intro pins s σ H o i v ov iv u Q I ro ri rv h
 obtain ⟨p, xs, k, j, rfl, rfl, hp, hj, q⟩ := h
 cases ro
 obtain ⟨t, rfl⟩ := ri
 obtain ⟨its, n, r, ho, hz⟩ := I.lst hp
 obtain ⟨h1, h2, h3, h4⟩ := zb hj
 have hl := r.length
 have hn := n_
 have I' : Inv X pins σ (upd H p (.lst (xs.set j v))) { s with heap := s.heap.update p (Za (·.setIfInBounds j u)) } :=
  I.lstUpd hp ho (yy its n j u) (r.set rv j) (by rw [List.length_set]; exact hz) s.toks
 by_cases h0 : 0 <= k
 ·have hk : k.toNat = j := by
   rw [seqIndex_of h0 h4] at h1
   exact nc h1
  exact PySem.W.ki_setAt ho h0 (by omega) (by rw [yY, <- hl]; exact h4) (by rw [hk]; exact ⟨_, I', q⟩)
 ·have hk : (k + (its.toArray.size : Int)).toNat = j := by
   rw [seqIndex_neg (by omega) h3] at h1
   rw [yY, <- hl]
   exact nc h1
  exact PySem.W.ki_setBack ho (by omega) (by rw [yY, <- hl]; exact h3) (by omega) (by rw [hk]; exact ⟨_, I', q⟩)
theorem nK (lo hi : Option Int) (n : Nat) : (Yz lo hi none n).1 = ((HT.sIx n 0 lo : Nat) : Int) /\ (Yz lo hi none n).2.1 = ((HT.sIx n n hi : Nat) : Int) /\ (Yz lo hi none n).2.2 = 1 := by
 refine ⟨?_, ?_, rfl⟩
 ·cases lo with
  | none => simp [Yz, HT.sIx]
  | some i =>
   simp only [Yz, HT.sIx, Option.getD_none, show (1 : Int) > 0 by decide, if_true]
   by_cases h : i < 0
   ·simp only [h, if_true] <;> omega
   ·simp only [h, if_false] <;> omega
 ·cases hi with
  | none => simp [Yz, HT.sIx]
  | some i =>
   simp only [Yz, HT.sIx, Option.getD_none, show (1 : Int) > 0 by decide, if_true]
   by_cases h : i < 0
   ·simp only [h, if_true] <;> omega
   ·simp only [h, if_false] <;> omega
theorem rW (its : List Value) (lo hi : Option Int) : slicePick its.toArray lo hi none = ((its.drop (HT.sIx its.length 0 lo)).take (HT.sIx its.length its.length hi - HT.sIx its.length 0 lo)).toArray := by
 obtain ⟨h1, h2, h3⟩ := nK lo hi its.toArray.size
 unfold slicePick
 rw [h1, h2, h3]
 simp only [sliceRange_one, pick_run, yY] <;> rfl
def GR (K : W.Frag) : V -> Option Int -> Option Int -> Hp -> VK -> Prop := fun x lo hi H Q => ∃ a xs, x = .ref a /\ SqL K H a xs /\ ∀ p, H p = none -> Q (.ref p) (upd H p (.lst (um xs lo hi)))
theorem Dq : SlR X (GR X.K) := by
 intro pins s σ H x v vl vu lo hi sl Q I rx hs pl pu h
 obtain ⟨a, xs, rfl, hx, q⟩ := h
 cases rx
 obtain ⟨its, r, ht, hz⟩ := I.list hx
 have hlen := r.length
 refine ⟨"list", _, slot_list_getitem.lookup, ht.isList.typeIs, ?_⟩
 refine wpAny_getItem_list_slice ht.isList hs pl pu .none (by simp) ?_ (by rw [yY] <;> omega)
 rw [rW, <- hlen]
 refine ⟨.ref s.heap.objs.size, _, I.laid (t' := s.toks) (o := .lst (um xs lo hi)) (fun b ob q => Heap.get?_push_of_some _ q) (zM _) ?_, rfl, q _ (I.hok.fresh (zM _))⟩
 exact ⟨qM (o8 xs lo hi) hz, _, 0, (r.drop (HT.sIx xs.length 0 lo)).take (HT.sIx xs.length xs.length hi - HT.sIx xs.length 0 lo), Heap.get?_push_size _ rfl⟩
def da : V -> Bool
 | .non => true
 | .bl _ => true
 | .int _ => true
 | .str _ => true
 | _ => false
def eqV : V -> V -> Bool
 | .non, .non => true
 | .bl a, .bl b => a == b
 | .bl a, .int b => (if a then 1 else 0) == b
 | .int a, .bl b => a == (if b then 1 else 0)
 | .int a, .int b => a == b
 | .str a, .str b => a == b
 | _, _ => false
theorem xW {A : Around} {s : Shared} {y x : V} {u v : Value} (ry : RelV y u) (rx : RelV x v) (fy : da y = true) (fx : da x = true) : SeqAt.EqAt A s u v (eqV y x) := by
 cases y with
 | non =>
  cases ry
  cases x with
  | non => cases rx; exact SeqAt.EqAt.same _
  | bl b => cases rx; exact SeqAt.EqAt.none_bool b
  | int b => obtain ⟨t, rfl⟩ := rx; exact SeqAt.EqAt.none_int b t
  | str b => obtain ⟨t, rfl⟩ := rx; exact SeqAt.EqAt.none_str b t
  | _ => exact absurd (show false = true from fx) xh
 | bl a =>
  cases ry
  cases x with
  | non => cases rx; exact SeqAt.EqAt.bool_none a
  | bl b => cases rx; exact SeqAt.EqAt.bool_bool a b
  | int b => obtain ⟨t, rfl⟩ := rx; exact SeqAt.EqAt.bool_int a b t
  | str b => obtain ⟨t, rfl⟩ := rx; exact SeqAt.EqAt.bool_str a b t
  | _ => exact absurd (show false = true from fx) xh
 | int a =>
  obtain ⟨t', rfl⟩ := ry
  cases x with
  | non => cases rx; exact SeqAt.EqAt.int_none a t'
  | bl b => cases rx; exact SeqAt.EqAt.int_bool a t' b
  | int b => obtain ⟨t, rfl⟩ := rx; exact SeqAt.EqAt.int_int a t' b t
  | str b => obtain ⟨t, rfl⟩ := rx; exact SeqAt.EqAt.int_str a t' b t
  | _ => exact absurd (show false = true from fx) xh
 | str a =>
  obtain ⟨t', rfl⟩ := ry
  cases x with
  | non => cases rx; exact SeqAt.EqAt.str_none a t'
  | bl b => cases rx; exact SeqAt.EqAt.str_bool a t' b
  | int b => obtain ⟨t, rfl⟩ := rx; exact SeqAt.EqAt.str_int a t' b t
  | str b => obtain ⟨t, rfl⟩ := rx; exact SeqAt.EqAt.str_str a t' b t
  | _ => exact absurd (show false = true from fx) xh
 | _ => exact absurd (show false = true from fy) xh
def eqU (x : V) (u : Value) : Bool := match u with
 | .none => eqV .non x
 | .bool b => eqV (.bl b) x
 | .int i _ => eqV (.int i) x
 | .str z _ => eqV (.str z) x
 | _ => false
theorem BP {x y : V} {u : Value} (r : RelV y u) (f : da y = true) : eqU x u = eqV y x := by
 cases y with
 | non => cases r; rfl
 | bl b => cases r; rfl
 | int i => obtain ⟨t, rfl⟩ := r; rfl
 | str z => obtain ⟨t, rfl⟩ := r; rfl
 | _ => exact absurd (show false = true from f) xh
theorem uY {x : V} : ∀ {xs : List V} {us : List Value}, Vals xs us -> xs.all da = true -> us.any (eqU x) = xs.any fun y => eqV y x
 | _, _, .nil, _ => rfl
 | y :: xs, u :: us, .cons r t, f => by
  rw [List.all_cons, sW] at f
  rw [List.any_cons, List.any_cons, BP r f.1, uY t f.2]
theorem rG {A : Around} {s : Shared} {x : V} {v : Value} (rx : RelV x v) (fx : da x = true) : ∀ {xs : List V} {us : List Value}, Vals xs us -> xs.all da = true -> ∀ u ∈ us, SeqAt.EqAt A s u v (eqU x u)
 | _, _, .nil, _ => fun u hu => by cases hu
 | y :: xs, u :: us, .cons r t, f => fun u' hu => by
  rw [List.all_cons, sW] at f
  rcases ze.mp hu with rfl | hu
  ·rw [BP r f.1]; exact xW r rx f.1 fx
  ·exact rG rx fx t f.2 u' hu
def inV (x : V) (xs : List V) : Bool := xs.any fun y => eqV y x
def rIn (K : W.Frag) (neg : Bool) : R2 := fun x y H Q => ∃ p xs, y = .ref p /\ (SqL K H p xs \/ SqT K H p xs) /\ da x = true /\ xs.all da = true /\ Q (.bl (if neg then !inV x xs else inV x xs)) H
theorem u8 : OpR X (pZ .NotIn) (rIn X.K true) := by
 intro pins s σ H x y v u Q I rx ry h
 obtain ⟨p, xs, rfl, hq, fx, fs, q⟩ := h
 cases ry
 rcases hq with hq | hq
 ·obtain ⟨its, r, pl, hz⟩ := I.list hq
  refine SeqAt.notIn_listAt (eqU x) pl.isList (fun w hw => rG rx fx r fs w (by simpa using hw)) ⟨.bl _, H, I, rfl, ?_⟩
  rw [show its.toArray.any (eqU x) = its.any (eqU x) by simp, uY r fs]
  exact q
 ·obtain ⟨its, r, pl, hz⟩ := I.tuple hq
  refine SeqAt.notIn_tupleAt (eqU x) pl (fun w hw => rG rx fx r fs w (by simpa using hw)) ⟨.bl _, H, I, rfl, ?_⟩
  rw [show its.toArray.any (eqU x) = its.any (eqU x) by simp, uY r fs]
  exact q
theorem CallR.or {f : Value} {r r' : List V -> Hp -> VK -> Prop} (h : CallR X f r) (h' : CallR X f r') : CallR X f (fun xs H Q => r xs H Q \/ r' xs H Q) := by
 intro pins s σ H xs us Q I rs q
 rcases q with q | q
 ·exact h pins s σ H xs us Q I rs q
 ·exact h' pins s σ H xs us Q I rs q
theorem uC : CallR X (.type "list") (fun xs H Q => ∃ p ys, xs = [.ref p] /\ (SqL X.K H p ys \/ SqT X.K H p ys) /\ ∀ l, H l = none -> Q (.ref l) (upd H l (.lst ys))) := by
 intro pins s σ H xs us Q I r h
 obtain ⟨p, ys, rfl, hq, q⟩ := h
 obtain ⟨u, rfl, rx⟩ := fz r
 cases rx
 have fin : ∀ (its : List Value), Vals ys its -> ys.length <= sizeLine -> ∀ (h' : Heap) (c' : Nat), (∀ b o', s.heap.get? b = some o' -> h'.get? b = some o') ->
  h'.get? s.heap.objs.size = some { cls := .type "list", dict := none, data := .seq its.toArray c', slots := #[] } -> EP X pins σ Q (.ref s.heap.objs.size) { s with heap := h' } := fun its r' hz h' c' kp e =>
  ⟨.ref s.heap.objs.size, _, I.laid (t' := s.toks) kp (zM _) (show ObjOk X.prog X.w _ h' _ (.lst ys) from ⟨hz, its, c', r', e⟩), rfl, q _ (I.hok.fresh (zM _))⟩
 rcases hq with hq | hq
 ·obtain ⟨its, r', pl, hz⟩ := I.list hq
  have hlen := r'.length
  obtain ⟨o, ho, hc, n, hd⟩ := pl.isList
  exact call_list_seq p (.inl rfl) ho hc hd (fun h' c' kp e => fin its r' hz h' c' kp e) (by simp only [yY] <;> omega)
 ·obtain ⟨its, r', pl, hz⟩ := I.tuple hq
  have hlen := r'.length
  obtain ⟨o, ho, hc, n, hd⟩ := pl
  exact call_list_seq p (.inr rfl) ho hc hd (fun h' c' kp e => fin its r' hz h' c' kp e) (by simp only [yY] <;> omega)
theorem rY : CallR X (.type "tuple") (fun xs H Q => ∃ p ys, xs = [.ref p] /\ ((SqL X.K H p ys /\ ∀ l, H l = none -> Q (.ref l) (upd H l (.tup ys))) \/ (SqT X.K H p ys /\ Q (.ref p) H))) := by
 intro pins s σ H xs us Q I r h
 obtain ⟨p, ys, rfl, h⟩ := h
 obtain ⟨u, rfl, rx⟩ := fz r
 cases rx
 rcases h with ⟨hq, q⟩ | ⟨hq, q⟩
 ·obtain ⟨its, r', pl, hz⟩ := I.list hq
  have hlen := r'.length
  refine call_tuple_list pl.isList (fun h' kp => ?_) (by simp only [yY] <;> omega)
  have I1 : Inv X pins σ H { s with heap := h' } := I.kept (t' := s.toks) kp
  have I2 : Inv X pins σ (upd H h'.objs.size (.tup ys)) { s with heap := h'.push { cls := .type "tuple", data := .seq its.toArray } } :=
   I1.laid (t' := s.toks) (fun b o e => Heap.get?_push_of_some _ e) (zM _) (show ObjOk X.prog X.w _ _ _ (.tup ys) from ⟨hz, its, r', IsTup.new _ _⟩)
  exact ⟨.ref h'.objs.size, _, I2, rfl, q _ (I1.hok.fresh (zM _))⟩
 ·obtain ⟨its, r', pl, hz⟩ := I.tuple hq
  exact call_tuple_same pl ⟨.ref p, H, I, rfl, q⟩
def tyV (K : W.Frag) (T : String) (x : V) (H : Hp) : Prop := match x with
 | .str _ => T = "str"
 | .int _ => T = "int"
 | .ref p => (T = "list" /\ ∃ xs, SqL K H p xs) \/ (T = "tuple" /\ ∃ o, K.lookup p = some o /\ o.cls = .type "tuple" /\ o.dict = none) \/
  (T = "dict" /\ ((∃ kvs, H p = some (.dK kvs)) \/ ∃ kvs, H p = some (.dT kvs))) \/ (T = "set" /\ ∃ S n, H p = some (.set S n))
 | _ => False
theorem Fs {pins : List (Addr × Obj)} {σ : St} {H : Hp} {s : Shared} {T : String} {x : V} {v : Value} (I : Inv X pins σ H s) (r : RelV x v) (ty : tyV X.K T x H) :
 s.TypeIs v T /\ ∀ a, v = .ref a -> ∃ ob, s.heap.get? a = some ob /\ ob.dict = none := by
 cases x with
 | str z =>
  obtain ⟨t, rfl⟩ := r
  cases (show T = "str" from ty)
  exact ⟨typeIs_str s z t, fun _ e => nomatch e⟩
 | int i =>
  obtain ⟨t, rfl⟩ := r
  cases (show T = "int" from ty)
  exact ⟨typeIs_int s i t, fun _ e => nomatch e⟩
 | ref p =>
  cases r
  rcases ty with ⟨rfl, xs, hq⟩ | ⟨rfl, o, hk, hc, hd⟩ | ⟨rfl, hk⟩ | ⟨rfl, S, n, hk⟩
  ·obtain ⟨its, _, pl, _⟩ := I.list hq
   refine ⟨pl.isList.typeIs, fun a e => ?_⟩
   cases e
   obtain ⟨o, n, e, c, hd, _⟩ := pl
   exact ⟨o, e, hd⟩
  ·refine ⟨⟨o, I.kIn p o hk, hc⟩, fun a e => ?_⟩
   cases e
   exact ⟨o, I.kIn _ o hk, hd⟩
  ·have z : ∃ o, s.heap.get? p = some o /\ o.ExactDict := by
    rcases hk with ⟨kvs, hk⟩ | ⟨kvs, hk⟩
    ·obtain ⟨_, _, _, _, o, _, _, e, ex, _⟩ := I.hok p _ hk
     exact ⟨o, e, ex⟩
    ·obtain ⟨_, _, _, _, o, _, _, e, ex, _⟩ := I.hok p _ hk
     exact ⟨o, e, ex⟩
   obtain ⟨o, e, ex⟩ := z
   refine ⟨⟨o, e, ex.1⟩, fun a e2 => ?_⟩
   cases e2
   exact ⟨o, e, ex.2.1⟩
  ·obtain ⟨o, _, _, _, e, ex, _⟩ := I.hok p _ hk
   refine ⟨⟨o, e, ex.1⟩, fun a e2 => ?_⟩
   cases e2
   exact ⟨o, e, ex.2.1⟩
 | _ => exact Z3 ty
def tBM (K : W.Frag) (T : String) (r : V -> List V -> Hp -> VK -> Prop) (to : TE) (t : TA) : TE := fun σ H Q => to σ H fun x H1 => tyV K T x H1 /\ t σ H1 fun xs H2 => r x xs H2 Q
variable {o e : Expr} {es : List Expr} {to : TE} {t : TA} {name : Str} {apos cpos : Pos} {T id : String} {r : V -> List V -> Hp -> VK -> Prop}
theorem GX (pa : PlainAttrs T) (slot : Slot T name id) (hty : typeOf (.builtin id) = pure (.type "method_descriptor")) (hm : MtR X id r) (ho : PE X o to) (ha : PA X (e :: es) t)
 (hbase : YQ o name X.env (eval o X.env) = eval o X.env := by rfl)
 (hfew : ((backTo cpos (starEach (e :: es) X.env)).all (fun x => !x.1) && (backToKw cpos (keywordEach [] X.env)).all (fun x => x.1.isSome)
  && decide ((e :: es).length + ([] : List Keyword).length + (if ([] : List Keyword).isEmpty then 0 else 1) < 30)) = true := by rfl)
 (hline : (apos.endLine == cpos.line) = true := by rfl) (hs : starEach (e :: es) X.env = (false, eval e X.env) :: starEach es X.env := by rfl) (hplain : (backTo cpos (starEach es X.env)).any (·.1) = false := by rfl) :
 PE X (.Call (.Attribute o name apos) (e :: es) [] cpos) (tBM X.K T r to t) := by
 intro pins s σ H Q I h
 refine wpAny_Call_method_late hbase hfew hline rfl (thn (ho pins s σ H _ I h) fun v s1 ⟨x, H1, I1, r1, ty, q1⟩ => ?_)
 obtain ⟨h1, h2⟩ := Fs I1 r1 ty
 refine ⟨T, id, pa, slot, hty, h1, h2, ?_⟩
 have hA := ha cpos pins s1 σ H1 _ I1 q1
 rw [hs] at hA |-
 refine Calls.callWith_builtin (by show (false || (backTo cpos (starEach es X.env)).any (·.1)) = false; rw [hplain] <;> rfl) (Calls.evalArgs_plain ?_)
 exact thn hA fun us s2 ⟨vs, H2, I2, r2, q2⟩ => hm pins s2 σ H2 x vs v us Q I2 r1 r2 q2
end
end L2
namespace L2
open PySem PySem.Spec PyProof.Rows
def MtM (X : Cx) (id : String) (r : V -> List V -> Hp -> VK -> Prop) : Prop :=
 ∀ (pins : List (Addr × Obj)) (s : Shared) (σ : St) (H : Hp) (x : V) (xs : List V) (v : Value) (us : List Value) (Q : VK), Inv X pins σ H s -> RelV x v -> Vals xs us -> r x xs H Q ->
  wpAny (model X.prog X.w) X.A (call (.builtin id) (v :: us)) (EP X pins σ Q) X.xe s
theorem Vals.one : ∀ {x : V} {us : List Value}, Vals [x] us -> ∃ u, us = [u] /\ RelV x u
 | _, _, .cons r .nil => ⟨_, rfl, r⟩
section
variable {X : Cx} {pins : List (Addr × Obj)} {σ : St} {H : Hp} {s : Shared} {l b : Addr} {xs ys zs : List V}
theorem Inv.lset {its its' : List Value} {n : Nat} {f : Array Value -> Array Value} {t' : Nat} (I : Inv X pins σ H s) (hH : H l = some (.lst xs))
 (e : s.heap.get? l = some { cls := .type "list", data := .seq its.toArray n }) (hf : f its.toArray = its'.toArray) (hv : Vals ys its') (hz : ys.length <= sizeLine) :
 Inv X pins σ (upd H l (.lst ys)) { s with heap := s.heap.update l (Za f), toks := t' } := by
 have q := PySem.IsL.update e f
 rw [hf] at q
 refine I.write (x := l) (e := l) (by rw [hH]; exact trivial) (.inl rfl) (fun b' u hb hu => (Heap.get?_update_other s.heap (Za f) (Ne.symm hb)).trans hu) ⟨_, q⟩ ?_
 exact ⟨hz, its', _, hv, q⟩
theorem Inv.lnew {its : List Value} {t' : Nat} (I : Inv X pins σ H s) (hv : Vals ys its) (hz : ys.length <= sizeLine) :
 Inv X pins σ (upd H s.heap.objs.size (.lst ys)) { s with heap := s.heap.push { cls := .type "list", data := .seq its.toArray }, toks := t' } :=
 I.laid (fun _ _ q => Heap.get?_push_of_some _ q) (zM _) ⟨hz, its, 0, hv, Heap.get?_push_size _ rfl⟩
theorem Inv.fresh (I : Inv X pins σ H s) : H s.heap.objs.size = none := I.hok.fresh (zM _)
theorem Inv.lstM (I : Inv X pins σ H s) (hH : H l = some (.lst xs)) : xs.length <= sizeLine /\ ∃ (its : List Value) (n : Nat), Vals xs its /\ xs.length = its.length /\ s.heap.get? l = some { cls := .type "list", data := .seq its.toArray n } := by
 obtain ⟨z, its, n, r, e⟩ := I.hok l _ hH
 exact ⟨z, its, n, r, r.length, e⟩
theorem Bt {n : Nat} (h : n <= sizeLine) : YN n = false := by
 unfold YN
 exact decide_eq_false (by omega)
end
section
variable {X : Cx}
def zm : V -> List V -> Hp -> VK -> Prop := fun x vs H Q => ∃ l xs y, x = .ref l /\ vs = [y] /\ H l = some (.lst xs) /\ xs.length < sizeLine /\ Q .non (upd H l (.lst (xs ++ [y])))
theorem d4 : MtM X "list.append" zm := by
 intro pins s σ H x vs v us Q I rx rv h
 obtain ⟨l, xs, y, rfl, rfl, hH, hz, q⟩ := h
 cases rx
 obtain ⟨u, rfl, ru⟩ := rv.one
 obtain ⟨z, its, n, r, hl, e⟩ := I.lstM hH
 refine call_meets F.slot_list_append ⟨_, e, rfl⟩ F.entry_list_append (F.args_list_append_2 _ _) (PySem.list_append l its.toArray n u (by rw [yY]; omega)) ⟨e, ?_⟩
 refine ⟨.non, _, I.lset (its' := its ++ [u]) hH e (by simp) (r.append (.cons ru .nil)) ?_, rfl, q⟩
 rw [wz, t8]
 omega
def D4 : V -> List V -> Hp -> VK -> Prop := fun x vs H Q => ∃ l b xs zs, x = .ref l /\ vs = [.ref b] /\ H l = some (.lst xs) /\ H b = some (.lst zs) /\ xs.length + zs.length <= sizeLine /\ Q .non (upd H l (.lst (xs ++ zs)))
theorem Go : MtM X "list.extend" D4 := by
 intro pins s σ H x vs v us Q I rx rv h
 obtain ⟨l, b, xs, zs, rfl, rfl, hH, hB, hz, q⟩ := h
 cases rx
 obtain ⟨u, rfl, ru⟩ := rv.one
 cases ru
 obtain ⟨z, its, n, r, hl, e⟩ := I.lstM hH
 obtain ⟨z2, its2, n2, r2, hl2, e2⟩ := I.lstM hB
 have hsz : its.toArray.size + its2.toArray.size <= sizeLine := by rw [yY, yY]; omega
 have hlong : ¬ (!its.toArray.isEmpty && YN (its.toArray.size + its2.toArray.size)) = true := by
  rw [Bt hsz, Bool.and_false]
  exact xh
 refine call_meets F.slot_list_extend ⟨_, e, rfl⟩ F.entry_list_extend (F.args_list_extend_2 _ _)
  (AutoSeq1.list_extend_list_list_0 l its.toArray n b its2.toArray n2 hlong (by rw [yY]; omega) (by omega)) ⟨e, e2, ?_⟩
 refine ⟨.non, _, I.lset (its' := its ++ its2) hH e (by simp) (r.append r2) ?_, rfl, q⟩
 rw [wz]
 omega
def HH : R2 := fun x y H Q => ∃ l b xs zs, x = .ref l /\ y = .ref b /\ H l = some (.lst xs) /\ H b = some (.lst zs) /\ xs.length + zs.length <= sizeLine /\ ∀ p, H p = none -> Q (.ref p) (upd H p (.lst (xs ++ zs)))
theorem Ga : OpR X (binaryOp .Add) HH := by
 intro pins s σ H x y v u Q I rx ry h
 obtain ⟨l, b, xs, zs, rfl, rfl, hH, hB, hz, q⟩ := h
 cases rx
 cases ry
 obtain ⟨z, its, n, r, hl, e⟩ := I.lstM hH
 obtain ⟨z2, its2, n2, r2, hl2, e2⟩ := I.lstM hB
 refine PySem.P.add_list e e2 ?_ (by rw [yY, yY]; omega)
 have ea : its.toArray ++ its2.toArray = (its ++ its2).toArray := by simp
 rw [ea]
 exact ⟨.ref _, _, I.lnew (t' := s.toks) (r.append r2) (by rw [wz]; omega), rfl, q _ I.fresh⟩
end
section
variable {prog : Program} {w : World} {A : Around} {E : Value -> Shared -> Prop} {s : Shared}
end
section
variable {X : Cx}
end
end L2
namespace Att
open PySem PySem.W PySem.Calls PyProof.Rows
theorem pG {P : Params} {h : Heap} : ∀ (ns : List Int) (vs : List Value), WellAll P h vs (ns.map WData.int) -> IntsAre vs ns := by
 intro ns
 induction ns with
 | nil =>
  intro vs w
  rw [YT] at w
  cases w
  exact .nil
 | cons n ns ih =>
  intro vs w
  rw [wW] at w
  cases w with
  | cons a b =>
   cases a
   exact .cons _ _ (ih _ b)
theorem zT {l : OpenLaw} {n : Nat} (hn : l.most = some n) {P : Params} {h : Heap} {args : List WData} {vals : List Value}
 (hpre : l.row.toRowW.claim.pre args = true) (hwl : WellAll P h vals args) :
 ∃ a vs ns, vals = [vY a] /\ args = [WData.list (ns.map WData.int)] /\ h.get? a = some { cls := .type "list", data := .seq vs.toArray } /\ IntsAre vs ns /\ ns.length <= n := by
 have hsh : WShape.hasAll [] args [.list .int] = true := (pre_splitW hpre).1
 have hc : l.pre.holds [] { args := args } = true := (pre_splitW hpre).2
 obtain ⟨d, r, rfl, h1, h2⟩ := hasAllW_cons hsh
 obtain rfl := hasAllW_nil h2
 obtain ⟨xs, rfl, h3⟩ := hasW_list h1
 obtain ⟨ns, rfl⟩ := items_int h3
 have hlen : ns.length <= n := by
  unfold OpenLaw.pre at hc
  have h4 : (WTm.not (.lt (.lit (.int (n : Int))) (.len (.arg 0)))).holds [] { args := [.list (ns.map .int)] } = true := by
   have h4 := (holds_andW hc).1
   rw [hn] at h4
   exact h4
  have h5 := condW_of h4 (w_not (w_lt w_lit (w_len_list (w_arg rfl))))
  rw [zc] at h5
  refine Nat.le_of_not_lt fun q => ?_
  have q' : (n : Int) < ((ns.length : Nat) : Int) := by omega
  first
   | (rw [decide_eq_true q'] at h5; exact absurd h5 (by decide))
   | (simp at h5; omega)
 cases hwl with
 | cons w1 w2 =>
  cases w2
  cases w1 with
  | list ho hall => exact ⟨_, _, ns, rfl, rfl, ho, pG ns _ hall, hlen⟩
theorem Ae (l : OpenLaw) (args : List WData) : l.row.toRowW.claim.post args (.bool true) args = true :=
 postW_of (r := l.row.toRowW) (X := (true == true))
  (show WShape.has [] (.bool true) .bool = true by first | rfl | decide | simp [WShape.has, WShape.arms, WShape.armsAll])
  (show (WTm.eq .res (.lit (.bool true))).value [] { args := args, res := some (.bool true), after := args } = some (.bool (true == true)) from w_eq_bool (w_res rfl) w_lit) rfl
theorem attach_call {l : OpenLaw} {n : Nat} {q : Program} {loose : List Str} {XP : (Str -> Option Value) -> Heap -> Prop} {YP : World -> Heap -> Prop} {d : DefRec}
 (hn : l.most = some n) (hdf : d.params.defaults = [])
 (call : ∀ (w : World) (s₀ s₁ : Shared) (mg mb : Str -> Option Value) (fa : Addr) (o : Obj) (pm cd doc : Value) (a : Addr) (vs : List Value) (ns : List Int),
  Ground q loose [] XP w s₀ mg mb s₁.heap -> YP w s₁.heap ->
  s₁.heap.get? fa = some o -> o.data = .func (docDef d.name d.params d.body d.scope pm cd doc) -> s₁.heap.CodeRec cd d.name -> mg d.name = some (.ref fa) ->
  s₁.heap.get? a = some { cls := .type "list", data := .seq vs.toArray } -> IntsAre vs ns -> ns.length <= n -> s₁.gens = #[] ->
  codeAny (model l.prog w) callerA (.call (.ref fa) ⟨[.ref a], []⟩) (fun r s' => r = .ok (.ret (.bool true)) /\ OldK s₁.heap s'.heap /\ s'.os = s₁.os /\ AllBare s'.gens) s₁) :
 WalkO q loose XP YP l.row.toRowW d [] (fun f vs => PySem.call f vs) := by
 intro w s₀ s₁ mg mb G Y fa o pm cd doc dV kV ho hd hcd hD hmg hg args vals as hpre hlay hrd hwl hlo
 obtain rfl : dV = .none := Dflts.none hD hdf
 obtain rfl : kV = .none := Dflts.noKw hD
 obtain ⟨a, vs, ns, rfl, rfl, hobj, hints, hlen⟩ := zT hn hpre hwl
 refine enter_call (codeAny_mono (call w s₀ s₁ mg mb fa o pm cd doc a vs ns G Y ho (fd_plain hd) hcd hmg hobj hints hlen hg) fun r s' hq => ?_)
 obtain ⟨rfl, h2, h3, h4⟩ := hq
 exact ⟨.inl ⟨.bool true, .bool true, [], rfl, fun _ => rfl, .bool true, Ae l _, fun _ => ⟨List.Pairwise.nil, fun _ hm => (nomatch hm)⟩⟩, h2, h3, h4⟩
section
variable {prog : Program} {w : World} {A : Around} {E : Value -> Shared -> Prop} {s : Shared} {K : Frag}
end
end Att
namespace L2
open PySem PySem.Spec PyProof.Rows
theorem tw : ∀ {vs : List Value} {ns : List Int}, IntsAre vs ns -> Vals (ns.map V.int) vs
 | _, _, .nil => .nil
 | _, _, .cons n t h => .cons ⟨t, rfl⟩ (tw h)
def Ak (H : Hp) : Prop := ∀ b, H b = none \/ ∃ o xs, H b = some (.frz o (.lst xs))
theorem Ci {P : Program} {w : World} {K : W.Frag} {mg mb : Str -> Option Value} {CX : CXT} {k : Nat} {fa a : Addr} {fd : FuncData} {x : Str} {sp : Sp} {s₁ : Shared} {vs : List Value} {ns : List Int}
 (KX : K.In s₁.heap) (hns : s₁.heap.Ns xf mg) (hb : s₁.heap.Ns builtinsNs mb) (hbb : ∀ x : Str, x ≠ "__name__" -> mb x = nC x) (hlim : s₁.heap.NoLimit) (hg : s₁.gens = #[])
 (ha : s₁.heap.get? a = some { cls := .type "list", data := .seq vs.toArray }) (hi : IntsAre vs ns) (hl : ns.length <= sizeLine) (hr : Room k callerA)
 (F : ∀ base : Heap, K.In base -> base.Ns xf mg -> bg P w K mg base CX k fa fd [x] sp) (hbind : ∀ (s : Shared) (u : Value), BindsTo s fd ⟨[u], []⟩ [(x, u)])
 (hsp : ∀ H : Hp, Ak H -> SqL K H a (ns.map V.int) -> sp [.ref a] H (fun v _ => v = .bl true) fun _ _ _ => False)
 (hCX : ∀ H e s', CX [] H s₁ (fun _ _ _ => False) e s' -> False) :
 codeAny (model P w) callerA (.call (.ref fa) ⟨[.ref a], []⟩) (fun r s' => r = .ok (.ret (.bool true)) /\ OldK s₁.heap s'.heap /\ s'.os = s₁.os /\ AllBare s'.gens) s₁ := by
 have rv := tw hi
 have lenV := hi.length
 have core : ∀ H : Hp, Ak H -> SqL K H a (ns.map V.int) -> HOk P w H s₁.heap -> (∀ b, H b ≠ none -> b = a) -> (H a ≠ none -> K.lookup a = none) ->
  codeAny (model P w) callerA (.call (.ref fa) ⟨[.ref a], []⟩) (fun r s' => r = .ok (.ret (.bool true)) /\ OldK s₁.heap s'.heap /\ s'.os = s₁.os /\ AllBare s'.gens) s₁ := by
  intro H hO hS hok hA hK
  have base_of : ∀ {b : Addr} {o : Obj}, s₁.heap.get? b = some o -> H b = none -> (uT s₁.heap H).get? b = some o := fun e n => Br e n
  have noA : ∀ {b : Addr} {o : Obj} {es : Array Ye} {ep : Nat}, s₁.heap.get? b = some o -> o.data = .dict es ep -> H b = none := fun {b o es ep} e d => by
   cases q : H b with
   | none => rfl
   | some u =>
    have e' : b = a := hA b (by rw [q]; simp)
    subst e'
    rw [ha] at e; cases e
    have d' : Data.seq vs.toArray _ = Data.dict es ep := d
    cases d'
  have nsK : ∀ {b : Addr} {m : Str -> Option Value}, s₁.heap.Ns b m -> (uT s₁.heap H).Ns b m := fun {b m} ⟨o, es, ep, e, d, r⟩ => ⟨o, es, ep, base_of e (noA e d), d, r⟩
  have hKb : K.In (uT s₁.heap H) := fun b o e => base_of (KX b o e) (by
   cases q : H b with
   | none => rfl
   | some u =>
    have e' : b = a := hA b (by rw [q]; simp)
    subst e'
    rw [hK (by rw [q]; simp)] at e; cases e)
  have hM : Mod K mg (uT s₁.heap H) := ⟨hKb, nsK hns, ⟨mb, nsK hb, hbb⟩, let ⟨mc, h1, h2⟩ := hlim; ⟨mc, nsK h1, h2⟩⟩
  have e0 : Env0 P w K mg (uT s₁.heap H) callerA [] s₁ H := ⟨rfl, hM, fun b o e => En e, Nat.le_of_eq (Ao _ _), trivial, fun b hb => absurd (show b ∈ ([] : List Addr) from hb) (by simp), hok, .of_eq hg⟩
  refine codeAny_mono ((F _ hKb (nsK hns)).run callerA [] s₁ H ⟨[.ref a], []⟩ [.ref a] [.ref a] _ _ hr e0 (hbind s₁ (.ref a)) (.cons rfl .nil) (hsp H hO hS)) fun r s' h => ?_
  cases r with
  | error e => exact (hCX H e s' h).elim
  | ok fl =>
   cases fl with
   | next => exact Z3 h
   | brk => exact Z3 h
   | cont => exact Z3 h
   | ret u =>
    obtain ⟨v, H', os, bare, un, hok', r', q⟩ := h
    have q' : v = .bl true := q
    subst q'
    obtain rfl : u = Value.bool true := r'
    refine ⟨rfl, OldK.of_keep fun b o e => ?_, os, bare⟩
    cases q : H b with
    | none => exact un.keep b o e q (by intro z; exact absurd (show b ∈ ([] : List Addr) from z) (by simp)) (by simp)
    | some u =>
     rcases hO b with z | ⟨ob, xs, z⟩
     ·rw [q] at z; cases z
     ·have z2 := un.frzs b ob _ z
      obtain ⟨e1, _⟩ := hok b _ z
      obtain ⟨e2, _⟩ := hok' b _ z2
      rw [e] at e1; cases e1
      exact e2
 cases hk : K.lookup a with
 | some o =>
  have e := KX a o hk
  rw [ha] at e
  cases e
  refine core (fun _ => none) (fun _ => .inl rfl) (.inr ⟨_, vs.toArray, _, hk, rfl, rfl, rfl, by rw [yY, lenV]; exact hl, by simpa using rv⟩) (fun b u z => by have z' : (none : Option HO) = some u := z; cases z') (fun b z => absurd rfl z) fun z => absurd rfl z
 | none =>
  refine core (fun b => if b = a then some (.frz { cls := .type "list", data := .seq vs.toArray } (.lst (ns.map V.int))) else none) (fun b => ?_) (.inl (.inr ⟨{ cls := .type "list", data := .seq vs.toArray }, if_pos rfl⟩)) (fun b u z => ?_) (fun b z => ?_) fun _ => hk
  ·by_cases hb : b = a
   ·exact .inr ⟨_, _, if_pos hb⟩
   ·exact .inl (if_neg hb)
  ·by_cases hb : b = a
   ·have z' := (if_pos hb).symm.trans z
    cases z'
    subst hb
    exact ⟨ha, by rw [zc]; exact hl, vs, _, rv, ha⟩
   ·have z' := (if_neg hb).symm.trans z
    cases z'
  ·by_cases hb : b = a
   ·exact hb
   ·exact absurd (if_neg hb) z
end L2
namespace L2
open PySem PySem.Spec PyProof.Rows
theorem DU {l : PySem.W.OpenLaw} {n k : Nat} {q : Program} {loose : List Str} {XP : (Str -> Option Value) -> Heap -> Prop} {YP : World -> Heap -> Prop} {d : DefRec} {K : Params -> W.Frag} {CX : World -> CXT} {sp : World -> Sp} {x : Str}
 (hn : l.most = some n) (hn2 : n <= sizeLine) (hdf : d.params.defaults = []) (hr : Room k callerA)
 (hY : ∀ (w : World) (h : Heap), YP w h -> (K w.params).In h)
 (F : ∀ (w : World) (mg : Str -> Option Value) (fa : Addr) (h : Heap), (K w.params).In h -> h.Ns xf mg -> mg d.name = some (.ref fa) ->
  ∃ fd : FuncData, (∀ (s : Shared) (u : Value), BindsTo s fd ⟨[u], []⟩ [(x, u)]) /\
   ∀ base : Heap, (K w.params).In base -> base.Ns xf mg -> bg l.prog w (K w.params) mg base (CX w) k fa fd [x] (sp w))
 (hsp : ∀ (w : World) (H : Hp) (a : Addr) (ns : List Int), ns.length <= n -> Ak H -> SqL (K w.params) H a (ns.map V.int) -> sp w [.ref a] H (fun v _ => v = .bl true) fun _ _ _ => False)
 (hCX : ∀ (w : World) (H : Hp) (s : Shared) (e : Value) (s' : Shared), CX w [] H s (fun _ _ _ => False) e s' -> False) :
 PySem.W.WalkO q loose XP YP l.row.toRowW d [] (fun f vs => PySem.call f vs) := by
 refine Att.attach_call hn hdf fun w s₀ s₁ mg mb fa o pm cd doc a vs ns G Y ho hd hcd hmg hobj hints hlen hg => ?_
 have KX := hY w _ Y
 obtain ⟨fd, hb, hF⟩ := F w mg fa _ KX G.T.g hmg
 exact Ci KX G.T.g G.T.b G.T.builtins G.T.nolimit hg hobj hints (qM hlen hn2) hr hF hb (fun H hO hS => hsp w H a ns hlen hO hS) fun H e s' => hCX w H s₁ e s'
end L2
namespace L2
open PySem PySem.Spec PyProof.Rows
abbrev CX0 : CXT := fun _ _ _ _ _ _ => False
structure Fun (K : W.Frag) (x qual : Str) (st : Stmt) (f : Addr) (fd : FuncData) : Prop where
 ex : ∃ (oc : Value) (od : Option Addr) (kV doc pm : Value) (an : Option Addr) (cdv ct : Value) (osl : Array (Option Value)),
  fd = Yx x qual (aB st) (ay st) (ae st) .none kV doc pm an cdv ct /\ K.lookup f = some ⟨oc, od, .func fd, osl⟩ /\ PySem.W.codeIn K cdv qual = true
 kp : Yq K (.ref f) = true
section
variable {P : Program} {w : World} {K : W.Frag} {mg : Str -> Option Value} {base : Heap}
theorem Fun.binds {x qual : Str} {st : Stmt} {f : Addr} {fd : FuncData} {ps : List Str} (F : Fun K x qual st f fd)
 (h : ∀ (kV doc pm : Value) (an : Option Addr) (cdv ct : Value) (us : List Value), us.length = ps.length -> bindArgs (Yx x qual (aB st) (ay st) (ae st) .none kV doc pm an cdv ct) ⟨us, []⟩ = pure (ps.zip us)) : Binds K fd ps [] := by
 obtain ⟨oc, od, kV, doc, pm, an, cdv, ct, osl, rfl, lk, hcd⟩ := F.ex
 exact .all (h kV doc pm an cdv ct)
theorem yg {x qual : Str} {st : Stmt} {f : Addr} {oc : Value} {od an : Option Addr} {osl : Array (Option Value)} {kV doc pm cdv ct : Value} (l : K.lookup f = some ⟨oc, od, .func (Yx x qual (aB st) (ay st) (ae st) .none kV doc pm an cdv ct), osl⟩)
 (c : PySem.W.codeIn K cdv qual = true) (k : Yq K (.ref f) = true) : Fun K x qual st f (Yx x qual (aB st) (ay st) (ae st) .none kV doc pm an cdv ct) := ⟨⟨oc, od, kV, doc, pm, an, cdv, ct, osl, rfl, l, c⟩, k⟩
end
section
variable {X : Cx}
end
theorem vQ {A B : Prop} (h : B) : if false = true then A else B := by
 rw [if_neg xh]
 exact h
theorem BO {A B : Prop} (h : A) : if true = true then A else B := by
 rw [if_pos rfl]
 exact h
def Same (H H' : Hp) : Prop := ∀ b o, H b = some o -> H' b = some o
theorem Same.refl (H : Hp) : Same H H := fun _ _ h => h
theorem Same.trans {H H1 H2 : Hp} (a : Same H H1) (b : Same H1 H2) : Same H H2 := fun c o h => b c o (a c o h)
theorem Same.free {H H' : Hp} (e : Same H H') {l : Addr} (h : H' l = Option.none) : H l = Option.none := by
 cases q : H l with
 | none => rfl
 | some o =>
  rw [e l o q] at h
  cases h
end L2
namespace L2
open PySem PySem.Spec PyProof.Rows
def oC : HO -> Bool
 | .dT _ => false
 | .frz _ u => oC u
 | _ => true
def NoT (H : Hp) : Prop := ∀ a o, H a = some o -> oC o = true
def rC : HO -> Bool
 | .lst _ => true
 | .tup _ => true
 | .dK _ => true
 | .rng _ _ => true
 | _ => false
structure Gc (H G H' : Hp) : Prop where
 a : Same H G
 b : Same G H'
 c : ∀ p o, G p = some o -> H p = some o \/ rC o = true
section
variable {P : Program} {w : World} {H G H' : Hp} {h h' : Heap} {a : Addr} {o : HO}
theorem ObjOk.gc (n : oC o = true) (x0 : ObjOk P w H h a o) (x : ObjOk P w H' h' a o) : ObjOk P w H h' a o := by
 induction o with
 | ins C dx fs => exact ⟨x0.1, x.2⟩
 | dT kvs => cases n
 | frz ob u ih => exact ⟨x.1, ih n x0.2 x.2⟩
 | _ => exact x
theorem ObjOk.plain (n : rC o = true) (x : ObjOk P w H' h' a o) : ObjOk P w H h' a o := by
 cases o with
 | lst xs => exact x
 | tup xs => exact x
 | dK kvs => exact x
 | rng lo hi => exact x
 | _ => cases n
theorem HOk.gc (n : NoT H) (x0 : HOk P w H h) (x : HOk P w H' h') (g : Gc H G H') : HOk P w G h' := fun a o e => by
 rcases g.c a o e with q | q
 ·refine (((x0 a o q).gc (n a o q) (x a o (g.b a o e)))).stay (fun _ _ _ z => z) (fun b z => g.a _ _ z) fun b xs z => g.a _ _ z
 ·exact (x a o (g.b a o e)).plain q
theorem Un.gc {fs ex : List Addr} (u : Un fs ex H H' h h') (g : Gc H G H') : Un fs ex H G h h' :=
 ⟨u.keep, u.slot, fun b o q n hx => g.b.free (u.free b o q n hx), u.there, fun b xs q => g.a _ _ q, fun b o x q => g.a _ _ q, fun b ps q => ⟨#[], by rw [Array.append_empty]; exact g.a _ _ q⟩⟩
theorem Gc.refl : Gc H H H := ⟨Same.refl H, Same.refl H, fun _ _ e => .inl e⟩
theorem Gc.none (s : Same H H') : Gc H H H' := ⟨Same.refl H, s, fun _ _ e => .inl e⟩
theorem az {p : Addr} (o : HO) (hp : H p = Option.none) : Same H (upd H p o) := fun b u e => by rw [ar (ai e hp)]; exact e
theorem Gc.one {p : Addr} (s : Same H H') (hp : H p = Option.none) (e : H' p = some o) (n : rC o = true) : Gc H (upd H p o) H' :=
 ⟨az o hp, fun b u z => by
  by_cases hb : b = p
  ·subst hb; rw [aj] at z; cases z; exact e
  ·rw [ar hb] at z; exact s b u z, fun b u z => by
  by_cases hb : b = p
  ·subst hb; rw [aj] at z; cases z; exact .inr n
  ·rw [ar hb] at z; exact .inl z⟩
theorem NoT.upd {p : Addr} (n : NoT H) (d : oC o = true) : NoT (upd H p o) := fun b u z => by
 by_cases hb : b = p
 ·subst hb; rw [aj] at z; cases z; exact d
 ·rw [ar hb] at z; exact n b u z
end
theorem Inv.gc {X : Cx} {pins pins' : List (Addr × Obj)} {σ σ' : St} {H G H' : Hp} {s s' : Shared} (n : NoT H) (I : Inv X pins σ H s) (J : Inv X pins' σ' H' s') (g : Gc H G H') : Inv X pins' σ' G s' :=
 ⟨J.ok, J.os, J.bare, ⟨J.base.keep, J.base.slot, fun b o q z hx => g.b.free (J.base.free b o q z hx), J.base.there, fun b xs q => g.a _ _ (I.base.tups b xs q), fun b o x q => g.a _ _ (I.base.frzs b o x q), fun b ps q => let ⟨m, e⟩ := I.base.tbls b ps q; ⟨m, g.a _ _ e⟩⟩,
  J.loc, J.cell, g.b.free J.free, fun x c e => g.b.free (J.freeC x c e), fun p hp => let ⟨e, z, r⟩ := J.pin p hp; ⟨e, g.b.free z, r⟩, HOk.gc n I.hok J.hok g, J.len⟩
def tGc (t : TE) : TE := fun σ H Q => NoT H /\ t σ H fun v H' => ∃ G, Gc H G H' /\ Q v G
theorem Hi {X : Cx} {e : Expr} {t : TE} (h : PE X e t) : PE X e (tGc t) := fun pins s σ H Q I ⟨n, q⟩ =>
 thn (h pins s σ H _ I q) fun u s1 ⟨v, H1, I1, r, G, g, q1⟩ => ⟨v, G, I.gc n I1 g, r, q1⟩
end L2
namespace L2
open PySem PySem.Spec PyProof.Rows
theorem ObjOk.at_ {P : Program} {w : World} {H : Hp} {h : Heap} {a : Addr} {o : HO} (x : ObjOk P w H h a o) : ∃ ob, h.get? a = some ob := by
 cases o with
 | lst xs => obtain ⟨_, _, _, _, e⟩ := x; exact ⟨_, e⟩
 | tup xs => obtain ⟨_, _, _, ob, e, _⟩ := x; exact ⟨_, e⟩
 | dK kvs => obtain ⟨_, _, _, _, o, _, _, e, _⟩ := x; exact ⟨_, e⟩
 | dT kvs => obtain ⟨_, _, _, _, o, _, _, e, _⟩ := x; exact ⟨_, e⟩
 | set S n => obtain ⟨o, _, _, _, e, _⟩ := x; exact ⟨_, e⟩
 | ins C dx fs => obtain ⟨_, _, _, e, _⟩ := x; exact ⟨_, e⟩
 | own y => obtain ⟨_, e⟩ := x; exact ⟨_, e⟩
 | xd fs => obtain ⟨_, ⟨_, _, _, e, _⟩, _⟩ := x; exact ⟨_, e⟩
 | rng lo hi => obtain ⟨_, _, _, e⟩ := x; exact ⟨_, e⟩
 | frz ob u => obtain ⟨e, _⟩ := x; exact ⟨_, e⟩
 | tbl ps => exact ⟨_, (show h.get? a = some _ from x)⟩
 | met f y => exact ⟨_, (show h.get? a = some _ from x)⟩
 | ext φ => obtain ⟨_, ⟨_, e⟩, _⟩ := x; exact ⟨_, e⟩
theorem HOk.none_of {P : Program} {w : World} {H : Hp} {h : Heap} {a : Addr} (x : HOk P w H h) (e : h.get? a = none) : H a = none := by
 cases q : H a with
 | none => rfl
 | some u =>
  obtain ⟨ob, z⟩ := (x a u q).at_
  rw [e] at z; cases z
def hid (h : Heap) (l : List Env) (rs : List Addr) : Heap := PySem.W.hideAll h (frs l ++ rs)
theorem nE {h : Heap} {l : List Env} {rs : List Addr} {b : Addr} {o : Obj} (e : h.get? b = some o) (h1 : b ∉ frs l) (h2 : b ∉ rs) : (hid h l rs).get? b = some o :=
 PySem.W.hideAll_get _ e fun z => (tD.mp z).elim h1 h2
theorem xQ {h : Heap} {l : List Env} {rs : List Addr} {b : Addr} {o : Obj} (e : (hid h l rs).get? b = some o) : h.get? b = some o := PySem.W.of_hideAll _ e
theorem uF {h : Heap} {l : List Env} {rs : List Addr} {b : Addr} (e : b ∈ rs) : (hid h l rs).get? b = none := PySem.W.hideAll_none _ (pe _ e)
theorem mf {h base : Heap} {l : List Env} {rs : List Addr} (e : h.FunFrames base l) : h.FunFrames (hid h l rs) l :=
 PySem.W.funFrames_hide e fun _ he _ ha => YV _ (List.mem_filterMap.mpr ⟨_, he, ha⟩)
def Fly (l : List Env) (rs : List Addr) (e : Addr) (cls : Value) (h : Heap) : Prop := e ∈ rs /\ ∃ a0, Heap.FlyingW (hid h l rs) l e cls a0 h
def XE (P : Program) (w : World) : CXT := fun outer H s E ev s' => ∃ (e : Addr) (C : Value) (rs : List Addr) (H' : Hp), ev = .ref e /\ s'.os = s.os /\ AllBare s'.gens /\ Un (frs outer) [] H H' s.heap s'.heap /\
 HOk P w H' s'.heap /\ (∀ b ∈ rs, s.heap.get? b = none /\ H' b = none) /\ Fly outer rs e C s'.heap /\ E C none H'
section
variable {X : Cx} {pins : List (Addr × Obj)} {σ : St} {H : Hp} {s : Shared} {h' : Heap} {rs : List Addr}
theorem Inv.s0_none (I : Inv X pins σ H s) (hex : X.ex = []) {b : Addr} (e : s.heap.get? b = none) : X.s₀.heap.get? b = none := by
 cases q : X.s₀.heap.get? b with
 | none => rfl
 | some o =>
  obtain ⟨o', z⟩ := I.base.there b o q (by rw [hex]; simp)
  rw [e] at z; cases z
theorem Inv.noteUn (I : Inv X pins σ H s) (hex : X.ex = []) (hrs : ∀ b ∈ rs, X.s₀.heap.get? b = none)
 (stay : ∀ b o, s.heap.get? b = some o -> b ∉ frs X.stack -> b ∉ rs -> h'.get? b = some o) (up : s.heap.UpToSlots h') : Un X.fs [] X.H₀ H X.s₀.heap h' := by
 have B := I.base
 rw [hex] at B
 have nrs : ∀ b o, X.s₀.heap.get? b = some o -> b ∉ rs := fun b o e z => by rw [hrs b z] at e; cases e
 have nst : ∀ b o, X.s₀.heap.get? b = some o -> b ∉ X.fs -> b ∉ frs X.stack := fun b o e hb z => by
  rcases ze.mp (I.stkSub b z) with q | q
  ·exact absurd (tN (xi e) I.ok.above) (by rw [q]; exact ZX _)
  ·exact hb q
 refine ⟨fun b o q n hb hx => stay b o (B.keep b o q n hb hx) (nst b o q hb) (nrs b o q), fun b o q n hb hx => ?_, fun b o q n hx => B.free b o q n hx, fun b o q hx => ?_, B.tups, B.frzs, B.tbls⟩
 ·obtain ⟨sl, e1⟩ := B.slot b o q n hb hx
  obtain ⟨_, o', ho', hd⟩ := I.funs.mem hb
  rw [e1] at ho'; cases ho'
  obtain ⟨sl', e2⟩ := up b _ e1 hd
  exact ⟨sl', e2⟩
 ·obtain ⟨o', e1⟩ := B.there b o q hx
  by_cases hb : b ∈ frs X.stack
  ·obtain ⟨_, o2, ho2, hd⟩ := I.stack.mem hb
   obtain ⟨sl', e2⟩ := up b _ ho2 hd
   exact ⟨_, e2⟩
  ·exact ⟨o', stay b o' e1 hb (nrs b o q)⟩
theorem Inv.noteOk (I : Inv X pins σ H s) (hrs : ∀ b ∈ rs, H b = none) (stay : ∀ b o, s.heap.get? b = some o -> b ∉ frs X.stack -> b ∉ rs -> h'.get? b = some o) : HOk X.prog X.w H h' := fun a o e =>
 (I.hok a o e).stay (fun b u hb q => stay b u q (fun z => by
  have n := I.stkFree b z
  rcases hb with r | r
  ·rw [r, e] at n; cases n
  ·rw [r] at n; cases n) fun z => by
  have n := hrs b z
  rcases hb with r | r
  ·rw [r, e] at n; cases n
  ·rw [r] at n; cases n) (fun _ q => q) fun _ _ q => q
theorem zp {base : Heap} {l : List Env} {h h1 : Heap} {T : Addr} {oT : Obj} {ts : Array Value} (hl : h.FunFrames base l) (up : h.UpToSlots h1) (e : (hid h l rs).get? T = none) (hT : h1.get? T = some oT) (hd : oT.data = .fields ts) : h.get? T = none \/ T ∈ rs := by
 by_cases hr : T ∈ rs
 ·exact .inr hr
 ·refine .inl ?_
  cases q : h.get? T with
  | none => rfl
  | some o =>
   by_cases hf : T ∈ frs l
   ·obtain ⟨_, o2, ho2, hnf⟩ := hl.mem hf
    rw [q] at ho2; cases ho2
    obtain ⟨sl, e2⟩ := up T o q hnf
    rw [hT] at e2; cases e2
    exact absurd hd (hnf ts)
   ·rw [nE q hf hr] at e; cases e
end
section
variable {P : Program} {w : World} {K : W.Frag} {mg : Str -> Option Value} {base : Heap} {N : List Str} {qual : Str} {scope : Scope} {f : Addr} {cd : Value} {A : Around} {outer : List Env} {s₀ : Shared} {H₀ : Hp} {E : XK}
theorem xU {pins : List (Addr × Obj)} {σ : St} {H : Hp} {s : Shared} {h' : Heap} {e : Addr} {cls : Value} {args : List Value}
 (I : Inv (d7 (XE P w) P w K mg base N qual scope f cd A outer s₀ H₀ E) pins σ H s) (hx : Heap.MadeExcOf s.heap h' e cls args) (q : E cls none H) :
 (d7 (XE P w) P w K mg base N qual scope f cd A outer s₀ H₀ E).xe (.ref e) { s with heap := h' } := by
 show wpAny (model P w) (A.deeper (envOfC qual scope s₀.heap.objs.size f cd)) (leaving (envOfC qual scope s₀.heap.objs.size f cd) (.ref e)) (fun _ s'' => XE P w outer H₀ s₀ E (.ref e) s'') (fun e' s'' => XE P w outer H₀ s₀ E e' s'') { s with heap := h' }
 have hst : s.heap.FunFrames base (envOfC qual scope s₀.heap.objs.size f cd :: outer) := I.stack
 refine wpAny_leaves_madeW (base := hid s.heap (envOfC qual scope s₀.heap.objs.size f cd :: outer) []) (h := s.heap) I.ok.frames rfl (fun b o z => xQ z) (mf hst) hx fun h'' t fl tup tn up => ?_
 obtain ⟨f1, f2, f3, oe, vs, T, oT, ts, he, hc, hd, h1, hnT, hTe, hT, hdT, h3⟩ := fl
 have up' : s.heap.UpToSlots h'' := (Heap.UpToSlots.of_keeps hx.keeps).trans up
 have nT : s.heap.get? T = none := (zp hst up' hnT hT hdT).elim id fun z => nomatch z
 have stay : ∀ b o, s.heap.get? b = some o -> b ∉ frs (envOfC qual scope s₀.heap.objs.size f cd :: outer) -> b ∉ [e, T] -> h''.get? b = some o := fun b o z hb _ => f1 b o (nE z hb fun y => nomatch y)
 have n0 : ∀ b ∈ [e, T], s.heap.get? b = none := fun b hb => by
  rcases ze.mp hb with r | r
  ·rw [r]; exact hx.new
  ·rw [zr.mp r]; exact nT
 have n1 : ∀ b ∈ [e, T], s₀.heap.get? b = none := fun b hb => I.s0_none rfl (n0 b hb)
 have n2 : ∀ b ∈ [e, T], H b = none := fun b hb => I.hok.none_of (n0 b hb)
 refine ⟨e, cls, [e, T], H, rfl, I.os, I.bare, I.noteUn rfl n1 stay up', I.noteOk n2 stay, fun b hb => ⟨n1 b hb, n2 b hb⟩, ⟨.head _, .ref t, ?_⟩, q⟩
 exact ⟨fun b o z => xQ z, uF (.head _), mf f3, oe, vs, T, oT, ts, he, hc, hd, h1, uF (.tail _ (.head _)), hTe, hT, hdT, h3⟩
abbrev XKs := St -> XK
def eQ (CX : CXT) (X : Cx) (E : XKs) : Prop := ∀ (pins : List (Addr × Obj)) (σ : St) (H : Hp) (s : Shared) (e : Value) (s' : Shared), Inv X pins σ H s -> CX X.stack H s (E σ) e s' -> X.xe e s'
def AQ (X : Cx) (E : XKs) : Prop := ∀ (pins : List (Addr × Obj)) (σ : St) (H : Hp) (s : Shared) (h' : Heap) (e : Addr) (cls : Value) (args : List Value), Inv X pins σ H s -> Heap.MadeExcOf s.heap h' e cls args -> E σ cls none H -> X.xe (.ref e) { s with heap := h' }
theorem fJ : AQ (d7 (XE P w) P w K mg base N qual scope f cd A outer s₀ H₀ E) (fun _ => E) := fun _ _ _ _ _ _ _ _ I hx q => xU I hx q
theorem aC : eQ (XE P w) (d7 (XE P w) P w K mg base N qual scope f cd A outer s₀ H₀ E) (fun _ => E) := by
 intro pins σ H s ev s' I hq
 obtain ⟨e, C, rs, H', rfl, os, bare, un, hok, hrs, ⟨her, a0, fl⟩, q⟩ := hq
 have J : Inv (d7 (XE P w) P w K mg base N qual scope f cd A outer s₀ H₀ E) pins σ H' s' := I.call' os un hok bare (fun b z => nomatch z)
 show wpAny (model P w) (A.deeper (envOfC qual scope s₀.heap.objs.size f cd)) (leaving (envOfC qual scope s₀.heap.objs.size f cd) (.ref e)) (fun _ s'' => XE P w outer H₀ s₀ E (.ref e) s'') (fun e' s'' => XE P w outer H₀ s₀ E e' s'') s'
 have hst : s'.heap.FunFrames base (envOfC qual scope s₀.heap.objs.size f cd :: outer) := J.stack
 refine wpAny_leaves_onW (base := hid s'.heap (envOfC qual scope s₀.heap.objs.size f cd :: outer) rs) I.ok.frames rfl fl fun h'' fl' up => ?_
 obtain ⟨f1, f2, f3, oe, vs, T, oT, ts, he, hc, hd, h1, hnT, hTe, hT, hdT, h3⟩ := fl'
 have nT := zp hst up hnT hT hdT
 have stay : ∀ b o, s'.heap.get? b = some o -> b ∉ frs (envOfC qual scope s₀.heap.objs.size f cd :: outer) -> b ∉ T :: rs -> h''.get? b = some o := fun b o z hb hr => f1 b o (nE z hb fun y => hr (.tail _ y))
 have n1 : ∀ b ∈ T :: rs, s₀.heap.get? b = none := fun b hb => by
  rcases ze.mp hb with r | r
  ·rw [r]
   rcases nT with z | z
   ·exact J.s0_none rfl z
   ·exact I.s0_none rfl (hrs T z).1
  ·exact I.s0_none rfl (hrs b r).1
 have n2 : ∀ b ∈ T :: rs, H' b = none := fun b hb => by
  rcases ze.mp hb with r | r
  ·rw [r]
   rcases nT with z | z
   ·exact hok.none_of z
   ·exact (hrs T z).2
  ·exact (hrs b r).2
 refine ⟨e, C, T :: rs, H', rfl, J.os, J.bare, J.noteUn rfl n1 stay up, J.noteOk n2 stay, fun b hb => ⟨n1 b hb, n2 b hb⟩, ⟨.tail _ her, a0, ?_⟩, q⟩
 exact ⟨fun b o z => xQ z, uF (.tail _ her), mf f3, oe, vs, T, oT, ts, he, hc, hd, h1, uF (.head _), hTe, hT, hdT, h3⟩
end
def B8 (sp : Sp) (dvs : List V) (E : XKs) (t : TA) : TE := fun σ H Q => t σ H fun vs H1 => sp (vs ++ dvs) H1 Q (E σ)
section
variable {X : Cx} {CX : CXT} {k : Nat} {f C : Addr} {fd : FuncData} {ps : List Str} {sp : Sp} {dvs : List V} {ds : List Value} {E : XKs} {x m : Str} {p pos apos : Pos} {e o : Expr} {es : List Expr} {ta : TE} {t : TA}
theorem vg {pins : List (Addr × Obj)} {σ : St} {H : Hp} {s : Shared} {Q : VK} {us : List Value} {vs : List V} (F : bg X.prog X.w X.K X.mg X.base CX k f fd ps sp) (hr : Room k X.A) (hb : Binds X.K fd ps ds) (hd : Vals dvs ds) (hx : eQ CX X E)
 (I : Inv X pins σ H s) (r : Vals vs us) (h : sp (vs ++ dvs) H Q (E σ)) : wpAny (model X.prog X.w) X.A (call (.ref f) us) (EP X pins σ Q) X.xe s := by
 have r2 : Vals (vs ++ dvs) (us ++ ds) := r.append hd
 have hl : (us ++ ds).length = ps.length := by rw [<- r2.length]; exact F.len _ _ _ _ h
 refine wpAny_call (codeAny_mono (F.run X.A X.stack s H ⟨us, []⟩ (us ++ ds) (vs ++ dvs) Q (E σ) hr I.env0 (hb s us I.kIn hl) r2 h) fun r s' hq => ?_)
 cases r with
 | error e => exact hx pins σ H s e s' I hq
 | ok fl =>
  cases fl with
  | ret u => exact I.after hq
  | next => exact Z3 hq
  | brk => exact Z3 hq
  | cont => exact Z3 hq
theorem ao (F : bg X.prog X.w X.K X.mg X.base CX k f fd ps sp) (hr : Room k X.A) (hg : Gl X x) (hm : X.mg x = some (.ref f)) (hk : Yq X.K (.ref f) = true) (hb : Binds X.K fd ps ds) (hd : Vals dvs ds) (hx : eQ CX X E)
 (ha : PA X (e :: es) t) (hdb : (x == ("__debug__" : Str)) = false := by decide) (he : starEach (e :: es) X.env = (false, eval e X.env) :: starEach es X.env := by rfl) (hpl : (backTo pos (starEach es X.env)).any (·.1) = false := by rfl) :
 PE X (.Call (.Name x p) (e :: es) [] pos) (B8 sp dvs E t) := by
 intro pins s σ H Q I h
 refine Ym (j8 I hg hm ?_ hdb)
 refine PySem.W.callWith_K (h₀ := X.base) I.ok.mod.kin hk (thn (ha pos pins s σ H _ I h) fun us s1 ⟨vs, H1, I1, r, q⟩ => ⟨I1.kIn, ?_⟩) he hpl
 exact vg F hr hb hd hx I1 r q
end
section
variable {P : Program} {w : World} {K : W.Frag} {mg : Str -> Option Value} {base : Heap}
theorem Fun.okX {x qual : Str} {st : Stmt} {f : Addr} {fd : FuncData} {N ps : List Str} {k : Nat} {sp : Sp} (F : Fun K x qual st f fd) (S : aF N ps (ae st)) (len : ∀ vs H Q E, sp vs H Q E -> vs.length = ps.length)
 (hbody : ∀ (cdv : Value) (A : Around) (outer : List Env) (s : Shared) (H : Hp) (vs : List V) (Q : VK) (E : XK), Room k (A.deeper (envOfC qual (ae st) s.heap.objs.size f cdv)) -> sp vs H Q E ->
  ∃ t, PSs (d7 (XE P w) P w K mg base N qual (ae st) f cdv A outer s H E) (ay st) t /\ t { nx := fun _ H' => Q .non H', rt := Q } (iW N vs) H) : bg P w K mg base (XE P w) (k + 1) f fd ps sp := by
 obtain ⟨oc, od, kV, doc, pm, an, cdv, ct, osl, rfl, lk, hcd⟩ := F.ex
 exact Ha lk hcd S len fun A outer s H vs Q E hr hsp => hbody cdv A outer s H vs Q E hr hsp
end
theorem DB {K : W.Frag} {h : Heap} {C : Addr} {bmB : List Value} {newId : String} (X : K.In h) (q : PySem.W.excIn K C bmB newId = true) :
 ∃ bm N nm qn bs hdct sn sub ab col dd k0 k1 k2 k3 k5 mN, h.get? C = some (excClassObj nm qn C N bs bm hdct sn sub ab col dd k0 k1 k2 k3 k5 newId) /\ h.Ns N mN /\ mN "__init__" = none /\ OwnTail h bmB bm := by
 unfold PySem.W.excIn at q
 split at q
 ·rename_i dd cd sl ho
  split at q
  ·rename_i C' bm k0 k1 k2 k3 n k5 hm hs
   simp only [sW, beq_iff_eq, Bool.not_eq_true'] at q
   obtain ⟨⟨⟨⟨⟨rfl, rfl⟩, hdel⟩, ht⟩, hok⟩, hni⟩ := q
   obtain ⟨nm, bs, mro, ns, qn, hd, sn, sub, ab, col, del⟩ := cd
   dsimp only at hm hdel hok hni
   subst hm hdel
   have hsl : sl = #[k0, k1, k2, k3, some (.builtin n), k5] := by
    obtain ⟨l⟩ := sl
    simp only at hs
    rw [hs]
   subst hsl
   exact ⟨bm, ns, nm, qn, bs, hd, sn, sub, ab, col, dd, k0, k1, k2, k3, k5, _, X _ _ ho, .of_isNs (PySem.W.isNs_of_in X hok), PySem.W.nsMap_none_of_in X hok hni, PySem.W.tail_of_in X ht⟩
  ·cases q
 ·cases q
def BX (C : Addr) (E : XKs) (t : TA) : TS := fun _ σ H => t σ H fun vs H1 => vs.length <= sizeLine /\ E σ (.ref C) none H1
theorem d8 {X : Cx} {x : Str} {C : Addr} {bmB : List Value} {B newId initId : String} {E : XKs} {e : Expr} {es : List Expr} {t : TA} {np cpos pos : Pos} (O : PySem.W.excIn X.K C bmB newId = true) (FB : ExcBaseFacts B newId initId bmB)
 (hc : X.calm = true) (hg : Gl X x) (hm : X.mg x = some (.ref C)) (hx : AQ X E) (ha : PA X (e :: es) t) (hdb : (x == ("__debug__" : Str)) = false := by decide)
 (he : starEach (e :: es) X.env = (false, eval e X.env) :: starEach es X.env := by rfl) (hpl : (backTo cpos (starEach es X.env)).any (·.1) = false := by rfl) :
 PS X (.Raise (some (.Call (.Name x np) (e :: es) [] cpos)) none pos) (BX C E t) := by
 intro pins s σ H D I h
 obtain ⟨tl, N, nm, q, bs, hdct, sn, sub, ab, col, dd, k0, k1, k2, k3, k5, mN, hC, hN, hni, T⟩ := DB I.mod.kin O
 refine wpAny_Raise_call_subT (C := C) (nm := nm) (q := q) (N := N) (bs := bs) (bm := tl) (hdct := hdct) (sn := sn) (sub := sub) (ab := ab) (col := col) (dd := dd) (k0 := k0) (k1 := k1) (k2 := k2) (k3 := k3) (k5 := k5)
  FB (mN := mN) (T.hasType FB.hasBase) (I.ok.hd hc) (by rw [he]; show (false || (backTo cpos (starEach es X.env)).any (·.1)) = false; rw [hpl]; rfl) hni (j8 I hg hm ⟨rfl, ?_⟩ hdb)
 have hA := ha cpos pins s σ H _ I h
 rw [he] at hA |-
 refine Calls.evalArgs_plain (thn hA fun us s1 ⟨vs, H1, I1, r, hz, q1⟩ => ⟨rfl, by rw [<- r.length]; exact hz, I1.bk _ _ hC, hN.keeps I1.bk, T.keeps I1.bk, fun h' e' hm' => ?_⟩)
 exact hx pins σ H1 s1 h' e' (.ref C) us I1 hm' q1
end L2
namespace L2
open PySem PySem.Spec PyProof.Rows
section
variable {X : Cx} {pins : List (Addr × Obj)} {σ : St} {H : Hp} {s : Shared} {h' : Heap} {rs : List Addr}
theorem Inv.noted {t' : Nat} (I : Inv X pins σ H s) (hrs : ∀ b ∈ rs, X.s₀.heap.get? b = none /\ H b = none) (hpin : ∀ p ∈ X.pn ++ pins, p.1 ∉ rs)
 (stay : ∀ b o, s.heap.get? b = some o -> b ∉ frs X.stack -> b ∉ rs -> h'.get? b = some o) (up : s.heap.UpToSlots h') : Inv X pins σ H { s with heap := h', toks := t' } := by
 have B := I.base
 have cellK : ∀ c v, s.heap.IsCell c v -> h'.IsCell c v := fun c v ⟨o, ho, hd⟩ => by
  obtain ⟨sl, e⟩ := up c o ho fun vs q => by rw [hd] at q; cases q
  exact ⟨_, e, hd⟩
 have nrs : ∀ b o, X.s₀.heap.get? b = some o -> b ∉ rs := fun b o e z => by rw [(hrs b z).1] at e; cases e
 have nst : ∀ b o, X.s₀.heap.get? b = some o -> b ∉ X.fs -> b ∉ frs X.stack := fun b o e hb z => by
  rcases ze.mp (I.stkSub b z) with q | q
  ·exact absurd (tN (xi e) I.ok.above) (by rw [q]; exact ZX _)
  ·exact hb q
 refine ⟨I.ok, I.os, I.bare, ⟨fun b o q n hb hx => stay b o (B.keep b o q n hb hx) (nst b o q hb) (nrs b o q), fun b o q n hb hx => ?_, fun b o q n hx => B.free b o q n hx, fun b o q hx => ?_, B.tups, B.frzs, B.tbls⟩, ?_, fun x c e => ?_, I.free, I.freeC, fun p hp => ?_, I.noteOk (fun b hb => (hrs b hb).2) stay, I.len⟩
 ·obtain ⟨sl, e1⟩ := B.slot b o q n hb hx
  obtain ⟨_, o', ho', hd⟩ := I.funs.mem hb
  rw [e1] at ho'; cases ho'
  obtain ⟨sl', e2⟩ := up b _ e1 hd
  exact ⟨sl', e2⟩
 ·obtain ⟨o', e1⟩ := B.there b o q hx
  by_cases hb : b ∈ frs X.stack
  ·obtain ⟨_, o2, ho2, hd⟩ := I.stack.mem hb
   obtain ⟨sl', e2⟩ := up b _ ho2 hd
   exact ⟨_, e2⟩
  ·exact ⟨o', stay b o' e1 hb (nrs b o q)⟩
 ·obtain ⟨m, hn, hl⟩ := I.loc
  refine ⟨m, up.ns hn, fun i x v e1 e2 e3 => ?_⟩
  obtain ⟨u, r, l⟩ := hl i x v e1 e2 e3
  refine ⟨u, r, ?_⟩
  rcases l with l | ⟨k, c, e, z⟩
  ·exact .inl l
  ·exact .inr ⟨k, c, e, cellK c _ z⟩
 ·obtain ⟨v, z⟩ := I.cell x c e
  exact ⟨v, cellK c v z⟩
 ·obtain ⟨e, n, ne, nf, d⟩ := I.pin p hp
  exact ⟨stay p.1 p.2 e (fun z => (ze.mp (I.stkSub _ z)).elim ne nf) (hpin p hp), n, ne, nf, d⟩
theorem Inv.track {a : Addr} {o : HO} (I : Inv X pins σ H s) (hn : H a = none) (h0 : X.s₀.heap.get? a = none) (hL : a ≠ X.env.locals) (hc : ∀ x c, X.env.cells.lookup x = some c -> c ≠ a) (hp : ∀ p ∈ X.pn ++ pins, p.1 ≠ a)
 (new : ObjOk X.prog X.w (upd H a o) s.heap a o) : Inv X pins σ (upd H a o) s := by
 have B := I.base
 refine ⟨I.ok, I.os, I.bare, ⟨B.keep, B.slot, fun b ob q n hx => ?_, B.there, fun b xs q => ?_, fun b ob xs q => ?_, fun b ps q => ?_⟩, I.loc, I.cell, ?_, fun x c e => ?_, fun p hp' => ?_, fun b u e => ?_, I.len⟩
 ·have : b ≠ a := fun z => by rw [z, h0] at q; cases q
  rw [ar this]; exact B.free b ob q n hx
 ·have e := B.tups b xs q
  rw [ar (ai e hn)]; exact e
 ·have e := B.frzs b ob xs q
  rw [ar (ai e hn)]; exact e
 ·obtain ⟨m, e⟩ := B.tbls b ps q
  exact ⟨m, by rw [ar (ai e hn)]; exact e⟩
 ·rw [ar (Ne.symm hL)]; exact I.free
 ·rw [ar (hc x c e)]; exact I.freeC x c e
 ·obtain ⟨e, n, ne, nf, d⟩ := I.pin p hp'
  exact ⟨e, by rw [ar (hp p hp')]; exact n, ne, nf, d⟩
 ·by_cases hb : b = a
  ·subst hb
   rw [aj] at e
   cases e
   exact new
  ·rw [ar hb] at e
   refine (I.hok b u e).stay (fun c v _ q => q) (fun c q => ?_) fun c xs q => ?_
   ·rw [ar (ai q hn)]; exact q
   ·rw [ar (ai q hn)]; exact q
theorem Cx.Ok.re (ok : X.Ok) (A' : Around) (hf : A'.frames = X.A.frames) (cm : Bool) (hh : cm = true -> A'.handled = none) (pn : List (Addr × Obj)) (xe : Value -> Shared -> Prop) : ({ X with A := A', calm := cm, pn := pn, xe := xe } : Cx).Ok :=
 ⟨ok.mod, ok.kind, ok.glob, ok.blt, ok.above, ok.inj, ok.has, ok.cab, hh, hf.trans ok.frames, ok.stk, ok.exf, ok.bs, ok.bsz, ok.noex, ok.exfs, ok.funs, ok.frf⟩
theorem Inv.toPn (I : Inv X pins σ H s) (xe : Value -> Shared -> Prop) : Inv { X with pn := X.pn ++ pins, xe := xe } [] σ H s :=
 ⟨I.ok.re X.A rfl X.calm I.ok.hd _ _, I.os, I.bare, I.base, I.loc, I.cell, I.free, I.freeC, fun p hp => I.pin p (by rw [ZF] at hp; exact hp), I.hok, I.len⟩
theorem Inv.ofPn {xe : Value -> Shared -> Prop} {pins' : List (Addr × Obj)} (ok : X.Ok) (I : Inv { X with pn := X.pn ++ pins, xe := xe } pins' σ H s) : Inv X pins σ H s :=
 ⟨ok, I.os, I.bare, I.base, I.loc, I.cell, I.free, I.freeC, fun p hp => I.pin p (YV _ hp), I.hok, I.len⟩
abbrev Cx.caught (X : Cx) (e : Addr) : Cx := { X with A := X.A.mark (some (.ref e)), calm := false, pn := X.pn, xe := fun _ _ => False }
theorem Inv.toCaught (I : Inv X pins σ H s) (e : Addr) : Inv (X.caught e) pins σ H s :=
 ⟨I.ok.re (X.A.mark (some (.ref e))) rfl false (fun z => nomatch z) _ _, I.os, I.bare, I.base, I.loc, I.cell, I.free, I.freeC, I.pin, I.hok, I.len⟩
theorem Inv.ofCaught {e : Addr} (ok : X.Ok) (I : Inv (X.caught e) pins σ H s) : Inv X pins σ H s :=
 ⟨ok, I.os, I.bare, I.base, I.loc, I.cell, I.free, I.freeC, I.pin, I.hok, I.len⟩
theorem ka {M : Model} {A : Around} {E : Value -> Shared -> Prop} {i : Nat} {n : Str} {pos : Pos} {Q : Unit -> Shared -> Prop} (I : Inv X pins σ H s) (hN : X.N.Nodup) (hi : X.N[i]? = some n) (hk : X.env.kindOf n = some .local)
 (h : ∀ s', Inv X pins (σ.set i none) H s' -> Q () s') : wpAny M A (do bindName X.env n .none; unbindBehindTheSuite X.env n pos) Q E s := by
 obtain ⟨m, hn, hl⟩ := id I.loc
 have hcls : (X.env.scope.kind == .class || (X.env.scope.kind == .module && X.env.locals != X.env.globals)) = false := by rw [I.ok.kind]; rfl
 have cne := I.cne
 refine wpAny_nameGoes_keeps hk hn hcls fun h' v hn' hs => ?_
 obtain ⟨oL, _, _, hoL, _⟩ := id hn
 refine h _ ⟨I.ok, I.os, I.bare, ⟨fun b o e n hb hx => ?_, fun b o e n hb hx => ?_, I.base.free, fun b o e hx => ?_, I.base.tups, I.base.frzs, I.base.tbls⟩, ⟨_, hn', fun j y v' e1 e2 e3 => ?_⟩, fun y c e => ?_, I.free, I.freeC, fun p hp => ?_, fun b ob e => ?_, by simpa using I.len⟩
 ·exact (hs.2 b (tB (tN (xi e) I.ok.above))).trans (I.base.keep b o e n hb hx)
 ·obtain ⟨sl, e1⟩ := I.base.slot b o e n hb hx
  exact ⟨sl, (hs.2 b (tB (tN (xi e) I.ok.above))).trans e1⟩
 ·obtain ⟨o', e1⟩ := I.base.there b o e hx
  exact ⟨o', (hs.2 b (tB (tN (xi e) I.ok.above))).trans e1⟩
 ·by_cases hj : j = i
  ·subst hj
   rw [List.getElem?_set] at e2
   simp at e2
  ·rw [List.getElem?_set_ne (Ne.symm hj)] at e2
   obtain ⟨u', r', q⟩ := hl j y v' e1 e2 e3
   refine ⟨u', r', ?_⟩
   rcases q with ⟨k, e⟩ | ⟨k, c, e, z⟩
   ·refine .inl ⟨k, ?_⟩
    have : y ≠ n := fun e => hj (ql hN e1 (e ▸ hi))
    simp [this, e]
   ·exact .inr ⟨k, c, e, z.sameBut hs (cne y c e)⟩
 ·obtain ⟨w', z⟩ := I.cell y c e
  exact ⟨w', z.sameBut hs (cne y c e)⟩
 ·obtain ⟨e, n, ne, nf, d⟩ := I.pin p hp
  exact ⟨(hs.2 p.1 ne).trans e, n, ne, nf, d⟩
 ·refine (I.hok b ob e).stay (fun c w' hc q => (hs.2 c ?_).trans q) (fun _ q => q) fun _ _ q => q
  rintro rfl
  rcases hc with rfl | hc
  ·rw [I.free] at e; cases e
  ·rw [I.free] at hc; cases hc
end
theorem vb {M : Model} {A : Around} {E : Value -> Shared -> Prop} {s : Shared} {K : W.Frag} {e C D : Addr} {oe : Obj} {Q : Bool -> Shared -> Prop} (X : K.In s.heap) (he : s.heap.get? e = some oe) (hcls : oe.cls = .ref C)
 (hx : PySem.W.exmOne K (.ref C) (.ref D) = some true) (h : Q true s) : wpAny M A (excMatches (.ref e) (.ref D)) Q E s :=
 (PySem.W.exm_one (M := M) X (hcls ▸ (PySem.W.Looks.ld he).andThen .now) hx).here h
def iU (C : Value) (e : Addr) : HO := HO.ext fun h => ∃ o vs, h.get? e = some o /\ o.cls = C /\ o.data = .fields vs
def GD (K : W.Frag) (CH : Addr) (i : Nat) (tb : XKs -> TS) (th : TS) : TS := fun D σ H =>
 tb (fun σ' C _ H' => ∃ Ce, C = .ref Ce /\ PySem.W.exmOne K (.ref Ce) (.ref CH) = some true /\ ∀ e, H' e = none ->
  th { nx := fun σ2 H2 => D.nx (σ2.set i none) H2, rt := D.rt, bk := fun σ2 H2 => D.bk (σ2.set i none) H2, ct := fun σ2 H2 => D.ct (σ2.set i none) H2 } (σ'.set i (some (.ref e))) (upd H' e (iU (.ref Ce) e))) D σ H
theorem F6 {X : Cx} {CH : Addr} {i : Nat} {n x : Str} {np hpos pos : Pos} {body suite : List Stmt} {b₀ : Stmt} {tb : XKs -> TS} {th : TS} (hN : X.N.Nodup) (hi : X.N[i]? = some n) (hk : X.env.kindOf n = some .local)
 (hg : Gl X x) (hm : X.mg x = some (.ref CH))
 (hex : X.ex = []) (hst : X.stack = X.env :: X.outer) (hfr : X.env.frame = some X.env.locals)
 (hb : ∀ (pn : List (Addr × Obj)) (Ee : Value -> Shared -> Prop) (Ex : XKs), eQ (XE X.prog X.w) { X with pn := pn, xe := Ee } Ex -> PSs { X with pn := pn, xe := Ee } body (tb Ex))
 (hh : ∀ e : Addr, PSs (X.caught e) (b₀ :: suite) th) (hdb : (x == ("__debug__" : Str)) = false := by decide) :
 PS X (.Try body [.ExceptHandler (some (.Name x np)) (some n) (b₀ :: suite) hpos] [] [] pos) (GD X.K CH i tb th) := by
 intro pins s σ H D I h
 refine wpAny_Try_except ?_
 have ok := I.ok
 refine Zq (hb (X.pn ++ pins) _ _ ?hP [] s σ H D (I.toPn _) h) (fun f s1 hf => ?_) (fun _ _ z => z)
 case hP =>
  intro pins' σ' H1 s1 ev s1' I1 hq
  obtain ⟨e, C, rs, H', rfl, os, bare, un, hok, hrs, ⟨her, a0, fl⟩, ⟨Ce, rfl, hmro, hth⟩⟩ := hq
  have J1 := I1.call' os un hok bare (fun b z => nomatch z)
  have J : Inv X pins σ' H' s1' := J1.ofPn ok
  have I0 : Inv X pins σ' H1 s1 := I1.ofPn ok
  have hn0 : ∀ b ∈ rs, X.s₀.heap.get? b = none /\ H' b = none := fun b hb => by
   refine ⟨?_, (hrs b hb).2⟩
   cases q : X.s₀.heap.get? b with
   | none => rfl
   | some o =>
    obtain ⟨o', z⟩ := I0.base.there b o q (by rw [hex]; simp)
    rw [(hrs b hb).1] at z; cases z
  have hpin : ∀ p ∈ X.pn ++ pins, p.1 ∉ rs := fun p hp z => by
   have := (I0.pin p hp).1
   rw [(hrs _ z).1] at this; cases this
  have hstk : s1'.heap.FunFrames X.base (X.env :: X.outer) := by rw [<- hst]; exact J.stack
  rw [show X.stack = X.env :: X.outer from hst] at fl
  have hfrm : X.A.frames = some (X.env :: X.outer) := by rw [<- hst]; exact ok.frames
  show wpAny (model X.prog X.w) X.A (noteFrame (.ref e) X.env) _ _ s1'
  refine wpAny_looks_onW (base := hid s1'.heap (X.env :: X.outer) rs) hfrm hfr fl fun h₄ held up4 => ?_
  refine wpAny_landsW held fun h₅ fl5 up5 => ?_
  have nin : ∀ b, b ∉ frs X.stack -> b ∉ frs (X.env :: X.outer) := fun b hb => by rw [<- hst]; exact hb
  have stay5 : ∀ b o, s1'.heap.get? b = some o -> b ∉ frs X.stack -> b ∉ rs -> h₅.get? b = some o := fun b o z hb hr => fl5.1 b o (nE z (nin b hb) hr)
  have I5 : Inv X pins σ' H' { s1' with heap := h₅, toks := s1'.toks } := J.noted hn0 hpin stay5 (up4.trans up5)
  obtain ⟨ob, hob, hobc⟩ := fl5.there
  refine wpAny_handleBy_cons (codeAny_handlers_test (j8 (X := X.caught e) (I5.toCaught e) hg hm (vb I5.kIn hob hobc hmro ?_) hdb)) (by intro q; cases q)
  refine codeAny_handlers_suite_as (lands_againW fl5 fun h₆ fl6 up6 => ?_)
  have stay6 : ∀ b o, s1'.heap.get? b = some o -> b ∉ frs X.stack -> b ∉ rs -> h₆.get? b = some o := fun b o z hb hr => fl6.1 b o (nE z (nin b hb) hr)
  have I6 : Inv X pins σ' H' { s1' with heap := h₆, toks := s1'.toks } := J.noted hn0 hpin stay6 ((up4.trans up5).trans up6)
  have e1 : s1.heap.get? e = none := (hrs e her).1
  obtain ⟨oe, vs, hoe, hoec, hoed, _⟩ := fl6.first
  have I6' : Inv X pins σ' (upd H' e (iU (.ref Ce) e)) { s1' with heap := h₆, toks := s1'.toks } := by
   refine I6.track (hrs e her).2 (hn0 e her).1 ?_ ?_ (fun p hp z => hpin p hp (by rw [z]; exact her)) ?_
   ·intro z
    obtain ⟨m, ⟨oL, _, _, hoL, _⟩, _⟩ := I0.loc
    rw [<- z, e1] at hoL; cases hoL
   ·intro x c hc z
    obtain ⟨v, o, ho, _⟩ := I0.cell x c hc
    rw [z, e1] at ho; cases ho
   ·exact ⟨⟨oe, vs, hoe, hoec, hoed⟩, ⟨oe, hoe⟩, fun h1 h2 ⟨o, ws, a1, a2, a3⟩ k => ⟨o, ws, k o a1, a2, a3⟩⟩
  refine pX (X := X.caught e) (I6'.toCaught e) hN hi (Or.inl hk) (v := .ref e) rfl (fun s7 I7 => ?_) (.inr hk)
  refine Zq (hh e pins s7 _ _ _ I7 (hth e (hrs e her).2)) (fun f s8 hf => ?_) (fun _ _ z => z.elim)
  show wpAny (model X.prog X.w) X.A (do bindName X.env n .none; unbindBehindTheSuite X.env n hpos) (fun _ s₃ => SP X pins D f s₃) X.xe s8
  cases f with
  | next =>
   obtain ⟨σ2, H2, J2, q⟩ := hf
   exact ka (J2.ofCaught ok) hN hi hk fun s9 I9 => ⟨_, _, I9, q⟩
  | brk =>
   obtain ⟨σ2, H2, J2, q⟩ := hf
   exact ka (J2.ofCaught ok) hN hi hk fun s9 I9 => ⟨_, _, I9, q⟩
  | cont =>
   obtain ⟨σ2, H2, J2, q⟩ := hf
   exact ka (J2.ofCaught ok) hN hi hk fun s9 I9 => ⟨_, _, I9, q⟩
  | ret u =>
   obtain ⟨v, σ2, H2, J2, r, q⟩ := hf
   exact ka (J2.ofCaught ok) hN hi hk fun s9 I9 => ⟨v, _, _, I9, r, q⟩
 cases f with
 | next =>
  obtain ⟨σ', H', J, q⟩ := hf
  exact wpAny_execs_nil ⟨σ', H', J.ofPn ok, q⟩
 | brk =>
  obtain ⟨σ', H', J, q⟩ := hf
  exact ⟨σ', H', J.ofPn ok, q⟩
 | cont =>
  obtain ⟨σ', H', J, q⟩ := hf
  exact ⟨σ', H', J.ofPn ok, q⟩
 | ret u =>
  obtain ⟨v, σ', H', J, r, q⟩ := hf
  exact ⟨v, σ', H', J.ofPn ok, r, q⟩
end L2
namespace L2
open PySem PySem.Spec PyProof.Rows PySem.W
inductive AI : V -> Value -> Prop where
 | ty (n : String) : AI (.ty n) (.type n)
 | own (a : Addr) : AI (.ref a) (.ref a)
section
variable {X : Cx}
theorem wT : CallR X (.builtin "isinstance") (fun xs H Q => ∃ x c t u b, xs = [x, c] /\ AI c u /\ lJ X.K H x t /\ Zp X.K t u = some b /\ Q (.bl b) H) := by
 intro pins s σ H xs us Q I r h
 obtain ⟨x, c, t, u, b, rfl, rc, ty, e, q⟩ := h
 obtain ⟨ux, uc, rfl, rx, rc'⟩ := zf r
 have ec : uc = u := by
  cases rc with
  | ty n => exact rc'
  | own a => exact rc'
 subst ec
 exact Ax I rx ty e fun tk => ⟨.bl b, H, I.tok _, rfl, q⟩
end
structure hJ (K : Frag) (C : Addr) : Prop where
 l1 : findIn K (.ref C) "__getattribute__" = some (some (.builtin "BaseException.__getattribute__"))
 l2 : findIn K (.ref C) "__getattr__" = some none
 l3 : findIn K (.ref C) "__class__" = some (some (.builtin "object.__class__"))
 c1 : (clsIn K C).isSome = true
 m1 : mroIn K C (.type "object") = some true
 m2 : mroIn K C (.type "BaseException") = some true
section
variable {prog : Program} {w : World} {A : Around} {E : Value -> Shared -> Prop} {K : Frag} {e C : Addr} {o : Obj} {s : Shared}
open Builtin Builtin.ObjectAttr Builtin.Getset_descriptor PySem.Calls in
theorem sI {R : Result -> Shared -> Prop} {tp : Value} (X : K.In s.heap) (Z : hJ K C) (hx : s.heap.get? e = some o) (hc : o.cls = .ref C)
 (h : R (.ok (.ret (.ref C))) s) : codeAny (model prog w) A (.call (.builtin "getset_descriptor.__get__") ⟨[.builtin "object.__class__", .ref e, tp], []⟩) R s := by
 obtain ⟨hh, g, dr, t, os⟩ := s
 have L0 : Looks (model prog w) hh (typeOf (.ref e)) (.ref C) := hc ▸ (Looks.ld hx).andThen .now
 have L1 := looks_mroIn (M := model prog w) X Z.m1
 refine codeAny_call_builtin KF.slot_gs.plain KF.entry_gs (KF.slot_gs.check _ _ _ _ _ _ _ _ KF.type_class (KF.args_gs _ _ _) ?_)
 unfold Builtin.«getset_descriptor.__get__» descrGet
 rw [dga_obj]
 refine zz (yZ ?_)
 unfold descrGetter descrCheckInstance descrNameAndClass isInstance
 simp only [KF.owner_class]
 repeat lk
 refine ⟨Code.quiet_builtin _ (by decide +kernel), codeAny_builtin KF.entry_class ?_⟩
 unfold Builtin.«object.__class__» shownTypeOf
 repeat lk
 exact h
theorem ul {M : Model} {nameV : Value} {Q : Unit -> Shared -> Prop} (X : K.In s.heap) (Z : hJ K C) (hx : s.heap.get? e = some o) (hc : o.cls = .ref C) (hq : Q () s) :
 wpAny M A (checkBuiltinCall "BaseException.__getattribute__" ⟨[.ref e, nameV], []⟩) Q E s := by
 have hk : builtinKind "BaseException.__getattribute__" = some .slot := by decide +kernel
 have hsplit : splitId "BaseException.__getattribute__" = some ("BaseException", "__getattribute__") := by decide +kernel
 have ha := F.args_bexc_ga (.ref e) nameV
 obtain ⟨hh, g, dr, t, os⟩ := s
 have L0 : Looks M hh (typeOf (.ref e)) (.ref C) := hc ▸ (Looks.ld hx).andThen .now
 have L1 := looks_mroIn (M := M) X Z.m2
 have LI : Looks M hh (isInstance (.ref e) (.type "BaseException")) true := L0.andThen L1
 simp only [checkBuiltinCall, hk, hsplit]
 refine zz (LI.at ?_)
 repeat (first | assumption | wp_step)
theorem uM {tk : Tok} {Q : Fin -> Shared -> Prop} (X : K.In s.heap) (Z : hJ K C) (hx : s.heap.get? e = some o) (hc : o.cls = .ref C) (hq : Q (.done (.ret (.ref C))) s) :
 wpAny (model prog w) A (Builtin.«object.__getattribute__» ⟨[.ref e, .str "__class__" tk], []⟩) Q E s := by
 obtain ⟨hh, g, dr, t, os⟩ := s
 have L0 : Looks (model prog w) hh (typeOf (.ref e)) (.ref C) := hc ▸ (Looks.ld hx).andThen .now
 have L3 := looks_findIn (M := model prog w) X Z.l3
 have f5 := KF.type_class
 have f6 := F.slot_gs_get.lookup
 have f7 := F.slot_gs_set.lookup
 repeat (any_goals (first | assumption | with_reducible refine L0.at ?_ | with_reducible refine L3.at ?_ | wp_step))
 refine sI X Z hx hc ?_
 repeat (any_goals (first | assumption | wp_step))
theorem rH {Q : Option Value -> Shared -> Prop} (X : K.In s.heap) (Z : hJ K C) (hx : s.heap.get? e = some o) (hc : o.cls = .ref C) (h : Q (some (.ref C)) { s with toks := s.toks + 1 }) :
 wpAny (model prog w) A (getAttr? (.ref e) "__class__") Q E s := by
 obtain ⟨hh, g, dr, t, os⟩ := s
 have L0 : Looks (model prog w) hh (typeOf (.ref e)) (.ref C) := hc ▸ (Looks.ld hx).andThen .now
 have L1 := looks_findIn (M := model prog w) X Z.l1
 have L2 := looks_findIn (M := model prog w) X Z.l2
 have f3 := F.excAttr_ValueError.ga.bind (.ref e)
 have hx2 : (Value.builtin "BaseException.__getattribute__" == Value.builtin "object.__getattribute__") = false := by decide +kernel
 have hx0 : ∀ ex : Bool, (ex && onTheHeap (Value.builtin "BaseException.__getattribute__")) = false := fun ex => by cases ex <;> rfl
 have hx1 : (onTheHeap (vY C) && Value.builtin "BaseException.__getattribute__" == Value.builtin "object.__getattribute__") = false := by rw [hx2]; rfl
 unfold getAttr?
 repeat (any_goals (first | assumption | with_reducible refine L0.at ?_ | with_reducible refine L1.at ?_ | with_reducible refine L2.at ?_ | wp_step))
 refine codeAny_call_builtin F.excAttr_ValueError.ga.plain F.entry_bexc_ga (ul X Z hx hc (uM X Z hx hc ?_))
 repeat (any_goals (first | assumption | wp_step))
theorem Cf (Z : hJ K C) : KitX K (.ref e) (.ref C) (fun h => ∃ o, h.get? e = some o /\ o.cls = .ref C) where
 ty := fun M h _ ⟨o, h1, h2⟩ => h2 ▸ (Looks.ld h1).andThen .now
 it := fun M h X _ => by
  have c1 := Z.c1
  unfold clsIn at c1
  split at c1
  ·rename_i c' d' cd' sl' ho
   intro A' Q' E' s' k q
   unfold isType loadHead
   exact zz (wpAny_loadPart (k _ _ (X _ _ ho)) (yZ q))
  ·cases c1
 ne := fun h tp dd its n sl X htp => by
  refine Bool.eq_false_iff.mpr fun q => ?_
  have e' : C = tp := vY.inj (beq_iff_eq.mp q)
  subst e'
  have c1 := Z.c1
  unfold clsIn at c1
  split at c1
  ·rename_i c' d' cd' sl' ho
   have z := (X _ _ ho).symm.trans htp
   cases z
  ·cases c1
 ca := fun X ⟨o, h1, h2⟩ k => rH X Z h1 h2 k
end
section
variable {X : Cx}
theorem vx : CallR X (.builtin "isinstance") (fun xs H Q => ∃ e c C u b, xs = [.ref e, c] /\ AI c u /\ H e = some (iU (.ref C) e) /\ hJ X.K C /\ Zp X.K (.ref C) u = some b /\ Q (.bl b) H) := by
 intro pins s σ H xs us Q I r h
 obtain ⟨e, c, C, u, b, rfl, rc, he, Z, k, q⟩ := h
 obtain ⟨ux, uc, rfl, rx, rc'⟩ := zf r
 have ec : uc = u := by
  cases rc with
  | ty n => exact rc'
  | own a => exact rc'
 subst ec
 cases (show ux = vY e from rx)
 obtain ⟨⟨o, vs, h1, h2, _⟩, _, _⟩ := (show ObjOk X.prog X.w H s.heap e (iU (.ref C) e) from I.hok e _ he)
 exact kia_one (Cf Z) I.kIn ⟨o, h1, h2⟩ k (fun z => nomatch z) fun tk => ⟨.bl b, H, I.tok _, rfl, q⟩
theorem vA (hc : X.calm = true) : CallR X (.builtin "sum") (fun xs H Q => ∃ (p : Addr) (ns : List Int), xs = [.ref p] /\ SqT X.K H p (ns.map V.int) /\ Q (.int ns.sum) H) := by
 intro pins s σ H xs us Q I r h
 obtain ⟨p, ns, rfl, hq, q⟩ := h
 obtain ⟨u, rfl, rx⟩ := fz r
 cases (show u = vY p from rx)
 obtain ⟨its, r', pl, hz⟩ := I.tuple hq
 have hi := qJ r'
 obtain ⟨ys, hy⟩ := hi.allInts.items
 have hn : numsOf its.toArray.toList = ns := by rw [show its.toArray.toList = its from rfl, hi.numsOf]
 rw [hy] at pl hn
 rw [nums_intItems] at hn
 refine ktm_sumG (I.ok.hd hc) pl fun h' tk t' hk => ?_
 rw [preSum_eq, qa (by simp), hn]
 exact ⟨.int ns.sum, H, I.kept hk, ⟨_, rfl⟩, q⟩
end
end L2
namespace L2
open PySem PySem.Spec PyProof.Rows
section
variable {X : Cx} {a b : Expr} {ta : TE}
def FO (xs ys : List V) : Bool := (xp (min xs.length ys.length)).all (fun j => eqV (xs.getD j .non) (ys.getD j .non)) && xs.length == ys.length
def DH (K : W.Frag) (neg : Bool) : R2 := fun x y H Q => ∃ p p' xs ys, x = .ref p /\ y = .ref p' /\ SqT K H p xs /\ SqT K H p' ys /\ xs.all da = true /\ ys.all da = true /\ Q (.bl (neg ^^ FO xs ys)) H
theorem qk {A : Around} {s : Shared} {xs ys : List V} {us vs : List Value} (r : Vals xs us) (r' : Vals ys vs) (fx : xs.all da = true) (fy : ys.all da = true) (j : Nat) (h1 : j < us.toArray.size) (h2 : j < vs.toArray.size) :
 SeqAt.EqAt A s us.toArray[j] vs.toArray[j] (eqV (xs.getD j .non) (ys.getD j .non)) := by
 have e1 : us[j]? = some us.toArray[j] := by simp at h1; simp [h1]
 have e2 : vs[j]? = some vs.toArray[j] := by simp at h2; simp [h2]
 have l1 : j < xs.length := by rw [r.length]; simpa using h1
 have l2 : j < ys.length := by rw [r'.length]; simpa using h2
 have g1 : xs[j]? = some (xs.getD j .non) := by simp [List.getD, l1]
 have g2 : ys[j]? = some (ys.getD j .non) := by simp [List.getD, l2]
 obtain ⟨u, hu, ru⟩ := r.get g1
 obtain ⟨v, hv, rv⟩ := r'.get g2
 rw [e1] at hu
 rw [e2] at hv
 rw [nc hu, nc hv]
 exact xW ru rv (Zo.mp fx _ (tM g1)) (Zo.mp fy _ (tM g2))
theorem F0 (hu : X.A.units < cLine) : OpR X (pZ .Eq) (DH X.K false) := by
 intro pins s σ H x y v u Q I rx ry h
 obtain ⟨p, p', xs, ys, rfl, rfl, hx, hy, fx, fy, q⟩ := h
 cases (show v = vY p from rx)
 cases (show u = vY p' from ry)
 obtain ⟨its, r, pl, hz⟩ := I.tuple hx
 obtain ⟨its', r', pl', hz'⟩ := I.tuple hy
 refine SeqAt.eq_tupleAt pl pl' hu (fun j h1 h2 => qk r r' fx fy j h1 h2) ⟨.bl _, H, I, rfl, ?_⟩
 rw [yY, yY, <- r.length, <- r'.length]
 simpa [FO] using q
theorem EZ (hu : X.A.units < cLine) : OpR X (pZ .NotEq) (DH X.K true) := by
 intro pins s σ H x y v u Q I rx ry h
 obtain ⟨p, p', xs, ys, rfl, rfl, hx, hy, fx, fy, q⟩ := h
 cases (show v = vY p from rx)
 cases (show u = vY p' from ry)
 obtain ⟨its, r, pl, hz⟩ := I.tuple hx
 obtain ⟨its', r', pl', hz'⟩ := I.tuple hy
 refine SeqAt.RcNeAt.tuples pl pl' hu (fun j h1 h2 => qk r r' fx fy j h1 h2) X.prog X.w X.xe _ ⟨.bl _, H, I, rfl, ?_⟩
 rw [yY, yY, <- r.length, <- r'.length]
 simpa [FO] using q
theorem FV (hu : X.A.units < cLine) : OpR X (pZ .Eq) (fun x y H Q => rEq x y H Q \/ DH X.K false x y H Q) := GM.or (F0 hu)
theorem EW (hu : X.A.units < cLine) : OpR X (pZ .NotEq) (fun x y H Q => rNe x y H Q \/ DH X.K true x y H Q) := Ho.or (EZ hu)
theorem AE : CallR X (.builtin "isinstance") (fun xs H Q => (∃ x c t u b, xs = [x, c] /\ AI c u /\ lJ X.K H x t /\ Zp X.K t u = some b /\ Q (.bl b) H) \/
 ∃ e c C u b, xs = [.ref e, c] /\ AI c u /\ H e = some (iU (.ref C) e) /\ hJ X.K C /\ Zp X.K (.ref C) u = some b /\ Q (.bl b) H) := wT.or vx
end
end L2
namespace L2
open PySem PySem.Spec PyProof.Rows
abbrev T (l : List Nat) : V := .str ⟨⟨l⟩⟩
def cs (x : Str) : List Nat := x.cps.toList
theorem HI (x : Str) : V.str x = T (cs x) := rfl
section
variable {X : Cx} {e a b c : Expr} {pos : Pos}
theorem PE.imp {t t' : TE} (h : PE X e t) (i : ∀ σ H Q, t' σ H Q -> t σ H Q) : PE X e t' := fun pins s σ H Q I q => h pins s σ H Q I (i σ H Q q)
theorem OpR.imp {f : Value -> Value -> Sem Value} {r r' : R2} (h : OpR X f r) (i : ∀ x y H Q, r' x y H Q -> r x y H Q) : OpR X f r' := fun pins s σ H x y v u Q I rx ry q => h pins s σ H x y v u Q I rx ry (i _ _ _ _ q)
theorem UnR.imp {f : Value -> Sem Value} {r r' : V -> Hp -> VK -> Prop} (h : UnR X f r) (i : ∀ x H Q, r' x H Q -> r x H Q) : UnR X f r' := fun pins s σ H x v Q I rx q => h pins s σ H x v Q I rx (i _ _ _ q)
theorem CallR.imp {f : Value} {r r' : List V -> Hp -> VK -> Prop} (h : CallR X f r) (i : ∀ x H Q, r' x H Q -> r x H Q) : CallR X f r' := fun pins s σ H x v Q I rx q => h pins s σ H x v Q I rx (i _ _ _ q)
theorem IxR.imp {r r' : R2} (h : IxR X r) (i : ∀ x y H Q, r' x y H Q -> r x y H Q) : IxR X r' := fun va sl pins s σ H x y v u Q I rx ry q hs => h va sl pins s σ H x y v u Q I rx ry (i _ _ _ _ q) hs
def Ct (i : Nat) : TE := fun σ H Q => match σ[i]? with
 | some (some v) => Q v H
 | _ => False
theorem fv (i : Nat) {x : Str} (hN : X.N[i]? = some x := by rfl) (hv : Vis X.env.scope x := by first | exact Or.inl rfl | exact Or.inr (Or.inl rfl) | exact Or.inr (Or.inr rfl)) (hd : (x == ("__debug__" : Str)) = false := by decide)
 (hcd : (x == ("__classdict__" : Str)) = false := by decide) : PE X (.Name x pos) (Ct i) := (FY hN hv hd hcd).imp fun σ H Q h => by
 unfold Ct at h
 split at h
 ·exact ⟨_, by assumption, h⟩
 ·exact h.elim
theorem aq {x : Str} {j} (l : List Nat) (h : x = ⟨⟨l⟩⟩ := by decide +kernel) : PE X (.Constant (.str x) j pos) (tC (T l)) := h ▸ E2
def E9 : R2
 | .int i, .int j, H, Q => Q (.int (i + j)) H
 | .str i, .str j, H, Q => (cs i).length + (cs j).length <= sizeLine /\ Q (T (cs i ++ cs j)) H
 | _, _, _, _ => False
theorem Fh (i j : Str) : V.str (i ++ j) = T (cs i ++ cs j) := by
 show V.str ⟨i.cps ++ j.cps⟩ = V.str ⟨⟨i.cps.toList ++ j.cps.toList⟩⟩
 congr 1
 congr 1
 exact (Array.ext' (by simp))
theorem aH : OpR X (binaryOp .Add) E9 := (FG.or xF).imp fun x y H Q h => by
 unfold E9 at h
 split at h
 ·exact .inl ⟨_, _, rfl, rfl, h⟩
 ·refine .inr ⟨_, _, rfl, rfl, by simpa [cs, YW] using h.1, ?_⟩
  rw [Fh]; exact h.2
 ·exact h.elim
def gI (g : Int -> Int -> V) : R2
 | .int i, .int j, H, Q => Q (g i j) H
 | _, _, _, _ => False
def gIC (C : Int -> Int -> Prop) (g : Int -> Int -> V) : R2
 | .int i, .int j, H, Q => C i j /\ Q (g i j) H
 | _, _, _, _ => False
theorem EN {g : Int -> Int -> V} : ∀ x y H Q, gI g x y H Q -> rI0 g x y H Q := fun x y H Q h => by
 unfold gI at h; split at h
 ·exact ⟨_, _, rfl, rfl, h⟩
 ·exact h.elim
theorem qv {C : Int -> Int -> Prop} {g : Int -> Int -> V} : ∀ x y H Q, gIC C g x y H Q -> rI C g x y H Q := fun x y H Q h => by
 unfold gIC at h; split at h
 ·exact ⟨_, _, rfl, rfl, h.1, h.2⟩
 ·exact h.elim
theorem cE : OpR X (binaryOp .Sub) (gI fun i j => .int (i - j)) := E0.imp EN
theorem cC : OpR X (binaryOp .Mult) (gIC CMul fun i j => .int (i * j)) := F5.imp qv
theorem aO : OpR X (binaryOp .Mod) (gIC (fun _ j => 0 < j) fun i j => .int (i % j)) := Gi.imp qv
theorem aP : OpR X (binaryOp .FloorDiv) (gIC DX fun i j => .int (i / j)) := D8.imp qv
theorem ju : OpR X (binaryOp .Pow) (gIC FZ fun i j => .int (i ^ j.toNat)) := E8.imp qv
def Dx : V -> Hp -> VK -> Prop
 | .int i, H, Q => Q (.int (-i)) H
 | _, _, _ => False
theorem ur : UnR X (unaryOp .USub) Dx := F4.imp fun x H Q h => by
 unfold Dx at h; split at h
 ·exact ⟨_, rfl, h⟩
 ·exact h.elim
def leN (a b : List Nat) : Bool := !decide (b < a)
theorem AH : OpR X (pZ .LtE) (fun x y H Q => ∃ i j, x = .str i /\ y = .str j /\ Q (.bl (leN (cs i) (cs j))) H) := by
 intro pins s σ H x y v u Q I rx ry h
 obtain ⟨i, j, rfl, rfl, q⟩ := h
 obtain ⟨t, rfl⟩ := rx
 obtain ⟨t', rfl⟩ := ry
 exact PySem.P.le_str ⟨.bl _, H, I, rfl, q⟩
def gLe : R2
 | .int i, .int j, H, Q => Q (.bl (decide (i <= j))) H
 | .str i, .str j, H, Q => Q (.bl (leN (cs i) (cs j))) H
 | _, _, _, _ => False
theorem fw : OpR X (pZ .LtE) gLe := (GN.or AH).imp fun x y H Q h => by
 unfold gLe at h; split at h
 ·exact .inl ⟨_, _, rfl, rfl, h⟩
 ·exact .inr ⟨_, _, rfl, rfl, h⟩
 ·exact h.elim
def gLt : R2
 | .int i, .int j, H, Q => Q (.bl (decide (i < j))) H
 | .str i, .str j, H, Q => Q (.bl (decide (cs i < cs j))) H
 | _, _, _, _ => False
theorem wH : OpR X (pZ .Lt) gLt := (GS.or AA).imp fun x y H Q h => by
 unfold gLt at h; split at h
 ·exact .inl ⟨_, _, rfl, rfl, h⟩
 ·exact .inr ⟨_, _, rfl, rfl, h⟩
 ·exact h.elim
theorem EG : OpR X (pZ .Gt) (gI fun i j => .bl (decide (j < i))) := Gy.imp EN
def eqS : V -> V -> Option Bool
 | .int i, .int j => some (decide (i = j))
 | .bl i, .bl j => some (decide (i = j))
 | .str i, .str j => some (decide (cs i = cs j))
 | .non, .non => some true
 | .non, .int _ => some false | .int _, .non => some false | .non, .bl _ => some false | .bl _, .non => some false | .non, .str _ => some false | .str _, .non => some false
 | .int _, .str _ => some false | .str _, .int _ => some false | .bl _, .str _ => some false | .str _, .bl _ => some false
 | _, _ => none
theorem yf (i j : Str) : V.str i = V.str j ↔ cs i = cs j := by
 constructor
 ·intro h; injection h with h; rw [h]
 ·intro h
  congr 1
  obtain ⟨⟨a⟩⟩ := i
  obtain ⟨⟨b⟩⟩ := j
  have h' : a = b := h
  rw [h']
theorem wO {x y : V} {k : Bool} (h : eqS x y = some k) : EV x y = true /\ decide (x = y) = k := by
 unfold eqS at h
 split at h <;> (first | cases h) <;> refine ⟨rfl, ?_⟩
 case h_1 i j => exact decide_eq_decide.mpr (by simp)
 case h_2 i j => exact decide_eq_decide.mpr (by simp)
 case h_3 i j => exact decide_eq_decide.mpr (yf i j)
 all_goals simp
variable {ta tb tc : TE} {rest : List Expr}
def kB (Q : Bool -> Hp -> Prop) : VK := fun x H => match x with
 | .bl k => Q k H
 | _ => False
def ww (t : TE) : TT := fun σ H Q => t σ H (kB Q)
theorem nO {Q : Bool -> Hp -> Prop} {x : V} {H : Hp} (h : kB Q x H) : ∃ k, x = .bl k /\ Q k H := by
 unfold kB at h
 split at h
 ·exact ⟨_, rfl, h⟩
 ·exact h.elim
theorem bE {op : CmpOp} {r : R2} (ho : OpR X (pZ op) r) (ha : PE X a ta) (hb : PE X b tb) (hm : Yd op b = false) : PT X (.Compare a [op] [b] pos) (ww (tOp r ta tb)) := by
 intro pins s σ H Q I h
 refine wpAny_isTrue_Compare1 (thn (ha pins s σ H _ I h) fun v s1 ⟨x, H1, I1, r1, q1⟩ => thn (hb pins s1 σ H1 _ I1 q1) fun u s2 ⟨y, H2, I2, r2, q2⟩ =>
  thn (ho pins s2 σ H2 x y v u _ I2 r1 r2 q2) fun c s3 ⟨z, H3, I3, r3, q3⟩ => ?_) hm
 obtain ⟨k, e, q3⟩ := nO q3
 subst e
 cases r3
 exact gS ⟨H3, I3, q3⟩
theorem w8 {op : CmpOp} {t : TE} (h : PC X op a b t) (h1 : Yd op b = false := by first | exact B9 _ (by decide) (by decide) | rfl) : PT X (.Compare a [op] [b] pos) (ww t) := by
 intro pins s σ H Q I hw
 refine wpAny_isTrue_Compare1 (thn (h pins s σ H _ I hw) fun v s1 h1 => thn h1 fun u s2 h2 => thn h2 fun c s3 ⟨x, H1, I1, r1, q1⟩ => ?_) h1
 obtain ⟨d, rfl, q⟩ := nO q1
 cases r1
 exact gS ⟨H1, I1, q⟩
theorem b_ {t : TE} (h : PE X e t) (he : ∀ whole, isTrue e X.env whole = (do let v <- whole; standAt e.pos; holding [v] (truthy v)) := by intro _; rfl) : PT X e (ww t) := by
 intro pins s σ H Q I hw
 refine isTrue_plain (thn (h pins s σ H _ I hw) fun v s1 ⟨x, H1, I1, r1, q1⟩ => ?_) (he _)
 obtain ⟨d, rfl, q⟩ := nO q1
 cases r1
 exact gS ⟨H1, I1, q⟩
def xx (r r' : R2) (ta tb tc : TE) : TE := fun σ H Q => ta σ H fun x H1 => tb σ H1 fun y H2 => r x y H2 (kB fun k H3 => if k = true then tc σ H3 fun w' H4 => r' y w' H4 Q else Q (.bl false) H3)
theorem jU {op op' : CmpOp} {r r' : R2} (ho : OpR X (pZ op) r) (ho' : OpR X (pZ op') r') (ha : PE X a ta) (hb : PE X b tb) (hc : PE X c tc)
 (hm : lastMarks [op, op'] [b, c] = false := by with_unfolding_all rfl) : PE X (.Compare a [op, op'] [b, c] pos) (xx r r' ta tb tc) := by
 intro pins s σ H Q I h
 refine Compare_chain (thn (ha pins s σ H _ I h) fun v s1 ⟨x, H1, I1, r1, q1⟩ => chain_link (thn (hb pins s1 σ H1 _ I1 q1) fun u s2 ⟨y, H2, I2, r2, q2⟩ =>
  thn (ho pins s2 σ H2 x y v u _ I2 r1 r2 q2) fun d s3 ⟨z, H3, I3, r3, q3⟩ => ?_)) hm
 obtain ⟨k, e, q3⟩ := nO q3
 subst e
 cases r3
 refine gS ?_
 cases k with
 | false => exact ite_ff ⟨.bl false, H3, I3, rfl, q3⟩
 | true => exact ite_tt (chain_last (thn (hc pins s3 σ H3 _ I3 q3) fun w' s4 ⟨z', H4, I4, r4, q4⟩ => ho' pins s4 σ H4 y z' u w' Q I4 r2 r4 q4))
theorem qB {op op' : CmpOp} {r r' : R2} (ho : OpR X (pZ op) r) (ho' : OpR X (pZ op') r') (ha : PE X a ta) (hb : PE X b tb) (hc : PE X c tc)
 (hm : lastMarks [op, op'] [b, c] = false := by with_unfolding_all rfl) : PT X (.Compare a [op, op'] [b, c] pos) (ww (xx r r' ta tb tc)) := by
 intro pins s σ H Q I h
 refine isTrue_chain (thn (ha pins s σ H _ I h) fun v s1 ⟨x, H1, I1, r1, q1⟩ => test_link (thn (hb pins s1 σ H1 _ I1 q1) fun u s2 ⟨y, H2, I2, r2, q2⟩ =>
  thn (ho pins s2 σ H2 x y v u _ I2 r1 r2 q2) fun d s3 ⟨z, H3, I3, r3, q3⟩ => ?_)) hm
 obtain ⟨k, e, q3⟩ := nO q3
 subst e
 cases r3
 refine gS ?_
 cases k with
 | false => exact ite_ff ⟨H3, I3, q3⟩
 | true =>
  refine ite_tt (test_last (thn (hc pins s3 σ H3 _ I3 q3) fun w' s4 ⟨z', H4, I4, r4, q4⟩ => thn (ho' pins s4 σ H4 y z' u w' _ I4 r2 r4 q4) fun d' s5 ⟨z2, H5, I5, r5, q5⟩ => ?_))
  obtain ⟨k2, e2, q5⟩ := nO q5
  subst e2
  cases r5
  exact gS ⟨H5, I5, q5⟩
def GE (ta tb : TE) : TE := fun σ H Q => ta σ H (kB fun c H1 => if c = true then tb σ H1 Q else Q (.bl false) H1)
def fOr (ta tb : TE) : TE := fun σ H Q => ta σ H (kB fun c H1 => if c = true then Q (.bl true) H1 else tb σ H1 Q)
def Hq (ta : TE) : TE := fun σ H Q => ta σ H (kB fun c H1 => Q (.bl (!c)) H1)
theorem dl (ha : PE X a ta) (hb : PE X (.BoolOp .And (b :: rest) pos) tb) : PE X (.BoolOp .And (a :: b :: rest) pos) (GE ta tb) := by
 intro pins s σ H Q I h
 refine BoolOp_and (thn (ha pins s σ H _ I h) fun v s1 ⟨x, H1, I1, r1, q1⟩ => ?_)
 obtain ⟨c, rfl, q1⟩ := nO q1
 cases r1
 refine gS ?_
 cases c with
 | true => exact hb pins s1 σ H1 Q I1 q1
 | false => exact ⟨.bl false, H1, I1, rfl, q1⟩
theorem tY (ha : PE X a ta) (hb : PE X (.BoolOp .Or (b :: rest) pos) tb) : PE X (.BoolOp .Or (a :: b :: rest) pos) (fOr ta tb) := by
 intro pins s σ H Q I h
 refine BoolOp_or (thn (ha pins s σ H _ I h) fun v s1 ⟨x, H1, I1, r1, q1⟩ => ?_)
 obtain ⟨c, rfl, q1⟩ := nO q1
 cases r1
 refine gS ?_
 cases c with
 | false => exact hb pins s1 σ H1 Q I1 q1
 | true => exact ⟨.bl true, H1, I1, rfl, q1⟩
theorem xC (ha : PE X a ta) : PE X (.UnaryOp .Not a pos) (Hq ta) := by
 intro pins s σ H Q I h
 refine UnaryOp_ (thn (ha pins s σ H _ I h) fun v s1 ⟨x, H1, I1, r1, q1⟩ => ?_)
 obtain ⟨c, rfl, q1⟩ := nO q1
 cases r1
 exact not_of (gS ⟨.bl (!c), H1, I1, rfl, q1⟩)
def Hu : List V -> Hp -> VK -> Prop
 | [.int i], H, Q => Q (.int (if i < 0 then -i else i)) H
 | _, _, _ => False
def Fv : List V -> Hp -> VK -> Prop
 | [.int i, .int j], H, Q => Q (.int (if j < i then j else i)) H
 | _, _, _ => False
theorem ya (hc : X.calm = true) : CallR X (.builtin "min") Fv := (Al hc).imp fun x H Q h => by
 unfold Fv at h; split at h
 ·exact ⟨_, _, rfl, h⟩
 ·exact h.elim
def E_ : List V -> Hp -> VK -> Prop
 | [.int i, .int j], H, Q => Q (.int (if j > i then j else i)) H
 | _, _, _ => False
theorem Fm (hc : X.calm = true) : CallR X (.builtin "max") E_ := (z_ hc).imp fun x H Q h => by
 unfold E_ at h; split at h
 ·exact ⟨_, _, rfl, h⟩
 ·exact h.elim
def DJ (K : W.Frag) : List V -> Hp -> VK -> Prop
 | [.str y], H, Q => (cs y).length <= sizeLine /\ Q (.int (cs y).length) H
 | [.ref p], H, Q => ∃ xs, (SqL K H p xs \/ SqT K H p xs) /\ Q (.int xs.length) H
 | _, _, _ => False
theorem Gb : CallR X (.builtin "len") (DJ X.K) := AS.imp fun x H Q h => by
 unfold DJ at h; split at h
 ·exact ⟨_, _, rfl, ⟨by simpa [cs, YW] using h.1, rfl⟩, by simpa [cs, YW] using h.2⟩
 ·obtain ⟨xs, hx, q⟩ := h
  rcases hx with hx | hx
  ·exact ⟨_, _, rfl, .inl ⟨xs, hx, rfl⟩, q⟩
  ·exact ⟨_, _, rfl, .inr ⟨xs, hx, rfl⟩, q⟩
 ·exact h.elim
def bJ (H : Hp) : V -> Option String
 | .non => some "NoneType"
 | .bl _ => some "bool"
 | .int _ => some "int"
 | .str _ => some "str"
 | .ref p => match H p with
  | some (.lst _) => some "list"
  | some (.frz _ (.lst _)) => some "list"
  | some (.tup _) => some "tuple"
  | some (.dK _) => some "dict"
  | _ => none
 | _ => none
def bW (t n : String) : Bool := t == n || (t == "bool" && n == "int")
def jL (t : String) : Prop := t = "NoneType" \/ t = "bool" \/ t = "int" \/ t = "str" \/ t = "list" \/ t = "tuple" \/ t = "dict"
theorem GO {K : W.Frag} {t n : String} (h : jL t) (hn : n = "int" \/ n = "bool" \/ n = "str" \/ n = "list" \/ n = "tuple" \/ n = "dict") : Zp K (.type t) (.type n) = some (bW t n) := by
 rcases h with rfl | rfl | rfl | rfl | rfl | rfl | rfl <;> rcases hn with rfl | rfl | rfl | rfl | rfl | rfl <;> kernel_rfl
theorem vL {K : W.Frag} {H : Hp} {x : V} {t : String} (h : bJ H x = some t) : lJ K H x (.type t) /\ jL t := by
 unfold bJ at h
 split at h
 ·cases h; exact ⟨.non, by simp [jL]⟩
 ·cases h; exact ⟨.bl _, by simp [jL]⟩
 ·cases h; exact ⟨.int _, by simp [jL]⟩
 ·cases h; exact ⟨.str _, by simp [jL]⟩
 ·split at h
  ·rename_i e; cases h; exact ⟨.lst e, by simp [jL]⟩
  ·rename_i e; cases h; exact ⟨.frz e, by simp [jL]⟩
  ·rename_i e; cases h; exact ⟨.tup e, by simp [jL]⟩
  ·rename_i e; cases h; exact ⟨.dK e, by simp [jL]⟩
  ·cases h
 ·cases h
def wQ (n : String) : Bool := n == "int" || n == "bool" || n == "str" || n == "list" || n == "tuple" || n == "dict"
def CZ (K : W.Frag) : List V -> Hp -> VK -> Prop
 | [x, .ty n], H, Q => (match bJ H x with
  | some t => wQ n = true /\ Q (.bl (bW t n)) H
  | none => ∃ e C b, x = .ref e /\ H e = some (iU (.ref C) e) /\ hJ K C /\ Zp K (.ref C) (.type n) = some b /\ Q (.bl b) H)
 | [.ref e, .ref D], H, Q => ∃ C b, H e = some (iU (.ref C) e) /\ hJ K C /\ Zp K (.ref C) (.ref D) = some b /\ Q (.bl b) H
 | _, _, _ => False
theorem EX : CallR X (.builtin "isinstance") (CZ X.K) := AE.imp fun xs H Q h => by
 unfold CZ at h
 split at h
 ·rename_i x n
  split at h
  ·rename_i t ht
   obtain ⟨ty, hb⟩ := vL (K := X.K) ht
   obtain ⟨hn, q⟩ := h
   refine .inl ⟨x, _, _, _, _, rfl, .ty n, ty, GO hb ?_, q⟩
   simpa [wQ, or_assoc] using hn
  ·obtain ⟨e, C, b, rfl, he, Z, k, q⟩ := h
   exact .inr ⟨e, _, C, _, b, rfl, .ty n, he, Z, k, q⟩
 ·rename_i e D
  obtain ⟨C, b, he, Z, k, q⟩ := h
  exact .inr ⟨e, _, C, _, b, rfl, .own D, he, Z, k, q⟩
 ·exact h.elim
end
section
variable {X : Cx} {a b : Expr} {ta tb : TE} {pos pos' : Pos}
def gIx (K : W.Frag) : R2
 | .str z, .int i, H, Q => (cs z).length <= sizeLine /\ (match atI (cs z) i with
  | some c => Q (T [c]) H
  | none => False)
 | .ref p, .int i, H, Q => ∃ xs v, (SqL K H p xs \/ SqT K H p xs) /\ atI xs i = some v /\ Q v H
 | _, _, _, _ => False
theorem E5 : IxR X (gIx X.K) := Fe.imp fun x y H Q h => by
 unfold gIx at h
 split at h
 ·obtain ⟨hz, h⟩ := h
  split at h
  ·rename_i c hc
   exact .inr (.inr ⟨_, _, c, rfl, rfl, by simpa [cs, YW] using hz, hc, h⟩)
  ·exact h.elim
 ·obtain ⟨xs, v, hs | hs, hv, q⟩ := h
  ·exact .inl ⟨_, xs, _, v, rfl, rfl, hs, hv, q⟩
  ·exact .inr (.inl ⟨_, xs, _, v, rfl, rfl, hs, hv, q⟩)
 ·exact h.elim
def qi (xs : List V) (H H1 : Hp) (Q : VK) : V -> Prop
 | .int i => (match atI xs i with
  | some (.ref q) => H q = none /\ (match H1 q with
   | some o => rC o = true /\ Q (.ref q) (upd H q o)
   | none => False)
  | some v => Q v H
  | none => False)
 | _ => False
def BE (ta : TA) (ti : TE) : TE := fun σ H Q => NoT H /\ ta σ H fun xs H1 => Same H H1 /\ xs.length <= sizeLine /\ ∀ p, H1 p = none -> ti σ (upd H1 p (.lst xs)) fun y H2 => H2 = upd H1 p (.lst xs) /\ qi xs H H1 Q y
theorem BV {xs : List V} {H H1 : Hp} {Q : VK} {y : V} {p : Addr} {o : HO} (s : Same H H1) (hp : H1 p = none) (h : qi xs H H1 Q y) : ∃ i v G, y = .int i /\ atI xs i = some v /\ Gc H G (upd H1 p o) /\ Q v G := by
 unfold qi at h
 have s2 : Same H (upd H1 p o) := s.trans (az o hp)
 split at h
 ·rename_i i
  split at h
  ·rename_i q hq
   obtain ⟨hn, h⟩ := h
   split at h
   ·rename_i o' ho'
    exact ⟨i, _, _, rfl, hq, Gc.one s2 hn (by rw [ar (ai ho' hp)]; exact ho') h.1, h.2⟩
   ·exact h.elim
  ·rename_i v _ hv
   exact ⟨i, v, H, rfl, hv, Gc.none s2, h⟩
  ·exact h.elim
 ·exact h.elim
theorem rz {es : List Expr} {t : TA} (ha : PA X es t) (hb : PE X b tb) (hs : zn b) : PE X (.Subscript (.List es pos') b pos) (BE t tb) := by
 intro pins s σ H Q I h
 obtain ⟨n, h⟩ := h
 refine Subscript_ (wpAny_List_spliced (thn (ha pos' pins s σ H _ I h) fun us s1 ⟨xs, H1, I1, r, sm, z, q⟩ => ⟨by rw [<- r.length]; exact z, ?_⟩))
 have hf : H1 s1.heap.objs.size = none := I1.hok.fresh (zM _)
 refine thn (hb pins _ σ (upd H1 s1.heap.objs.size (.lst xs)) _ (I1.laid (t' := s1.toks) (fun b u e => Heap.get?_push_of_some _ e) (zM _) ⟨z, us, 0, r, Heap.get?_push_size _ rfl⟩) (q _ hf)) fun u s3 ⟨y, H3, I3, ry, e, k⟩ => ?_
 subst e
 obtain ⟨i, v, G, rfl, hv, g, hq⟩ := BV (o := .lst xs) sm hf k
 exact thn (yM (.List es pos') b pins s3 σ _ (.ref _) (.int i) _ u (fun v' H' => v' = v /\ H' = upd H1 s1.heap.objs.size (.lst xs)) I3 rfl ry ⟨_, xs, i, v, rfl, rfl, SqL.of aj, hv, rfl, rfl⟩ (hs _ _))
  fun u' s4 ⟨v', H4, I4, r4, e1, e2⟩ => ⟨v, G, I.gc n (e2 ▸ I4) g, e1 ▸ r4, hq⟩
end
def sp0 (f : Hp -> VK -> XK -> Prop) : Sp := fun vs H Q E => match vs with
 | [] => f H Q E
 | _ => False
def sp1 (f : V -> Hp -> VK -> XK -> Prop) : Sp := fun vs H Q E => match vs with
 | [x] => f x H Q E
 | _ => False
def sp2 (f : V -> V -> Hp -> VK -> XK -> Prop) : Sp := fun vs H Q E => match vs with
 | [x, y] => f x y H Q E
 | _ => False
def sp3 (f : V -> V -> V -> Hp -> VK -> XK -> Prop) : Sp := fun vs H Q E => match vs with
 | [x, y, z] => f x y z H Q E
 | _ => False
def sp4 (f : V -> V -> V -> V -> Hp -> VK -> XK -> Prop) : Sp := fun vs H Q E => match vs with
 | [x, y, z, u] => f x y z u H Q E
 | _ => False
section
variable {vs : List V} {H : Hp} {Q : VK} {E : XK}
theorem sp1.inv {f} (h : sp1 f vs H Q E) : ∃ x, vs = [x] /\ f x H Q E := by
 unfold sp1 at h; split at h
 ·exact ⟨_, rfl, h⟩
 ·exact h.elim
theorem sp2.inv {f} (h : sp2 f vs H Q E) : ∃ x y, vs = [x, y] /\ f x y H Q E := by
 unfold sp2 at h; split at h
 ·exact ⟨_, _, rfl, h⟩
 ·exact h.elim
theorem sp3.inv {f} (h : sp3 f vs H Q E) : ∃ x y z, vs = [x, y, z] /\ f x y z H Q E := by
 unfold sp3 at h; split at h
 ·exact ⟨_, _, _, rfl, h⟩
 ·exact h.elim
theorem sp4.inv {f} (h : sp4 f vs H Q E) : ∃ x y z u, vs = [x, y, z, u] /\ f x y z u H Q E := by
 unfold sp4 at h; split at h
 ·exact ⟨_, _, _, _, rfl, h⟩
 ·exact h.elim
theorem sp1.len {f} (h : sp1 f vs H Q E) : vs.length = 1 := by obtain ⟨_, rfl, _⟩ := sp1.inv h; rfl
theorem sp2.len {f} (h : sp2 f vs H Q E) : vs.length = 2 := by obtain ⟨_, _, rfl, _⟩ := sp2.inv h; rfl
theorem sp3.len {f} (h : sp3 f vs H Q E) : vs.length = 3 := by obtain ⟨_, _, _, rfl, _⟩ := sp3.inv h; rfl
theorem sp4.len {f} (h : sp4 f vs H Q E) : vs.length = 4 := by obtain ⟨_, _, _, _, rfl, _⟩ := sp4.inv h; rfl
end
def asI (x : V) (f : Int -> Prop) : Prop := match x with
 | .int i => f i
 | _ => False
def asT (x : V) (f : List Nat -> Prop) : Prop := match x with
 | .str y => f (cs y)
 | _ => False
def asB (x : V) (f : Bool -> Prop) : Prop := match x with
 | .bl y => f y
 | _ => False
def asR (x : V) (f : Addr -> Prop) : Prop := match x with
 | .ref y => f y
 | _ => False
theorem asI.inv {x : V} {f : Int -> Prop} (h : asI x f) : ∃ i, x = .int i /\ f i := by
 unfold asI at h; split at h
 ·exact ⟨_, rfl, h⟩
 ·exact h.elim
theorem asT.inv {x : V} {f : List Nat -> Prop} (h : asT x f) : ∃ l, x = T l /\ f l := by
 unfold asT at h; split at h
 ·exact ⟨_, rfl, h⟩
 ·exact h.elim
theorem asR.inv {x : V} {f : Addr -> Prop} (h : asR x f) : ∃ i, x = .ref i /\ f i := by
 unfold asR at h; split at h
 ·exact ⟨_, rfl, h⟩
 ·exact h.elim
def asK (H : Hp) (x : V) (f : String -> Prop) : Prop := match bJ H x with
 | some t => f t
 | none => False
theorem asK.inv {H : Hp} {x : V} {f : String -> Prop} (h : asK H x f) : ∃ t, bJ H x = some t /\ jL t /\ f t := by
 unfold asK at h; split at h
 ·rename_i t ht
  exact ⟨t, ht, (vL (K := default) ht).2, h⟩
 ·exact h.elim
theorem asK.of {H : Hp} {x : V} {f : String -> Prop} {t : String} (e : bJ H x = some t) (h : f t) : asK H x f := by unfold asK; rw [e]; exact h
theorem BH {ns : List Int} {k : Int} (h0 : 0 <= k) (h1 : k < ns.length) : atI (ns.map V.int) k = some (.int (ns.getD k.toNat 0)) := by
 obtain ⟨j, rfl⟩ : ∃ j : Nat, k = j := ⟨k.toNat, by omega⟩
 refine a9 ?_
 have l : j < ns.length := by omega
 simp [List.getD, l]
theorem ug {ns : List Int} {H H1 : Hp} {Q : VK} {i : Int} (h0 : 0 <= i) (h1 : i < ns.length) (q : Q (.int (ns.getD i.toNat 0)) H) : qi (ns.map V.int) H H1 Q (.int i) := by
 unfold qi
 simp only [BH h0 h1]
 exact q
section
variable {X : Cx} (K : W.Frag)
theorem cb (h : X.K = K := by rfl) : CallR X (.builtin "isinstance") (CZ K) := h ▸ EX
theorem dM (h : X.K = K := by rfl) : CallR X (.builtin "len") (DJ K) := h ▸ Gb
theorem aD (h : X.K = K := by rfl) : IxR X (gIx K) := h ▸ E5
theorem Eg (h : X.K = K := by rfl) : SlR X (GZ K) := h ▸ FT
theorem DI {tg l : Expr} {tl : TE} (hl : PE X l tl) (h : X.K = K := by rfl) : PI X tg l (FK K tl) := h ▸ Fo hl
theorem bQ {tg l : Expr} {tl : TE} (hl : PE X l tl) (h : X.K = K := by rfl) : PI X tg l (rF K tl) := h ▸ D7 hl
end
theorem GL {H : Hp} {b : Bool} : bJ H (.bl b) = some "bool" := rfl
theorem Gn {H : Hp} {i : Int} : bJ H (.int i) = some "int" := rfl
theorem E4 {H : Hp} {s : Str} : bJ H (.str s) = some "str" := rfl
theorem Fd {H : Hp} : bJ H .non = some "NoneType" := rfl
theorem FW : wQ "int" = true := by decide
theorem pK : bW "NoneType" "int" = false := by decide
theorem vH : bW "bool" "int" = true := by decide
theorem yx : bW "int" "int" = true := by decide
theorem yc : bW "str" "int" = false := by decide
theorem wB : bW "list" "int" = false := by decide
theorem uN : bW "tuple" "int" = false := by decide
theorem wq : bW "dict" "int" = false := by decide
theorem CV : wQ "bool" = true := by decide
theorem oQ : bW "NoneType" "bool" = false := by decide
theorem uj : bW "bool" "bool" = true := by decide
theorem wE : bW "int" "bool" = false := by decide
theorem vW : bW "str" "bool" = false := by decide
theorem vz : bW "list" "bool" = false := by decide
theorem sQ : bW "tuple" "bool" = false := by decide
theorem uk : bW "dict" "bool" = false := by decide
theorem FS : wQ "str" = true := by decide
theorem pI : bW "NoneType" "str" = false := by decide
theorem wY : bW "bool" "str" = false := by decide
theorem yz : bW "int" "str" = false := by decide
theorem xN : bW "str" "str" = true := by decide
theorem wX : bW "list" "str" = false := by decide
theorem uK : bW "tuple" "str" = false := by decide
theorem wR : bW "dict" "str" = false := by decide
theorem D9 : wQ "list" = true := by decide
theorem ou : bW "NoneType" "list" = false := by decide
theorem vh : bW "bool" "list" = false := by decide
theorem wJ : bW "int" "list" = false := by decide
theorem wm : bW "str" "list" = false := by decide
theorem vy : bW "list" "list" = true := by decide
theorem sD : bW "tuple" "list" = false := by decide
theorem uE : bW "dict" "list" = false := by decide
theorem AW : wQ "tuple" = true := by decide
theorem mX : bW "NoneType" "tuple" = false := by decide
theorem r8 : bW "bool" "tuple" = false := by decide
theorem uG : bW "int" "tuple" = false := by decide
theorem uX : bW "str" "tuple" = false := by decide
theorem r6 : bW "list" "tuple" = false := by decide
theorem qW : bW "tuple" "tuple" = true := by decide
theorem sM : bW "dict" "tuple" = false := by decide
theorem Dm : wQ "dict" = true := by decide
theorem oW : bW "NoneType" "dict" = false := by decide
theorem vd : bW "bool" "dict" = false := by decide
theorem wZ : bW "int" "dict" = false := by decide
theorem w_ : bW "str" "dict" = false := by decide
theorem vn : bW "list" "dict" = false := by decide
theorem sF : bW "tuple" "dict" = false := by decide
theorem uJ : bW "dict" "dict" = true := by decide
theorem Hj {H : Hp} {b : Bool} {f : String -> Prop} : asK H (.bl b) f = f "bool" := rfl
theorem Gk {H : Hp} {i : Int} {f : String -> Prop} : asK H (.int i) f = f "int" := rfl
theorem F_ {H : Hp} {i : Str} {f : String -> Prop} : asK H (.str i) f = f "str" := rfl
theorem Gg {H : Hp} {f : String -> Prop} : asK H .non f = f "NoneType" := rfl
def Ck : Expr -> Bool
 | .Starred _ _ => false
 | _ => true
theorem AB {e : Expr} {es : List Expr} {env : Env} (h : Ck e = true) : starEach (e :: es) env = (false, eval e env) :: starEach es env := by
 cases e <;> first | rfl | cases h
structure FA (X : Cx) (es : List Expr) (t : TA) : Prop where
 pa : PA X es t
theorem ad {X : Cx} : FA X [] zR := ⟨EY⟩
theorem aa {X : Cx} {e : Expr} {es : List Expr} {te : TE} {t : TA} (ha : PE X e te) (hr : FA X es t) (h : Ck e = true := by rfl) : FA X (e :: es) (wG te t) := ⟨Di ha hr.pa (AB h)⟩
theorem DZ {H : Hp} {P : Hp -> Prop} : (∃ G, Gc H G H /\ P G) ↔ P H := by
 constructor
 ·rintro ⟨G, g, p⟩
  have e : G = H := by
   funext b
   cases h : H b with
   | none => exact g.b.free h
   | some o => exact g.a b o h
  rw [<- e]; exact p
 ·exact fun p => ⟨H, Gc.refl, p⟩
theorem Hw {CX : CXT} {P : Program} {w : World} {K : W.Frag} {mg : Str -> Option Value} {base : Heap} {N : List Str} {qual : Str} {scope : Scope} {f : Addr} {cd : Value} {A : Around} {outer : List Env} {s : Shared} {H : Hp} {E : XK} :
 (d7 CX P w K mg base N qual scope f cd A outer s H E).K = K := rfl
def isI : V -> Bool
 | .int _ => true
 | _ => false
def isS : V -> Bool
 | .str _ => true
 | _ => false
theorem vG {H : Hp} {x : V} {t : String} (h : bJ H x = some t) : (t == "int") = isI x := by
 unfold bJ at h
 split at h
 case h_5 => split at h <;> cases h <;> simp [isI]
 all_goals (cases h <;> simp [isI])
theorem Af {H : Hp} : Same H H ↔ True := ⟨fun _ => trivial, fun _ => Same.refl H⟩
theorem aJ {H : Hp} {p : Addr} {o : HO} (hN : NoT H) (d : oC o = true) : NoT (upd H p o) := hN.upd d
theorem Dw {i : Int} : isI (.int i) = true := rfl
theorem FC {i : Bool} : isI (.bl i) = false := rfl
theorem CL {i : Str} : isI (.str i) = false := rfl
theorem Ej {i : Addr} : isI (.ref i) = false := rfl
theorem Db  : isI (.non) = false := rfl
theorem DK {i : Int} : isS (.int i) = false := rfl
theorem E1 {i : Bool} : isS (.bl i) = false := rfl
theorem Ea {i : Str} : isS (.str i) = true := rfl
theorem CU {i : Addr} : isS (.ref i) = false := rfl
theorem DC  : isS (.non) = false := rfl
theorem Bo {H : Hp} (h : Ak H) : NoT H := fun b o e => by
 rcases h b with z | ⟨ob, xs, z⟩
 ·rw [e] at z; cases z
 ·rw [e] at z; cases z; rfl
def gcE (H : Hp) (E : XK) : XK := fun C d H' => ∃ G, Gc H G H' /\ E C d G
theorem Fun.okG {P : Program} {w : World} {K : W.Frag} {mg : Str -> Option Value} {base : Heap} {x qual : Str} {st : Stmt} {f : Addr} {fd : FuncData} {N ps : List Str} {k : Nat} {sp : Sp} (F : Fun K x qual st f fd) (S : aF N ps (ae st))
 (len : ∀ vs H Q E, sp vs H Q E -> vs.length = ps.length)
 (hbody : ∀ (cdv : Value) (A : Around) (outer : List Env) (s : Shared) (H : Hp) (vs : List V) (Q : VK) (E : XK), Room k (A.deeper (envOfC qual (ae st) s.heap.objs.size f cdv)) -> sp vs H Q E ->
  NoT H /\ ∃ t, PSs (d7 (XE P w) P w K mg base N qual (ae st) f cdv A outer s H (gcE H E)) (ay st) t /\ t { nx := fun _ H' => ∃ G, Gc H G H' /\ Q .non G, rt := fun v H' => ∃ G, Gc H G H' /\ Q v G } (iW N vs) H) : bg P w K mg base (XE P w) (k + 1) f fd ps sp := by
 have F' : bg P w K mg base (XE P w) (k + 1) f fd ps (fun vs H Q' E' => ∃ Q E, sp vs H Q E /\ Q' = (fun v H' => ∃ G, Gc H G H' /\ Q v G) /\ E' = gcE H E) := by
  refine F.okX S (fun vs H Q' E' ⟨Q, E, h, _⟩ => len vs H Q E h) (fun cdv A outer s H vs Q' E' hr h => ?_)
  obtain ⟨Q, E, h, rfl, rfl⟩ := h
  exact (hbody cdv A outer s H vs Q E hr h).2
 refine ⟨len, fun A outer s H args us vs Q E hr e0 hb r hsp => ?_⟩
 have nT : NoT H := by
  obtain ⟨oc, od, kV, doc, pm, an, cdv, ct, osl, rfl, lk, hcd⟩ := F.ex
  exact (hbody cdv A outer s H vs Q E (hr.deeper _) hsp).1
 refine codeAny_mono (F'.run A outer s H args us vs _ _ hr e0 hb r ⟨Q, E, hsp, rfl, rfl⟩) fun res s' h => ?_
 cases res with
 | error e =>
  obtain ⟨ea, C, rs, H', h1, h2, h3, un, hok, hrs, fly, G, g, q⟩ := h
  exact ⟨ea, C, rs, G, h1, h2, h3, un.gc g, HOk.gc nT e0.hok hok g, fun b hb => ⟨(hrs b hb).1, g.b.free (hrs b hb).2⟩, fly, q⟩
 | ok fl =>
  cases fl with
  | ret u =>
   obtain ⟨v, H', h1, h2, un, hok, rv, G, g, q⟩ := h
   exact ⟨v, G, h1, h2, un.gc g, HOk.gc nT e0.hok hok g, rv, q⟩
  | next => exact h
  | brk => exact h
  | cont => exact h
section
variable {K : W.Frag} {C D : Addr} {b : Bool} {cl : ClassData}
theorem tG (o : PySem.W.clsIn K D = some cl) (t : PySem.W.typeIn K (.ref D) = some (.type "type")) (m : Yc K C (.ref D) = some b) : PySem.W.kitCls K (.ref C) (.ref D) = some b := by
 unfold PySem.W.kitCls
 simp only [o, t, Option.isSome_some, beq_self_eq_true, Bool.and_self, if_true]
 exact m
theorem Az (o : PySem.W.clsIn K D = some cl) (t : PySem.W.typeIn K (.ref D) = some (.type "type")) (s : Yc K D (.type "BaseException") = some true) (m : Yc K C (.ref D) = some b) : PySem.W.exmOne K (.ref C) (.ref D) = some b := by
 unfold PySem.W.exmOne
 have e : PySem.W.subIn K (.ref D) (.type "BaseException") = some true := s
 rw [e, if_pos (by rfl)]
 exact tG o t m
theorem ig (o : PySem.W.clsIn K D = some cl) (t : PySem.W.typeIn K (.ref D) = some (.type "type")) (s : Yc K C (.ref C) = some true) (m : Yc K C (.ref D) = some b) : Zp K (.ref C) (.ref D) = some b := by
 unfold Zp
 by_cases e : ((vY C == vY D) = true)
 ·rw [if_pos e]
  have e' : C = D := vY.inj (beq_iff_eq.mp e)
  subst e'
  rw [s] at m; exact m
 ·rw [if_neg e]; exact tG o t m
theorem yu : PySem.W.kitMeta "ValueError" = true := by kernel_rfl
theorem zV (m : Yc K C (.type "ValueError") = some b) : Zp K (.ref C) (.type "ValueError") = some b := by
 unfold Zp
 rw [if_neg (by intro z; cases (beq_iff_eq.mp z))]
 unfold PySem.W.kitCls
 simp only [yu, if_true]
 exact m
end
theorem B3 {l : PySem.W.OpenLaw} {n k : Nat} {q : Program} {loose : List Str} {XP : (Str -> Option Value) -> Heap -> Prop} {YP : World -> Heap -> Prop} {d : DefRec} {K : Params -> W.Frag} {sp : W.Frag -> Sp} {x : Str}
 (hn : l.most = some n) (hn2 : n <= sizeLine) (hdf : d.params.defaults = []) (hr : Room k callerA)
 (hY : ∀ (w : World) (h : Heap), YP w h -> (K w.params).In h)
 (F : ∀ (w : World) (mg : Str -> Option Value) (fa : Addr) (h : Heap), (K w.params).In h -> h.Ns xf mg -> mg d.name = some (.ref fa) ->
  ∃ fd : FuncData, (∀ (s : Shared) (u : Value), BindsTo s fd ⟨[u], []⟩ [(x, u)]) /\
   ∀ base : Heap, (K w.params).In base -> base.Ns xf mg -> bg l.prog w (K w.params) mg base (XE l.prog w) k fa fd [x] (sp (K w.params)))
 (hsp : ∀ (K : W.Frag) (H : Hp) (a : Addr) (ns : List Int), ns.length <= n -> Ak H -> SqL K H a (ns.map V.int) -> sp K [.ref a] H (fun v _ => v = .bl true) fun _ _ _ => False) :
 PySem.W.WalkO q loose XP YP l.row.toRowW d [] (fun f vs => PySem.call f vs) :=
 DU (K := K) (CX := fun w => XE l.prog w) (sp := fun w => sp (K w.params)) hn hn2 hdf hr hY F (fun w H a ns h1 h2 h3 => hsp (K w.params) H a ns h1 h2 h3) fun w H s e s' ⟨_, _, _, _, _, _, _, _, _, _, _, z⟩ => z
end L2
namespace L2
open PySem PySem.Spec PyProof.Rows
section
variable {prog : Program} {w : World} {A : Around} {R : Result -> Shared -> Prop} {s : Shared}
theorem u9 {elt target iter : Expr} {ifs : List Expr} {scope : Scope} {pos : Pos} {it acc : Value} {env : Env} (I : Nat -> Shared -> Prop)
 (turn : ∀ n s, I n s -> wpAny (model prog w) A (pyNext it) (fun r s₁ => match r with
  | none => R (.ok .next) s₁
  | some v => wpAny (model prog w) A (letOwnedTupleGo target it v) (fun _ s₁' => wpAny (model prog w) A (assign target env v) (fun _ s₂ =>
   wpAny (model prog w) A (forIn ifs true fun c r => if r = true then do let ok <- isTrue c env (eval c env); pure (ForInStep.yield ok) else pure (ForInStep.yield r)) (fun ok s₃ =>
    if ok = true then wpAny (model prog w) A (eval elt env) (fun x s₄ =>
     wpAny (model prog w) A (call (.builtin "list.append") [acc, x]) (fun _ s₅ => ∃ m, m < n /\ I m s₅) (notedBy (model prog w) A env fun e s' => R (.error e) s') s₄) (notedBy (model prog w) A env fun e s' => R (.error e) s') s₃
    else ∃ m, m < n /\ I m s₃) (notedBy (model prog w) A env fun e s' => R (.error e) s') s₂) (notedBy (model prog w) A env fun e s' => R (.error e) s') s₁') (notedBy (model prog w) A env fun e s' => R (.error e) s') s₁) (notedBy (model prog w) A env fun e s' => R (.error e) s') s)
 (n : Nat) (h : I n s) :
 codeAny (model prog w) A (.compLoop (.ListComp elt [⟨target, iter, ifs, 0⟩] scope pos) 0 it acc env) R s := by
 refine codeAny_loop rfl I (fun n s hI => ?_) n h
 show wpAny _ A ((compTurn (.ListComp elt [⟨target, iter, ifs, 0⟩] scope pos) 0 it acc env).onRaise (fun x => do noteFrame x env; theTreesLotGoes x)) _ _ s
 refine wpAny_noted ?_
 rw [compTurn_list]
 refine zz (wpAny_standAt (zz (Zq (turn n s hI) (fun r s₁ h₁ => ?_) fun _ _ h' => h')))
 cases r with
 | none => exact yZ h₁
 | some v =>
  refine zz (Zq h₁ (fun _ s₁' h₁' => ?_) fun _ _ h' => h')
  refine zz (Zq h₁' (fun _ s₂ h₂ => zz (Zq h₂ (fun ok s₃ h₃ => ?_) fun _ _ h' => h')) fun _ _ h' => h')
  cases ok with
  | false => exact yZ ⟨rfl, h₃⟩
  | true =>
   exact zz (zz (Zq h₃ (fun x s₄ h₄ => zz (Zq h₄ (fun _ s₅ h₅ => yZ (yZ ⟨rfl, h₅⟩)) fun _ _ h' => h')) fun _ _ h' => h'))
end
def cP (X : Cx) (N : List Str) (scope : Scope) (cl : List (Str × Addr)) (C : Addr) (s₂ : Shared) (H₂ : Hp) (ex : List Addr) (pn : List (Addr × Obj)) : Cx :=
 { X with N := N, s₀ := s₂, H₀ := H₂, env := compEnvC scope cl C X.env, outer := X.stack, stack := X.stack, ex := ex, fn := fun _ => false, pn := pn, xe := fun _ _ => False }
structure CompScope (X : Cx) (scope : Scope) (cl : List (Str × Addr)) (x : Str) (fr : List Str) : Prop where
 clos : closureFor scope X.env = pure cl
 nocell : ∀ y ∈ scope.names, y.2 ≠ .cell
 kind : scope.kind = .function
 names : ∀ y ∈ scope.names, y.2 = .local -> scope.names.lookup y.1 = some .local
 own : scope.names.lookup x = some .local
 keys : ∀ y ∈ cl, y.1 ∈ fr
 cells : fr.map (fun y => cl.lookup y) = fr.map (fun y => X.env.cells.lookup y)
 kinds : ∀ y ∈ fr, X.env.kindOf y = some .cell \/ X.env.kindOf y = some .free
 kin : ∀ y ∈ fr, (relabel scope X.env).names.lookup y = some .cell \/ (relabel scope X.env).names.lookup y = some .free
 only : ∀ y, ((relabel scope X.env).names.lookup y = some .cell \/ (relabel scope X.env).names.lookup y = some .free) -> y ∈ fr
theorem xy {α : Type} {l : List (Str × α)} {y : Str} {c : α} (h : l.lookup y = some c) : (y, c) ∈ l := ZP h
theorem CompScope.cell {X : Cx} {scope : Scope} {cl : List (Str × Addr)} {x : Str} {fr : List Str} (S : CompScope X scope cl x fr) {y : Str} (h : y ∈ fr) : cl.lookup y = X.env.cells.lookup y := by
 have e := S.cells
 obtain ⟨i, hi, rfl⟩ := List.getElem_of_mem h
 have := congrArg (fun l => l[i]?) e
 simpa [hi] using this
theorem CompScope.sub {X : Cx} {scope : Scope} {cl : List (Str × Addr)} {x : Str} {fr : List Str} (S : CompScope X scope cl x fr) {y : Str} {c : Addr} (h : cl.lookup y = some c) : X.env.cells.lookup y = some c := by
 rw [<- S.cell (S.keys _ (xy h))]; exact h
def PTs (X : Cx) (ifs : List Expr) (t : TT) : Prop :=
 ∀ (pins : List (Addr × Obj)) (s : Shared) (σ : St) (H : Hp) (Q : Bool -> Hp -> Prop), Inv X pins σ H s -> t σ H Q ->
  wpAny (model X.prog X.w) X.A (forIn ifs true fun c r => if r = true then do let ok <- isTrue c X.env (eval c X.env); pure (ForInStep.yield ok) else pure (ForInStep.yield r)) (TP X pins σ Q) X.xe s
theorem cF {X : Cx} : PTs X [] (fun _ H Q => Q true H) := fun pins s σ H Q I h => wpAny_tests_nil ⟨H, I, h⟩
theorem pT {X : Cx} {c : Expr} {t : TT} (h : PT X c t) : PTs X [c] t := fun pins s σ H Q I hw => wpAny_tests_one (h pins s σ H Q I hw)
end L2
set_option maxHeartbeats 4000000
namespace MT
def isD (c : Nat) : Bool := decide (48 <= c) && decide (c <= 57)
def vl (t : List Nat) : Nat := t.foldl (fun n c => 10 * n + (c - 48)) 0
def nin (t : List Nat) : Nat := t.foldl (fun n c => if isD c then 10 * n + (c - 48) else n) 0
def fg (t : List Nat) : List Nat := if t.take 1 = [45] then t.drop 1 else t
def good (t : List Nat) : Prop := fg t ≠ [] /\ (∀ c ∈ fg t, isD c = true) /\ ((fg t).head? = some 48 -> t = [48])
end MT
namespace L2
open PySem PySem.Spec PyProof.Rows Builtin Builtin.Str
section
variable {X : Cx} {e a b c : Expr} {pos : Pos}
def gIn (neg : Bool) : R2
 | .str i, .str j, H, Q => (match cs i with
  | [c] => Q (.bl (neg ^^ decide (c ∈ cs j))) H
  | _ => False)
 | _, _, _, _ => False
theorem Cb {i : Str} {c : Nat} (h : cs i = [c]) : i = ⟨#[c]⟩ := by
 obtain ⟨⟨l⟩⟩ := i
 have h' : l = [c] := h
 rw [h']
def i7 (l : List Nat) (lo hi : Option Int) : List Nat := (l.drop (HT.sIx l.length 0 lo)).take (HT.sIx l.length l.length hi - HT.sIx l.length 0 lo)
def gSl : V -> Option Int -> Option Int -> Hp -> VK -> Prop
 | .str y, lo, hi, H, Q => (cs y).length <= sizeLine /\ Q (T (i7 (cs y) lo hi)) H
 | _, _, _, _, _ => False
theorem FX (lo hi : Option Int) (n : Nat) : YX lo hi 1 n = (xp (HT.sIx n n hi - HT.sIx n 0 lo)).map (HT.sIx n 0 lo + ·) := by
 obtain ⟨h1, h2, h3⟩ := nK lo hi n
 have e : YX lo hi 1 n = sliceRange (Yz lo hi none n).1 (Yz lo hi none n).2.1 1 := by
  unfold YX Yz
  cases lo <;> cases hi <;> rfl
 rw [e, h1, h2, sliceRange_one]
theorem Am (y : Str) (lo hi : Option Int) : V.str (Txt.slice y lo hi) = T (i7 (cs y) lo hi) := by
 have hl : y.length = (cs y).length := by simp [cs, YW]
 have ha : HT.sIx y.length 0 lo <= y.length := HT.sIx_le _ _ (o3 _) lo
 have hb : HT.sIx y.length y.length hi <= y.length := HT.sIx_le _ _ (zM _) hi
 unfold Txt.slice
 rw [FX]
 split
 ·rename_i h
  simp only [beq_self_eq_true, Z0, zc, Yv, beq_iff_eq] at h
  have e1 : HT.sIx y.length 0 lo = 0 := by omega
  have e2 : HT.sIx y.length y.length hi = y.length := by omega
  rw [HI]
  congr 3
  unfold i7
  rw [<- hl, e1, e2, List.drop_zero, Nat.sub_zero, hl, ZT]
 ·rw [pick_run]
  show V.str ⟨_⟩ = V.str ⟨⟨_⟩⟩
  unfold i7 cs
  rw [ZB]
  rfl
theorem lX : SlR X gSl := by
 intro pins s σ H x v vl vu lo hi sl Q I rx hs pl pu h
 unfold gSl at h
 split at h
 ·rename_i y
  obtain ⟨hz, q⟩ := h
  obtain ⟨t, rfl⟩ := rx
  have hz' : y.length <= sizeLine := by simpa [cs, YW] using hz
  refine ⟨"str", _, F.slot_str_getitem.lookup, typeIs_str _ _ _, ?_⟩
  have fin : ∀ t' k, EP X pins σ Q (.str (Txt.slice y lo hi) t') { s with toks := k } := fun t' k => ⟨.str (Txt.slice y lo hi), H, I.tok _, ⟨_, rfl⟩, by rw [Am]; exact q⟩
  cases pl with
  | none => cases pu with
   | none => exact Yo (l := none) (u := none) (st := none) hs rfl (post_val_or_str ⟨qM (Txt.slice_le y _ _) hz', fin⟩)
   | int j u => exact Yo (l := none) (u := some (j, u)) (st := none) hs rfl (post_val_or_str ⟨qM (Txt.slice_le y _ _) hz', fin⟩)
  | int i u' => cases pu with
   | none => exact Yo (l := some (i, u')) (u := none) (st := none) hs rfl (post_val_or_str ⟨qM (Txt.slice_le y _ _) hz', fin⟩)
   | int j u => exact Yo (l := some (i, u')) (u := some (j, u)) (st := none) hs rfl (post_val_or_str ⟨qM (Txt.slice_le y _ _) hz', fin⟩)
 ·exact h.elim
def Hx : V -> List V -> Hp -> VK -> Prop
 | .str x, [.str y], H, Q => (match cs y with
  | [c] => c ∈ cs x /\ ∀ i : Nat, (cs x)[i]? = some c -> Q (.int i) H
  | _ => False)
 | _, _, _, _ => False
def Cj : List V -> Hp -> VK -> Prop
 | [.int i], H, Q => Q (.int i) H
 | [.bl k], H, Q => Q (.int (if k then 1 else 0)) H
 | [.str x], H, Q => ((cs x) ≠ [] /\ (∀ c ∈ cs x, MT.isD c = true) /\ (cs x).length <= 640) /\ Q (.int (MT.vl (cs x))) H
 | _, _, _ => False
theorem sh : CallR X (.type "int") (fun xs H Q => ∃ x, xs = [.str x] /\ ((cs x) ≠ [] /\ (∀ c ∈ cs x, MT.isD c = true) /\ (cs x).length <= 640) /\ Q (.int (MT.vl (cs x))) H) := by
 intro pins s σ H xs us Q I r h
 obtain ⟨x, rfl, ⟨h0, hd, hl⟩, q⟩ := h
 obtain ⟨u, rfl, t, rfl⟩ := fz r
 have hl' : x.length <= 640 := by simpa [cs, YW] using hl
 have e : PySem.NumText.digitsVal x.cps.toList = MT.vl (cs x) := by
  unfold PySem.NumText.digitsVal MT.vl cs
  congr 1
  funext a c; omega
 have hn : intText? x = some ((MT.vl (cs x) : Nat) : Int) := by
  rw [PySem.intText_digits (fun c hc => by have := hd c hc; simpa [MT.isD] using this) h0 (by omega), e]
 exact PySem.W.KIN.call_text hn hl' ⟨.int _, H, I.tok _, ⟨_, rfl⟩, q⟩
theorem zv : CallR X (.type "int") Cj := (Av.or sh).imp fun xs H Q h => by
 unfold Cj at h; split at h
 ·exact .inl (.inl ⟨_, rfl, h⟩)
 ·exact .inl (.inr ⟨_, rfl, h⟩)
 ·exact .inr ⟨_, rfl, h.1, h.2⟩
 ·exact h.elim
end
end L2
namespace L2
open PySem PySem.Spec PyProof.Rows
def Its (x : Str) : It := ⟨fun i _ => i < x.cps.size, fun i H v H' => H' = H /\ ∃ c, x.cps[i]? = some c /\ v = .str ⟨#[c]⟩, fun i _ => x.cps.size <= i⟩
theorem Ca {P : Program} {w : World} {K : W.Frag} {tg : Expr} (x : Str) (t : Tok) (it : Addr) : wK P w K tg (Its x) [it] it (fun i h => h.IsStrIter it "str_ascii_iterator" x t i) where
 mem := by simp
 obj := fun i h st b hb => by
  have e : b = it := by simpa using hb
  subst e
  obtain ⟨o, e, c, d⟩ := st
  exact ⟨o, e, fun v z => by rw [d] at z; cases z⟩
 keep := fun i h h' st k => by
  obtain ⟨o, e, c, d⟩ := st
  exact ⟨o, k it (by simp) o e, c, d⟩
 item := by
  intro X hP hw hK hc i pins s σ H E I hf st hg
  subst hP hw hK
  have hg' : i < x.cps.size := hg
  obtain ⟨f0, f1, f2, f3, f4, f5⟩ := hf it (by simp)
  have hx : x.cps[i]? = some x.cps[i] := by simp [hg']
  refine wpAny_pyNext_ascii_item st hx fun h' st' sb => ?_
  have I1 : Inv X pins σ H { s with heap := h', toks := s.toks + 1 } := I.turned (fun b o hb e => (sb.2 b hb).trans e) f0 f1 f3 f4 f5
  obtain ⟨o, e, c, d⟩ := id st'
  exact ⟨_, rfl, rO (s := { s with heap := h', toks := s.toks + 1 }) e c d (by decide) ⟨.str ⟨#[x.cps[i]]⟩, H, I1, ⟨_, rfl⟩, ⟨rfl, _, hx, rfl⟩, st', fun b hb => (hf b hb).1⟩⟩
 done := by
  intro X hP hw hK hc i pins s σ H E I hf st hg
  subst hP hw hK
  have hg' : x.cps.size <= i := hg
  obtain ⟨f0, f1, f2, f3, f4, f5⟩ := hf it (by simp)
  have hx : x.cps[i]? = none := by simp [hg']
  exact wpAny_pyNext_ascii_end (I.ok.hd hc) st hx fun h' eb => ⟨rfl, I.turned (fun b o hb e => eb b o hb e) f0 f1 f3 f4 f5⟩
 self := fun _ _ _ _ _ st h => wpAny_pyIter_striter_ascii st h
def GC (tl : TE) : TI := fun σ H R => tl σ H fun v H1 => match v with
 | .str x => (∀ c ∈ cs x, c < 128) /\ R (Its x) H1
 | _ => False
theorem Fr {X : Cx} {tg l : Expr} {tl : TE} (hl : PE X l tl) : PI X tg l (GC tl) := by
 intro pins s σ H R I h
 refine thn (hl pins s σ H _ I h) fun v s1 ⟨y, H1, I1, r1, q⟩ => ?_
 dsimp only at q
 split at q
 ·rename_i x
  obtain ⟨ha, q⟩ := q
  obtain ⟨t, rfl⟩ := r1
  have ha' : x.cps.all (· < 128) = true := by
   rw [Array.all_eq_true]
   intro i hi
   exact decide_eq_true (ha _ (by unfold cs; rw [Array.mem_toList_iff]; exact Array.getElem_mem hi))
  refine wpAny_pyIter_ascii ha' ?_
  refine ⟨s1.heap.objs.size, [s1.heap.objs.size], _, _, H1, rfl, I1.kept (t' := s1.toks) fun b o e => Heap.get?_push_of_some _ e, Ca x t _, ⟨_, Heap.get?_push_size _ rfl, rfl, rfl⟩, fun b hb => ?_, q⟩
  have e : b = s1.heap.objs.size := by simpa using hb
  subst e
  exact I1.fpOk (zM _) (I1.hok.fresh (zM _))
 ·exact q.elim
section
variable {X : Cx}
def BN (i j : Int) : Prop := 0 < j /\ j.natAbs.log2 < 1000
theorem CA : OpR X (binaryOp .FloorDiv) (gIC BN fun i j => .int (i / j)) := by
 have h : OpR X (binaryOp .FloorDiv) (rI BN fun i j => .int (i / j)) := opI fun i j _ _ _ _ _ hc q => by
  have e : i / j = i.fdiv j := (Int.fdiv_eq_ediv_of_nonneg i (Int.le_of_lt hc.1)).symm
  rw [e] at q
  exact floordiv_int (Ne.symm (Int.ne_of_lt hc.1)) q (.inl (PyProof.noPylong_of_log2 (by have := hc.2; omega)))
 exact h.imp qv
theorem vK : ∀ {bs : List Bool} {us : List Value}, Vals (bs.map V.bl) us -> LSm.BoolsAre us bs
 | [], _, .nil => .nil
 | b :: r, _, .cons e t => by
  cases (show _ = Value.bool b from e)
  exact .cons b (vK t)
def FL (K : W.Frag) : List V -> Hp -> VK -> Prop
 | [.ref p], H, Q => ∃ bs : List Bool, SqL K H p (bs.map V.bl) /\ Q (.bl (bs.all id)) H
 | _, _, _ => False
theorem pO (K : W.Frag) (hc : X.calm = true) (hK : X.K = K := by rfl) : CallR X (.builtin "all") (FL K) := by
 subst hK
 intro pins s σ H xs us Q I r h
 unfold FL at h
 split at h
 ·rename_i p
  obtain ⟨bs, hq, q⟩ := h
  obtain ⟨u, rfl, rx⟩ := fz r
  cases (show u = vY p from rx)
  obtain ⟨its, rv, pl, hz⟩ := I.list hq
  have hne : p ≠ s.heap.objs.size := tB (by obtain ⟨_, e, _⟩ := pl.isList; exact xi e)
  have hb : LSm.BoolsAre its bs := vK rv
  refine call_all_walk (wpAny_pyIter_list pl.isList ?_)
  refine ⟨s.heap.objs.size, [s.heap.objs.size, p], [s.heap.objs.size], its.toArray.size, _, _, fun i => (bs[i]?).getD true, rfl, Walks.list (A := X.A.in1) (I.ok.hd hc) _ p hne its.toArray,
   ⟨⟨_, Heap.get?_push_size _ rfl, rfl, rfl⟩, pl.isList.push _⟩, fun i v s' Q' E' hP hQ => ?_, fun h' tk hk => ?_⟩
  ·obtain ⟨b, e, rfl⟩ := hb.get i v (by simpa using hP)
   simp only [e, Option.getD_some] at hQ
   exact gS hQ
  ·have e : ((xp its.toArray.size).all fun i => (bs[i]?).getD true) = bs.all id := by
    rw [yY, hb.length]; exact LSm.range_all bs
   rw [e]
   exact ⟨.bl (bs.all id), H, I.kept (LSm.kept_iter hk), rfl, q⟩
 ·exact h.elim
end
end L2
namespace L2
open PySem PySem.Spec PyProof.Rows Builtin Builtin.Str
def cX (sep : List Nat) : List (List Nat) -> List Nat
 | [] => []
 | [x] => x
 | x :: y :: r => x ++ sep ++ cX sep (y :: r)
theorem tV : ∀ ls : List (List Nat), cX [] ls = ls.flatten
 | [] => rfl
 | [x] => by simp [cX]
 | x :: y :: r => by rw [cX, tV (y :: r)]; simp
def S (l : List Nat) : Str := ⟨⟨l⟩⟩
theorem sV (sep : List Nat) : ∀ (r : List (List Nat)) (x : List Nat), ((r.map S).foldl (fun acc p => acc ++ (S sep).cps ++ p.cps) (S x).cps) = (S (cX sep (x :: r))).cps
 | [], x => rfl
 | y :: r, x => by
  rw [wW, List.foldl_cons]
  have e : (S x).cps ++ (S sep).cps ++ (S y).cps = (S (x ++ sep ++ y)).cps := by
   apply Array.ext'; simp [S]
  rw [e, sV sep r]
  congr 1
  cases r with
  | nil => rfl
  | cons z r' => unfold cX; simp [cX, List.append_assoc]
theorem zj (sep : List Nat) (ls : List (List Nat)) : Txt.join (S sep) (ls.map S) = S (cX sep ls) := by
 unfold Txt.join glued
 cases ls with
 | nil => rfl
 | cons x r =>
  show (⟨((x :: r).map S).drop 1 |>.foldl _ _⟩ : Str) = _
  rw [wW, List.drop_one, List.tail_cons, List.headD_cons, sV]
theorem zF : ∀ {ls : List (List Nat)} {us : List Value}, Vals (ls.map T) us -> StrsAre us (ls.map S)
 | [], _, .nil => .nil
 | l :: r, _, .cons e t => by
  obtain ⟨k, rfl⟩ := e
  exact .cons _ k (zF t)
def FH (sep : List Nat) (ls : List (List Nat)) : Prop := (ls.map ZN).sum + ls.length * sep.length <= 16777216
theorem Ds {sep : List Nat} {ls : List (List Nat)} (h : FH sep ls) : (((ls.map S).map (·.length)).sum + (ls.map S).length * (S sep).length <= 16777216) := by
 have e : (ls.map S).map (·.length) = ls.map ZN := by rw [vD]; apply Zr; intro l _; rfl
 rw [e, zc]; exact h
section
variable {X : Cx}
def BK (K : W.Frag) : V -> List V -> Hp -> VK -> Prop
 | .str x, [.ref p], H, Q => ∃ ls : List (List Nat), SqL K H p (ls.map T) /\ FH (cs x) ls /\ Q (T (cX (cs x) ls)) H
 | _, _, _, _ => False
theorem AZ (K : W.Frag) (hK : X.K = K := by rfl) : MtR X "str.join" (BK K) := by
 subst hK
 intro pins s σ H x xs v us Q I rx rs h
 unfold BK at h
 split at h
 ·rename_i y p
  obtain ⟨ls, hq, hf, q⟩ := h
  obtain ⟨t, rfl⟩ := rx
  obtain ⟨u, rfl, ru⟩ := fz rs
  cases (show u = vY p from ru)
  obtain ⟨its, rv, pl, hz⟩ := I.list hq
  refine join_list pl.isList (zF rv) (Ds hf) fun t' k => ?_
  exact ⟨.str (Txt.join y (ls.map S)), H, I.tok _, ⟨_, rfl⟩, by rw [show y = S (cs y) from rfl, zj]; exact q⟩
 ·exact h.elim
end
end L2
namespace PySem
open Sem (wp)
open Builtin Builtin.Str Builtin.Int
namespace F
end F
section
variable {prog : Program} {w : World} {A : Around} {E : Value -> Shared -> Prop} {s : Shared} {I : Addr} {fp wr : List Addr} {G : Array GenState -> Array GenState -> Prop} {n : Nat} {P : Nat -> Value -> Prop} {St : Nat -> Shared -> Prop}
end
end PySem
namespace L2
open PySem PySem.Spec PyProof.Rows Builtin Builtin.Str
section
variable {X : Cx} {o e : Expr} {to te : TE} {apos cpos p pos : Pos}
end
end L2
namespace L2
open PySem PySem.Spec PyProof.Rows Builtin Builtin.Str
section
variable {X : Cx}
structure CY (J : It) (vs : List V) : Prop where
 go : ∀ i H, i < vs.length -> J.go i H
 yld : ∀ i H x H', i < vs.length -> J.yld i H x H' -> H' = H /\ vs[i]? = some x
 stop : ∀ H, J.stop vs.length H
theorem CF (l : List Nat) : CY (Its ⟨⟨l⟩⟩) (l.map fun c => T [c]) := by
 refine ⟨fun i H h => by simpa [Its] using h, fun i H x H' _ y => ?_, fun H => by simp [Its]⟩
 obtain ⟨e, c, hc, rfl⟩ := y
 refine ⟨e, ?_⟩
 have : l[i]? = some c := by simpa using hc
 rw [List.getElem?_map, this]; rfl
theorem A7 (n : Nat) : CY (Itr 0 n) ((xp n).map fun k => .int (k : Nat)) := by
 refine ⟨fun i H h => by simpa [Itr] using h, fun i H x H' hi y => ?_, fun H => by simp [Itr]⟩
 obtain ⟨e, rfl⟩ := y
 refine ⟨e, ?_⟩
 have hi' : i < n := by simpa using hi
 simp [hi']
theorem oH {J : It} {vs : List V} (E : CY J vs) {σ' : St} {H1 : Hp} {Q : VK} {tt : TT} {te : TE} (C : Hp -> Prop) (p : V -> Bool) (f : V -> V) (hlen : vs.length <= sizeLine)
 (hp : ∀ x ∈ vs, ∀ H (R : Bool -> Hp -> Prop), C H -> R (p x) H -> tt (some x :: σ') H R) (hf : ∀ x ∈ vs, p x = true -> ∀ H (R : VK), C H -> R (f x) H -> te (some x :: σ') H R)
 (D : Addr) (hD : H1 D = none) (hC : ∀ ys, C (upd H1 D (.lst ys))) (q : Q (.ref D) (upd H1 D (.lst ((vs.filter p).map f)))) :
 ∃ W : Nat -> Nat -> List V -> Hp -> Prop, (∃ m, W 0 m [] (upd H1 D (.lst []))) /\
  ∀ i m ys H2, W i m ys H2 -> H2 D = some (.lst ys) /\ ((J.stop i H2 /\ Q (.ref D) H2) \/ (J.go i H2 /\ ∀ x H3, J.yld i H2 x H3 ->
   tt (some x :: σ') H3 fun b H4 => if b = true then te (some x :: σ') H4 fun y H5 => H5 D = some (.lst ys) /\ ys.length < sizeLine /\ ∃ m', m' < m /\ W (i + 1) m' (ys ++ [y]) (upd H5 D (.lst (ys ++ [y])))
    else ∃ m', m' < m /\ W (i + 1) m' ys H4)) := by
 refine ⟨fun i m ys H2 => m = vs.length - i /\ i <= vs.length /\ ys = ((vs.take i).filter p).map f /\ H2 = upd H1 D (.lst ys), ⟨vs.length, by simp, o3 _, by simp, rfl⟩, ?_⟩
 rintro i m ys H2 ⟨rfl, hi, hys, rfl⟩
 refine ⟨aj, ?_⟩
 by_cases hlt : i < vs.length
 ·refine .inr ⟨E.go i _ hlt, fun x H3 y => ?_⟩
  obtain ⟨e, hx⟩ := E.yld i _ x H3 hlt y
  subst e
  have hm : x ∈ vs := tM hx
  have htk : vs.take (i + 1) = vs.take i ++ [x] := by
   rw [ZQ, hx]; rfl
  have hyl : ys.length <= i := by
   rw [hys, zc]
   exact qM (Z6 _ _) (by simp [qK]; omega)
  refine hp x hm _ _ (hC _) ?_
  cases hb : p x with
  | true =>
   rw [if_pos rfl]
   refine hf x hm hb _ _ (hC _) ⟨aj, by omega, vs.length - (i + 1), by omega, rfl, hlt, ?_, ?_⟩
   ·rw [htk, Ze, sY, <- hys]
    simp [hb]
   ·funext z
    by_cases hz : z = D
    ·subst hz; rw [aj, aj]
    ·rw [ar hz, ar hz, ar hz]
  | false =>
   rw [if_neg xh]
   refine ⟨vs.length - (i + 1), by omega, rfl, hlt, ?_, rfl⟩
   rw [htk, Ze, sY, <- hys]
   simp [hb]
 ·have e : i = vs.length := by omega
  subst e
  refine .inl ⟨E.stop _, ?_⟩
  rw [ZT] at hys
  rw [hys]; exact q
end
theorem SqL.same {K : W.Frag} {H H' : Hp} {a : Addr} {xs : List V} (s : Same H H') (h : SqL K H a xs) : SqL K H' a xs := by
 rcases h with (h | ⟨o, h⟩) | h
 ·exact .inl (.inl (s _ _ h))
 ·exact .inl (.inr ⟨o, s _ _ h⟩)
 ·exact .inr h
theorem wx (g : Nat -> Nat) : ∀ l : List Nat, (l.map fun k => [g k]).flatten = l.map g
 | [] => rfl
 | a :: r => by rw [wW, List.flatten_cons, wx g r]; rfl
theorem zN (g : Nat -> Nat) : ∀ l : List Nat, ((l.map fun k => [g k]).map ZN).sum = l.length
 | [] => rfl
 | a :: r => by have := zN g r; simp only [wW, Zn, sX, Yi, this]; omega
theorem AV {K : W.Frag} {H1 : Hp} {D : Addr} {Q : VK} (l : List Nat) (g : Nat -> Nat) (hs : H1 D = some (.lst (l.map fun k => T [g k]))) (hl : l.length <= 1000) (q : Q (T (l.map g)) H1) : BK K (T []) [.ref D] H1 Q := by
 refine ⟨l.map fun k => [g k], SqL.of (by rw [hs, vD]; rfl), ?_, ?_⟩
 ·unfold FH; rw [zN]; simp [cs]; omega
 ·show Q (T (cX [] _)) H1
  rw [tV, wx]; exact q
theorem rS {P : Program} {w : World} {X : Cx} : eQ (XE P w) X (fun _ _ _ _ => False) := fun _ _ _ _ _ _ _ ⟨_, _, _, _, _, _, _, _, _, _, _, q⟩ => q.elim
def Bx : Option NameKind -> Bool
 | some .cell => true
 | some .free => true
 | _ => false
theorem wV {k : Option NameKind} : Bx k = true ↔ (k = some .cell \/ k = some .free) := by
 cases k with
 | none => simp [Bx]
 | some k => cases k <;> simp [Bx]
theorem bU {cl : List (Str × Addr)} {fr : List Str} (h : (cl.map (·.1)).all (fun y => fr.elem y) = true) : ∀ y ∈ cl, y.1 ∈ fr := fun y hy => by
 have := Zo.mp h y.1 (List.mem_map_of_mem hy)
 simpa using this
theorem aL {fr : List Str} {k : Str -> Option NameKind} (h : fr.all (fun y => Bx (k y)) = true) : ∀ y ∈ fr, k y = some .cell \/ k y = some .free := fun y hy => wV.mp (Zo.mp h y hy)
theorem bS {names : List (Str × NameKind)} {fr : List Str} (h : names.all (fun p => !Bx (some p.2) || fr.elem p.1) = true) : ∀ y, (names.lookup y = some .cell \/ names.lookup y = some .free) -> y ∈ fr := fun y hy => by
 have hy' := wV.mpr hy
 cases e : names.lookup y with
 | none => rw [e] at hy'; cases hy'
 | some k =>
  rw [e] at hy'
  have := Zo.mp h (y, k) (ZP e)
  simpa [hy'] using this
end L2
namespace L2
open PySem PySem.Spec PyProof.Rows Builtin Builtin.Str
section
variable {X : Cx} {pos : Pos}
theorem FU {pins : List (Addr × Obj)} {σ : St} {H : Hp} {s : Shared} (I : Inv X pins σ H s) : ZK < s.heap.objs.size :=
 Nat.lt_trans (by decide) (show xf < s.heap.objs.size from (I.mod.glob.keeps I.bk).lt)
def EA : TE := fun _ H Q => ∀ p, H p = none -> Q (.ref p) (upd H p (.dK []))
theorem uq : PE X (.Dict [] [] pos) EA := by
 intro pins s σ H Q I h
 have new : ObjOk X.prog X.w (upd H s.heap.objs.size (.dK [])) (s.heap.push { cls := .type "dict", data := .dict #[] }) s.heap.objs.size (.dK []) :=
  ⟨o3 _, beq_eq_false_iff_ne.mpr (Ne.symm (tB (FU I))), [], .nil, Heap.DictOf.new s.heap⟩
 exact wpAny_Dict_empty ⟨.ref s.heap.objs.size, _, I.laid (t' := s.toks) (fun _ _ q => Heap.get?_push_of_some _ q) (zM _) new, rfl, h _ (I.hok.fresh (zM _))⟩
end
end L2
namespace L2
open PySem PySem.Spec PyProof.Rows Builtin Builtin.Str
section
variable {X : Cx}
structure Ba (C : Hp -> Prop) (J : It) (vs : List V) : Prop where
 go : ∀ i H, C H -> i < vs.length -> J.go i H
 yld : ∀ i H x H', C H -> i < vs.length -> J.yld i H x H' -> H' = H /\ vs[i]? = some x
 stop : ∀ H, C H -> J.stop vs.length H
theorem rm {J : It} {vs : List V} {σ' : St} {H1 : Hp} {Q : VK} {tt : TT} {te : TE} (C : Hp -> Prop) (E : Ba C J vs) (p : V -> Bool) (f : V -> V) (hlen : vs.length <= sizeLine)
 (hp : ∀ x ∈ vs, ∀ H (R : Bool -> Hp -> Prop), C H -> R (p x) H -> tt (some x :: σ') H R) (hf : ∀ x ∈ vs, p x = true -> ∀ H (R : VK), C H -> R (f x) H -> te (some x :: σ') H R)
 (D : Addr) (hD : H1 D = none) (hC : ∀ ys, C (upd H1 D (.lst ys))) (q : Q (.ref D) (upd H1 D (.lst ((vs.filter p).map f)))) :
 ∃ W : Nat -> Nat -> List V -> Hp -> Prop, (∃ m, W 0 m [] (upd H1 D (.lst []))) /\
  ∀ i m ys H2, W i m ys H2 -> H2 D = some (.lst ys) /\ ((J.stop i H2 /\ Q (.ref D) H2) \/ (J.go i H2 /\ ∀ x H3, J.yld i H2 x H3 ->
   tt (some x :: σ') H3 fun b H4 => if b = true then te (some x :: σ') H4 fun y H5 => H5 D = some (.lst ys) /\ ys.length < sizeLine /\ ∃ m', m' < m /\ W (i + 1) m' (ys ++ [y]) (upd H5 D (.lst (ys ++ [y])))
    else ∃ m', m' < m /\ W (i + 1) m' ys H4)) := by
 refine ⟨fun i m ys H2 => m = vs.length - i /\ i <= vs.length /\ ys = ((vs.take i).filter p).map f /\ H2 = upd H1 D (.lst ys), ⟨vs.length, by simp, o3 _, by simp, rfl⟩, ?_⟩
 rintro i m ys H2 ⟨rfl, hi, hys, rfl⟩
 refine ⟨aj, ?_⟩
 by_cases hlt : i < vs.length
 ·refine .inr ⟨E.go i _ (hC _) hlt, fun x H3 y => ?_⟩
  obtain ⟨e, hx⟩ := E.yld i _ x H3 (hC _) hlt y
  subst e
  have hm : x ∈ vs := tM hx
  have htk : vs.take (i + 1) = vs.take i ++ [x] := by
   rw [ZQ, hx]; rfl
  have hyl : ys.length <= i := by
   rw [hys, zc]
   exact qM (Z6 _ _) (by simp [qK]; omega)
  refine hp x hm _ _ (hC _) ?_
  cases hb : p x with
  | true =>
   rw [if_pos rfl]
   refine hf x hm hb _ _ (hC _) ⟨aj, by omega, vs.length - (i + 1), by omega, rfl, hlt, ?_, ?_⟩
   ·rw [htk, Ze, sY, <- hys]
    simp [hb]
   ·funext z
    by_cases hz : z = D
    ·subst hz; rw [aj, aj]
    ·rw [ar hz, ar hz, ar hz]
  | false =>
   rw [if_neg xh]
   refine ⟨vs.length - (i + 1), by omega, rfl, hlt, ?_, rfl⟩
   rw [htk, Ze, sY, <- hys]
   simp [hb]
 ·have e : i = vs.length := by omega
  subst e
  refine .inl ⟨E.stop _ (hC _), ?_⟩
  rw [ZT] at hys
  rw [hys]; exact q
theorem B6 {K : W.Frag} {C : Hp -> Prop} {a : Addr} {vs : List V} (h : ∀ H, C H -> SqT K H a vs) : Ba C (Itt K a) vs :=
 ⟨fun i H c hi => ⟨vs, vs[i], h H c, List.getElem?_eq_getElem hi⟩, fun i H x H' c _ y => ⟨y.1, y.2 vs (h H c)⟩, fun H c => ⟨vs, h H c, zM _⟩⟩
theorem Bc {K : W.Frag} {C : Hp -> Prop} {a : Addr} {vs : List V} (h : ∀ H, C H -> SqL K H a vs) : Ba C (Itl K a) vs :=
 ⟨fun i H c hi => ⟨vs, vs[i], h H c, List.getElem?_eq_getElem hi⟩, fun i H x H' c _ y => ⟨y.1, y.2 vs (h H c)⟩, fun H c => ⟨vs, h H c, zM _⟩⟩
end
end L2
namespace L2
open PySem PySem.Spec PyProof.Rows
section
variable {X : Cx} {K : W.Frag} {pos : Pos}
theorem iM (K : W.Frag) {es : List Expr} {k : Nat} {t : TGs} {n : Nat} (hc : X.calm = true) (h : PGs X es t) (hK : X.K = K := by rfl)
 (hn : (Yu es X.env).length = n := by rfl) (hst : (Yu es X.env).findIdx? (·.1) = none := by rfl) : PG X (.Tuple es k pos) (Dg K n t) := by
 subst hK; exact FN hc h hn hst
end
section
variable {X : Cx} {T name id : String} {r : V -> List V -> Hp -> VK -> Prop} {o e : Expr} {es : List Expr} {to : TE} {t : TA} {apos cpos : Pos}
theorem fM (K : W.Frag) (pa : PlainAttrs T) (slot : Slot T name id) (hty : typeOf (.builtin id) = pure (.type "method_descriptor")) (hm : MtR X id r) (ho : PE X o to) (ha : PA X (e :: es) t) (hK : X.K = K := by rfl)
 (hbase : YQ o name X.env (eval o X.env) = eval o X.env := by rfl)
 (hfew : ((backTo cpos (starEach (e :: es) X.env)).all (fun x => !x.1) && (backToKw cpos (keywordEach [] X.env)).all (fun x => x.1.isSome)
  && decide ((e :: es).length + ([] : List Keyword).length + (if ([] : List Keyword).isEmpty then 0 else 1) < 30)) = true := by rfl)
 (hline : (apos.endLine == cpos.line) = true := by rfl) (hs : starEach (e :: es) X.env = (false, eval e X.env) :: starEach es X.env := by rfl) (hplain : (backTo cpos (starEach es X.env)).any (·.1) = false := by rfl) :
 PE X (.Call (.Attribute o name apos) (e :: es) [] cpos) (tBM K T r to t) := by
 subst hK; exact GX pa slot hty hm ho ha hbase hfew hline hs hplain
end
section
variable {K : W.Frag} {tl : TE} {ks : List Nat} {σ : St} {H : Hp} {Q : VK} {tt : TT} {te : TE}
end
end L2
namespace L2
end L2
namespace L2
open PySem PySem.Spec PyProof.Rows Builtin Builtin.Str
def spN (c : Nat) : List Nat -> List (List Nat)
 | [] => [[]]
 | a :: r => if a = c then [] :: spN c r else match spN c r with
  | h :: t => (a :: h) :: t
  | [] => [[a]]
theorem qT (c : Nat) : ∀ l, spN c l ≠ []
 | [] => by simp [spN]
 | a :: r => by
  unfold spN
  split
  ·simp
  ·split <;> simp
theorem qc (c : Nat) : ∀ l : List Nat, c ∉ l -> spN c l = [l]
 | [], _ => rfl
 | a :: r, h => by
  have h1 : ¬ a = c := fun z => h (by rw [z]; simp)
  have h2 : c ∉ r := fun z => h (tj _ z)
  unfold spN
  rw [if_neg h1, qc c r h2]
theorem zg (c : Nat) : ∀ (l r : List Nat), c ∉ l -> spN c (l ++ c :: r) = l :: spN c r
 | [], r, _ => by simp [spN]
 | a :: l, r, h => by
  have h1 : ¬ a = c := fun z => h (by rw [z]; simp)
  have h2 : c ∉ l := fun z => h (tj _ z)
  rw [Z2]
  show (if a = c then _ else _) = _
  rw [if_neg h1, zg c l r h2]
theorem qF (c : Nat) : ∀ ps : List (List Nat), ps ≠ [] -> (∀ p ∈ ps, c ∉ p) -> spN c (cX [c] ps) = ps
 | [], h, _ => absurd rfl h
 | [p], _, h => qc c p (h p (by simp))
 | p :: q :: r, _, h => by
  rw [cX, List.append_assoc, List.singleton_append, zg c p _ (h p (by simp)), qF c (q :: r) (by simp) fun x hx => h x (tj _ hx)]
theorem xl (c : Nat) : ∀ l : List Nat, cX [c] (spN c l) = l
 | [] => rfl
 | a :: r => by
  have ih := xl c r
  unfold spN
  split
  ·rename_i e
   cases es : spN c r with
   | nil => exact absurd es (qT c r)
   | cons h t => rw [es] at ih; rw [cX, ih, e]; rfl
  ·cases es : spN c r with
   | nil => exact absurd es (qT c r)
   | cons h t =>
    rw [es] at ih
    cases t with
    | nil => simp [cX] at ih |-; exact ih
    | cons h2 t => rw [cX] at ih |-; rw [<- ih]; simp
theorem j7 (c : Nat) : ∀ (l : List Nat), ∀ p ∈ spN c l, c ∉ p
 | [], p, hp => by simp [spN] at hp; rw [hp]; simp
 | a :: r, p, hp => by
  unfold spN at hp
  split at hp
  ·rcases ze.mp hp with h | h
   ·rw [h]; simp
   ·exact j7 c r p h
  ·rename_i hne
   split at hp
   ·rename_i h t es
    rcases ze.mp hp with e | e
    ·rw [e]
     have := j7 c r h (by rw [es]; simp)
     simp only [ze, not_or]
     exact ⟨fun z => hne z.symm, this⟩
    ·exact j7 c r p (by rw [es]; exact tj _ e)
   ·rename_i es; exact absurd es (qT c r)
theorem uy (c : Nat) : ∀ l : List Nat, (spN c l).length <= l.length + 1
 | [] => by simp [spN]
 | a :: r => by
  have ih := uy c r
  unfold spN
  split
  ·simp; omega
  ·split
   ·rename_i es; rw [es] at ih; simp at ih |-; omega
   ·simp
theorem pP (c : Nat) : ∀ l : List Nat, ∀ p ∈ spN c l, p.length <= l.length /\ ∀ d ∈ p, d ∈ l
 | [], p, hp => by simp [spN] at hp; rw [hp]; simp
 | a :: r, p, hp => by
  unfold spN at hp
  split at hp
  ·rcases ze.mp hp with h | h
   ·rw [h]; simp
   ·obtain ⟨h1, h2⟩ := pP c r p h
    exact ⟨by rw [sX]; omega, fun d hd => tj _ (h2 d hd)⟩
  ·split at hp
   ·rename_i h t es
    rcases ze.mp hp with e | e
    ·obtain ⟨h1, h2⟩ := pP c r h (by rw [es]; simp)
     rw [e]
     refine ⟨by rw [sX, sX]; omega, fun d hd => ?_⟩
     rcases ze.mp hd with z | z
     ·rw [z]; simp
     ·exact tj _ (h2 d z)
    ·obtain ⟨h1, h2⟩ := pP c r p (by rw [es]; exact tj _ e)
     exact ⟨by rw [sX]; omega, fun d hd => tj _ (h2 d hd)⟩
   ·rename_i es; exact absurd es (qT c r)
theorem BY (x y : Str) : Txt.split x y ≠ [] := by
 unfold Txt.split
 split
 ·simp
 ·split
  ·simp
  ·rw [StrLaws.partsBetween_eq]
   obtain ⟨p, r, e⟩ := StrLaws.partsFrom_ne x y.length 0 (occurrences x y 0 x.length (x.length + 1))
   rw [e]; simp
theorem wN (l : List Nat) (c : Nat) : (Txt.split ⟨⟨l⟩⟩ ⟨#[c]⟩).map (fun x => cs x) = spN c l := by
 have h1 := StrLaws.join_split ⟨⟨l⟩⟩ ⟨#[c]⟩
 have h2 := StrLaws.split_free ⟨⟨l⟩⟩ c
 have h0 := BY ⟨⟨l⟩⟩ ⟨#[c]⟩
 generalize Txt.split ⟨⟨l⟩⟩ ⟨#[c]⟩ = ps at h0 h1 h2
 have hj : cX [c] (ps.map fun x => cs x) = l := by
  have e : ps = (ps.map fun x => cs x).map S := by rw [vD]; conv => lhs; rw [<- List.map_id ps]
                                                   apply Zr; intro x _; rfl
  rw [e] at h1
  have h3 : Str.join (S [c]) ((ps.map fun x => cs x).map S) = S (cX [c] (ps.map fun x => cs x)) := by
   have := zj [c] (ps.map fun x => cs x)
   exact (StrLaws.glued_eq_join _ _).symm.trans this
  have h4 : S (cX [c] (ps.map fun x => cs x)) = ⟨⟨l⟩⟩ := h3.symm.trans h1
  have h5 := congrArg cs h4
  exact h5
 have hne : (ps.map fun x => cs x) ≠ [] := by
  intro z
  exact h0 (List.map_eq_nil_iff.mp z)
 rw [<- hj, qF c _ hne]
 intro p hp
 obtain ⟨x, hx, rfl⟩ := rf.mp hp
 exact h2 x hx
section
variable {X : Cx} {e a b c : Expr} {pos : Pos}
def FP : V -> List V -> Hp -> VK -> Prop
 | .str x, [.str y], H, Q => (∃ c, cs y = [c] /\ (cs x).length + 2 <= sizeLine /\ ∀ p, H p = none -> Q (.ref p) (upd H p (.lst ((spN c (cs x)).map T))))
 | _, _, _, _ => False
theorem tT : ∀ (l : List (Str × Tok)), Vals (l.map fun p => V.str p.1) (strValues l)
 | [] => .nil
 | p :: r => .cons ⟨p.2, rfl⟩ (tT r)
theorem AN : MtR X "str.split" FP := by
 intro pins s σ H x xs v us Q I rx rs h
 unfold FP at h
 split at h
 ·rename_i x y
  obtain ⟨c, hc, hz, q⟩ := h
  obtain ⟨t, rfl⟩ := rx
  obtain ⟨u, rfl, t', rfl⟩ := fz rs
  have hy := Cb hc
  subst hy
  obtain ⟨⟨l⟩⟩ := x
  have hx : (⟨⟨l⟩⟩ : Str).length + 2 <= sizeLine := hz
  have fin : ∀ (l' : List (Str × Tok)) (k : Nat), l'.map (·.1) = Txt.split ⟨⟨l⟩⟩ ⟨#[c]⟩ -> EP X pins σ Q (.ref s.heap.objs.size) { s with toks := k, heap := s.heap.push { cls := .type "list", data := .seq (strValues l').toArray } } := fun l' k hl => by
   have e : (spN c l).map T = l'.map fun p => V.str p.1 := by
    rw [<- wN, <- hl, vD, vD]
    apply Zr
    intro p _; rfl
   have hlen : ((spN c l).map T).length <= sizeLine := by
    rw [zc]
    have := uy c l
    have hz' : l.length + 2 <= sizeLine := hz
    omega
   have hv : Vals ((spN c l).map T) (strValues l') := by rw [e]; exact tT l'
   exact ⟨.ref s.heap.objs.size, _, I.lnew (t' := k) hv hlen, rfl, q _ I.fresh⟩
  have hn : (partsBetween ⟨⟨l⟩⟩ (occurrences ⟨⟨l⟩⟩ ⟨#[c]⟩ 0 (⟨⟨l⟩⟩ : Str).length ((⟨⟨l⟩⟩ : Str).length + 1)) (⟨#[c]⟩ : Str).length).length <= sizeLine := by
   have e1 := StrLaws.occ_length_le ⟨⟨l⟩⟩ ⟨#[c]⟩ 0 (⟨⟨l⟩⟩ : Str).length ((⟨⟨l⟩⟩ : Str).length + 1)
   rw [length_partsBetween]; omega
  have hy : ((⟨#[c]⟩ : Str).length == 0) = false := rfl
  cases h1 : (decide ((⟨⟨l⟩⟩ : Str).length < (⟨#[c]⟩ : Str).length) || decide (strKind ⟨⟨l⟩⟩ < strKind ⟨#[c]⟩))
  ·cases hf : (occurrences ⟨⟨l⟩⟩ ⟨#[c]⟩ 0 (⟨⟨l⟩⟩ : Str).length ((⟨⟨l⟩⟩ : Str).length + 1)).isEmpty
   ·refine call_meets F.slot_str_split (typeIs_str _ _ _) F.entry_str_split (F.args_str_split_2 _ _) (meets_str_split_sep ⟨⟨l⟩⟩ ⟨#[c]⟩ t t' h1 hy hf (by omega) hn) ?_
    show wants _ _ _ { s with toks := _, heap := s.heap.push { cls := .type "list", data := .seq (strsFrom s.toks (partsBetween ⟨⟨l⟩⟩ (occurrences ⟨⟨l⟩⟩ ⟨#[c]⟩ 0 (⟨⟨l⟩⟩ : Str).length ((⟨⟨l⟩⟩ : Str).length + 1)) (⟨#[c]⟩ : Str).length)).toArray } }
    rw [strsFrom_eq]
    exact fin (numbered s.toks _) _ ((numbered_texts _ _).trans ((if_neg (ne_true_of_eq_false h1)).trans (if_neg (ne_true_of_eq_false hf))).symm)
   ·refine call_meets F.slot_str_split (typeIs_str _ _ _) F.entry_str_split (F.args_str_split_2 _ _) (meets_str_split_not_found ⟨⟨l⟩⟩ ⟨#[c]⟩ t t' h1 hy hf) ?_
    exact fin [(⟨⟨l⟩⟩, t)] s.toks ((if_neg (ne_true_of_eq_false h1)).trans (if_pos hf)).symm
  ·refine call_meets F.slot_str_split (typeIs_str _ _ _) F.entry_str_split (F.args_str_split_2 _ _) (meets_str_split_cannot_occur ⟨⟨l⟩⟩ ⟨#[c]⟩ t t' h1) ?_
   exact fin [(⟨⟨l⟩⟩, t)] s.toks (if_pos h1).symm
 ·exact h.elim
def sd : List Nat -> List Nat -> Bool
 | _, [] => true
 | [], _ :: _ => false
 | a :: l, b :: r => decide (a = b) && sd l r
theorem rh : ∀ (x y : List Nat), sd x y = true ↔ x.take y.length = y
 | x, [] => by simp [sd]
 | [], b :: r => by simp [sd]
 | a :: l, b :: r => by simp [sd, rh l r]
def Fb : V -> List V -> Hp -> VK -> Prop
 | .str x, [.str y], H, Q => Q (.bl (sd (cs x) (cs y))) H
 | _, _, _, _ => False
theorem Do (x y : Str) : (decide (0 + y.length <= x.length) && Builtin.Str.subAt x y 0) = sd (cs x) (cs y) := by
 obtain ⟨⟨l⟩⟩ := x
 obtain ⟨⟨r⟩⟩ := y
 rw [Yg, rh, sW]
 unfold Builtin.Str.subAt
 simp only [YW, cs, Nat.zero_add, decide_eq_true_eq, yY, beq_iff_eq]
 have e : (⟨l⟩ : Array Nat).extract 0 r.length = ⟨r⟩ ↔ l.take r.length = r := by
  constructor
  ·intro h
   have := congrArg Array.toList h
   simpa using this
  ·intro h
   apply Array.toList_inj.mp
   simpa using h
 constructor
 ·rintro ⟨_, h⟩; exact e.mp h
 ·intro h
  refine ⟨?_, e.mpr h⟩
  have := congrArg ZN h
  rw [qK] at this
  omega
theorem rQ : MtR X "str.startswith" Fb := by
 intro pins s σ H x xs v us Q I rx rs h
 unfold Fb at h
 split at h
 ·rename_i x y
  obtain ⟨t, rfl⟩ := rx
  obtain ⟨u, rfl, t', rfl⟩ := fz rs
  refine call_meets F.slot_str_startswith (typeIs_str _ _ _) F.entry_str_startswith (F.args_str_startswith_2 _ _) (gives_str_startswith _ y t t').meets ?_
  exact ⟨.bl _, H, I, rfl, by rw [Do]; exact h⟩
 ·exact h.elim
def Fw : R2
 | .ref l, .ref b, H, Q => ∃ xs zs, H l = some (.lst xs) /\ H b = some (.lst zs) /\ xs.length + zs.length <= sizeLine /\ ∀ p, H p = none -> Q (.ref p) (upd H p (.lst (xs ++ zs)))
 | _, _, _, _ => False
theorem xH : OpR X (binaryOp .Add) Fw := Ga.imp fun x y H Q h => by
 unfold Fw at h; split at h
 ·obtain ⟨xs, zs, h1, h2, h3, q⟩ := h
  exact ⟨_, _, xs, zs, rfl, rfl, h1, h2, h3, q⟩
 ·exact h.elim
theorem xm (K : W.Frag) (h : X.K = K := by rfl) : SlR X (GR K) := h ▸ Dq
def AR (K : W.Frag) : List V -> Hp -> VK -> Prop
 | [.ref p], H, Q => ∃ ys, (SqL K H p ys \/ SqT K H p ys) /\ ∀ l, H l = none -> Q (.ref l) (upd H l (.lst ys))
 | _, _, _ => False
theorem zK (K : W.Frag) (hK : X.K = K := by rfl) : CallR X (.type "list") (AR K) := by
 subst hK
 refine uC.imp fun xs H Q h => ?_
 unfold AR at h; split at h
 ·obtain ⟨ys, h1, q⟩ := h
  exact ⟨_, ys, rfl, h1, q⟩
 ·exact h.elim
def yd (K : W.Frag) : List V -> Hp -> VK -> Prop
 | [.ref p], H, Q => ∃ ys, (SqL K H p ys /\ ∀ l, H l = none -> Q (.ref l) (upd H l (.tup ys))) \/ (SqT K H p ys /\ Q (.ref p) H)
 | _, _, _ => False
theorem vF (K : W.Frag) (hK : X.K = K := by rfl) : CallR X (.type "tuple") (yd K) := by
 subst hK
 refine rY.imp fun xs H Q h => ?_
 unfold yd at h; split at h
 ·obtain ⟨ys, h1⟩ := h
  exact ⟨_, ys, rfl, h1⟩
 ·exact h.elim
inductive EqH (K : W.Frag) (H : Hp) : Nat -> V -> V -> Bool -> Prop
 | flat {n x y} : da x = true -> da y = true -> EqH K H n x y (eqV x y)
 | same {n p} : EqH K H n (.ref p) (.ref p) true
 | lst {n p q xs ys} {e : Nat -> Bool} : p ≠ q -> SqL K H p xs -> SqL K H q ys -> xs.length = ys.length -> (∀ j x y, xs[j]? = some x -> ys[j]? = some y -> EqH K H n x y (e j)) -> EqH K H (n + 1) (.ref p) (.ref q) ((xp xs.length).all e)
 | len {n p q xs ys} : p ≠ q -> SqL K H p xs -> SqL K H q ys -> xs.length ≠ ys.length -> EqH K H (n + 1) (.ref p) (.ref q) false
 | tup {n p q xs ys} {e : Nat -> Bool} : p ≠ q -> SqT K H p xs -> SqT K H q ys -> (∀ j x y, xs[j]? = some x -> ys[j]? = some y -> EqH K H n x y (e j)) -> EqH K H (n + 1) (.ref p) (.ref q) ((xp (min xs.length ys.length)).all e && xs.length == ys.length)
 | lt {n p q xs ys} : SqL K H p xs -> SqT K H q ys -> EqH K H (n + 1) (.ref p) (.ref q) false
 | tl {n p q xs ys} : SqT K H p xs -> SqL K H q ys -> EqH K H (n + 1) (.ref p) (.ref q) false
theorem ij {P : Value -> Value -> Bool -> Prop} {xs ys : List V} {its its' : List Value} {e : Nat -> Bool} (r : Vals xs its) (r' : Vals ys its') (h : ∀ j x y u v, xs[j]? = some x -> ys[j]? = some y -> RelV x u -> RelV y v -> P u v (e j)) :
 ∀ j (h1 : j < its.toArray.size) (h2 : j < its'.toArray.size), P its.toArray[j] its'.toArray[j] (e j) := fun j g1 g2 => by
 have h1 : xs.length = its.length := r.length
 have h2 : ys.length = its'.length := r'.length
 have g1' : j < its.length := by simpa using g1
 have g2' : j < its'.length := by simpa using g2
 have l1 : j < xs.length := by omega
 have l2 : j < ys.length := by omega
 obtain ⟨w1, e1, r1⟩ := r.get (List.getElem?_eq_getElem l1)
 obtain ⟨w2, e2, r2⟩ := r'.get (List.getElem?_eq_getElem l2)
 have z1 : its.toArray[j] = w1 := by
  have : its[j]? = some its[j] := List.getElem?_eq_getElem g1'
  rw [this] at e1; simpa using nc e1
 have z2 : its'.toArray[j] = w2 := by
  have : its'[j]? = some its'[j] := List.getElem?_eq_getElem g2'
  rw [this] at e2; simpa using nc e2
 rw [z1, z2]
 exact h j _ _ _ _ (List.getElem?_eq_getElem l1) (List.getElem?_eq_getElem l2) r1 r2
theorem EqH.at {K : W.Frag} {H : Hp} {n : Nat} {x y : V} {b : Bool} (h : EqH K H n x y b) : ∀ {X : Cx} {pins : List (Addr × Obj)} {σ : St} {s : Shared} {A : Around} {u v : Value}, X.K = K -> Inv X pins σ H s -> A.units + n < cLine -> RelV x u -> RelV y v -> SeqAt.EqAt A s u v b := by
 induction h with
 | flat fx fy =>
  intro X pins σ s A u v hK I hu rx ry
  exact xW rx ry fx fy
 | same =>
  intro X pins σ s A u v hK I hu rx ry
  cases rx; cases ry
  exact SeqAt.EqAt.same _
 | @lst n p q xs ys e hpq hx hy hl _ ih =>
  intro X pins σ s A u v hK I hu rx ry
  cases rx; cases ry
  subst hK
  obtain ⟨its, r, pl, hz⟩ := I.list hx
  obtain ⟨its', r', pl', hz'⟩ := I.list hy
  have h1 : xs.length = its.length := r.length
  have h2 : ys.length = its'.length := r'.length
  have := SeqAt.RcAt.lists (A := A) (e := e) pl.isList pl'.isList (by simp; omega) (by omega) (ij r r' fun j x y u v g1 g2 r1 r2 => ih j x y g1 g2 rfl I (by show A.units + 1 + n < cLine; omega) r1 r2)
  rw [yY, <- h1] at this
  exact .of_refs hpq this
 | @len n p q xs ys hpq hx hy hl =>
  intro X pins σ s A u v hK I hu rx ry
  cases rx; cases ry
  subst hK
  obtain ⟨its, r, pl, hz⟩ := I.list hx
  obtain ⟨its', r', pl', hz'⟩ := I.list hy
  have h1 : xs.length = its.length := r.length
  have h2 : ys.length = its'.length := r'.length
  exact .of_refs hpq (SeqAt.RcAt.lists_lengths pl.isList pl'.isList (by simp; omega) (by omega))
 | @tup n p q xs ys e hpq hx hy _ ih =>
  intro X pins σ s A u v hK I hu rx ry
  cases rx; cases ry
  subst hK
  obtain ⟨its, r, pl, hz⟩ := I.tuple hx
  obtain ⟨its', r', pl', hz'⟩ := I.tuple hy
  have h1 : xs.length = its.length := r.length
  have h2 : ys.length = its'.length := r'.length
  have := SeqAt.RcAt.tuples (A := A) (e := e) pl pl' (by omega) (ij r r' fun j x y u v g1 g2 r1 r2 => ih j x y g1 g2 rfl I (by show A.units + 1 + n < cLine; omega) r1 r2)
  rw [yY, yY, <- h1, <- h2] at this
  exact .of_refs hpq this
 | lt hx hy =>
  intro X pins σ s A u v hK I hu rx ry
  cases rx; cases ry
  subst hK
  obtain ⟨its, r, pl, hz⟩ := I.list hx
  obtain ⟨its', r', pl', hz'⟩ := I.tuple hy
  exact SeqAt.EqAt.list_tuple pl.isList pl' (by omega)
 | tl hx hy =>
  intro X pins σ s A u v hK I hu rx ry
  cases rx; cases ry
  subst hK
  obtain ⟨its, r, pl, hz⟩ := I.tuple hx
  obtain ⟨its', r', pl', hz'⟩ := I.list hy
  exact SeqAt.EqAt.tuple_list pl pl'.isList (by omega)
inductive EqR (K : W.Frag) (H : Hp) (p q : Addr) : Bool -> Prop
 | lst {xs ys} {e : Nat -> Bool} : SqL K H p xs -> SqL K H q ys -> xs.length = ys.length -> (∀ j x y, xs[j]? = some x -> ys[j]? = some y -> EqH K H 50 x y (e j)) -> EqR K H p q ((xp xs.length).all e)
 | len {xs ys} : SqL K H p xs -> SqL K H q ys -> xs.length ≠ ys.length -> EqR K H p q false
 | tup {xs ys} {e : Nat -> Bool} : SqT K H p xs -> SqT K H q ys -> (∀ j x y, xs[j]? = some x -> ys[j]? = some y -> EqH K H 50 x y (e j)) -> EqR K H p q ((xp (min xs.length ys.length)).all e && xs.length == ys.length)
def B4 (K : W.Frag) (neg : Bool) : R2
 | .ref p, .ref q, H, Q => ∃ b, EqR K H p q b /\ Q (.bl (neg ^^ b)) H
 | _, _, _, _ => False
theorem Fi (K : W.Frag) (hu : X.A.units + 100 < cLine) (hK : X.K = K := by rfl) : OpR X (pZ .Eq) (B4 K false) := by
 subst hK
 intro pins s σ H x y v u Q I rx ry h
 unfold B4 at h
 split at h
 ·rename_i p q
  obtain ⟨b, hb, q⟩ := h
  cases rx; cases ry
  cases hb with
  | @lst xs ys e hx hy hl he =>
   obtain ⟨its, r, pl, hz⟩ := I.list hx
   obtain ⟨its', r', pl', hz'⟩ := I.list hy
   have h1 : xs.length = its.length := r.length
   have h2 : ys.length = its'.length := r'.length
   refine SeqAt.eq_listAt (e := e) pl.isList pl'.isList (by simp; omega) (by omega) (ij r r' fun j x y u v g1 g2 r1 r2 => (he j x y g1 g2).at rfl I (by show X.A.units + 1 + 50 < cLine; omega) r1 r2) ⟨.bl _, H, I, rfl, ?_⟩
   rw [yY, <- h1]; simpa using q
  | @len xs ys hx hy hl =>
   obtain ⟨its, r, pl, hz⟩ := I.list hx
   obtain ⟨its', r', pl', hz'⟩ := I.list hy
   have h1 : xs.length = its.length := r.length
   have h2 : ys.length = its'.length := r'.length
   exact SeqAt.eq_list_lengthsAt pl.isList pl'.isList (by simp; omega) (by omega) ⟨.bl false, H, I, rfl, by simpa using q⟩
  | @tup xs ys e hx hy he =>
   obtain ⟨its, r, pl, hz⟩ := I.tuple hx
   obtain ⟨its', r', pl', hz'⟩ := I.tuple hy
   have h1 : xs.length = its.length := r.length
   have h2 : ys.length = its'.length := r'.length
   refine SeqAt.eq_tupleAt (e := e) pl pl' (by omega) (ij r r' fun j x y u v g1 g2 r1 r2 => (he j x y g1 g2).at rfl I (by show X.A.units + 1 + 50 < cLine; omega) r1 r2) ⟨.bl _, H, I, rfl, ?_⟩
   rw [yY, yY, <- h1, <- h2]; simpa using q
 ·exact h.elim
theorem Ft (K : W.Frag) (hu : X.A.units + 100 < cLine) (hK : X.K = K := by rfl) : OpR X (pZ .NotEq) (B4 K true) := by
 subst hK
 intro pins s σ H x y v u Q I rx ry h
 unfold B4 at h
 split at h
 ·rename_i p q
  obtain ⟨b, hb, q⟩ := h
  cases rx; cases ry
  cases hb with
  | @lst xs ys e hx hy hl he =>
   obtain ⟨its, r, pl, hz⟩ := I.list hx
   obtain ⟨its', r', pl', hz'⟩ := I.list hy
   have h1 : xs.length = its.length := r.length
   have h2 : ys.length = its'.length := r'.length
   refine SeqAt.RcNeAt.lists (e := e) pl.isList pl'.isList (by simp; omega) (by omega) (ij r r' fun j x y u v g1 g2 r1 r2 => (he j x y g1 g2).at rfl I (by show X.A.units + 1 + 50 < cLine; omega) r1 r2) X.prog X.w X.xe _ ⟨.bl _, H, I, rfl, ?_⟩
   rw [yY, <- h1]; simpa using q
  | @len xs ys hx hy hl =>
   obtain ⟨its, r, pl, hz⟩ := I.list hx
   obtain ⟨its', r', pl', hz'⟩ := I.list hy
   have h1 : xs.length = its.length := r.length
   have h2 : ys.length = its'.length := r'.length
   exact SeqAt.RcNeAt.lists_lengths pl.isList pl'.isList (by simp; omega) (by omega) X.prog X.w X.xe _ ⟨.bl true, H, I, rfl, by simpa using q⟩
  | @tup xs ys e hx hy he =>
   obtain ⟨its, r, pl, hz⟩ := I.tuple hx
   obtain ⟨its', r', pl', hz'⟩ := I.tuple hy
   have h1 : xs.length = its.length := r.length
   have h2 : ys.length = its'.length := r'.length
   refine SeqAt.RcNeAt.tuples (e := e) pl pl' (by omega) (ij r r' fun j x y u v g1 g2 r1 r2 => (he j x y g1 g2).at rfl I (by show X.A.units + 1 + 50 < cLine; omega) r1 r2) X.prog X.w X.xe _ ⟨.bl _, H, I, rfl, ?_⟩
   rw [yY, yY, <- h1, <- h2]; simpa using q
 ·exact h.elim
end
end L2
namespace PySem
open Sem (wp)
open Builtin
end PySem
namespace L2
open PySem PySem.Spec PyProof.Rows Builtin Builtin.Str
section
variable {X : Cx} {e a b c : Expr} {pos : Pos}
def ox (K : W.Frag) (neg : Bool) : R2 := fun x y H Q => match eqS x y with
 | some k => Q (.bl (neg ^^ k)) H
 | none => B4 K neg x y H Q
theorem bV (K : W.Frag) (hu : X.A.units + 100 < cLine) (hK : X.K = K := by rfl) : OpR X (pZ .Eq) (ox K false) := ((FV (by omega)).or (Fi K hu hK)).imp fun x y H Q h => by
 unfold ox at h
 split at h
 ·rename_i k hk
  obtain ⟨h1, h2⟩ := wO hk
  exact .inl (.inl ⟨h1, by rw [h2]; simpa using h⟩)
 ·exact .inr h
theorem j4 (K : W.Frag) (hu : X.A.units + 100 < cLine) (hK : X.K = K := by rfl) : OpR X (pZ .NotEq) (ox K true) := ((EW (by omega)).or (Ft K hu hK)).imp fun x y H Q h => by
 unfold ox at h
 split at h
 ·rename_i k hk
  obtain ⟨h1, h2⟩ := wO hk
  exact .inl (.inl ⟨h1, by rw [h2]; simpa using h⟩)
 ·exact .inr h
variable {K : W.Frag} {neg : Bool} {H : Hp} {Q : VK}
theorem yV {i j : Int} : ox K neg (.int i) (.int j) H Q = Q (.bl (neg ^^ decide (i = j))) H := rfl
theorem CK {i j : Bool} : ox K neg (.bl i) (.bl j) H Q = Q (.bl (neg ^^ decide (i = j))) H := rfl
theorem yS {i j : Str} : ox K neg (.str i) (.str j) H Q = Q (.bl (neg ^^ decide (i.cps.toList = j.cps.toList))) H := rfl
theorem zA {p q : Addr} : ox K neg (.ref p) (.ref q) H Q = ∃ b, EqR K H p q b /\ Q (.bl (neg ^^ b)) H := rfl
theorem AX : ox K neg .non .non H Q = Q (.bl (neg ^^ true)) H := rfl
theorem Cg {i : Int} : ox K neg .non (.int i) H Q = Q (.bl (neg ^^ false)) H := rfl
theorem CB {i : Int} : ox K neg (.int i) .non H Q = Q (.bl (neg ^^ false)) H := rfl
theorem Cz {i : Int} {s : Str} : ox K neg (.int i) (.str s) H Q = Q (.bl (neg ^^ false)) H := rfl
theorem AM {i : Int} {s : Str} : ox K neg (.str s) (.int i) H Q = Q (.bl (neg ^^ false)) H := rfl
end
theorem mQ {K : W.Frag} {tl : TE} {g : TG} {tb : TS} {D : fI} {σ : St} {H : Hp} (h : tl σ H fun v H1 => v7 (rF K (tC v)) g tb D σ H1) : v7 (rF K tl) g tb D σ H := h
theorem jP {K : W.Frag} {a : Addr} {xs : List V} {g : TG} {tb : TS} {D : fI} {σ : St} {H : Hp} (hq : SqL K H a xs) (h : ∃ W : Nat -> Nat -> St -> Hp -> Prop, (∃ m, W 0 m σ H) /\ ∀ i m σ H, W i m σ H ->
 ((Itl K a).stop i H /\ D.nx σ H) \/ ((Itl K a).go i H /\ ∃ N : St -> Hp -> Prop, (∀ σ' H', N σ' H' -> ∃ m', m' < m /\ W (i + 1) m' σ' H') /\ ∀ x H', (Itl K a).yld i H x H' -> g x σ H' fun σ2 H2 => tb { D with nx := N, ct := N, bk := D.nx } σ2 H2)) : v7 (rF K (tC (.ref a))) g tb D σ H := ⟨a, rfl, ⟨xs, hq⟩, h⟩
theorem ud {H H' : Hp} {x : V} {t : String} (s : Same H H') (h : bJ H x = some t) : bJ H' x = some t := by
 cases x with
 | ref p =>
  unfold bJ at h |-
  dsimp only at h |-
  cases e : H p with
  | none => rw [e] at h; cases h
  | some o => rw [e] at h; rw [s _ _ e]; exact h
 | _ => exact h
theorem B_ {n j : Nat} (h : j < n) : ixN n (j : Int) = some j := by
 unfold ixN
 rw [if_pos (by omega)]
 simp [h]
theorem BG {xs : List V} {H H1 : Hp} {Q : VK} {i : Int} {q : Addr} {o : HO} (h : atI xs i = some (.ref q)) (hq : H q = none) (ho : H1 q = some o) (po : rC o = true) (k : Q (.ref q) (upd H q o)) : qi xs H H1 Q (.int i) := by
 unfold qi
 simp only [h, ho]
 exact ⟨hq, po, k⟩
theorem AJ (lo : Int) (n : Nat) : CY (Itr lo n) ((xp n).map fun k => V.int (lo + (k : Nat))) := by
 refine ⟨fun i H h => by simpa [Itr] using h, fun i H x H' hi y => ?_, fun H => by simp [Itr]⟩
 obtain ⟨e, rfl⟩ := y
 refine ⟨e, ?_⟩
 have hi' : i < n := by simpa using hi
 simp [hi']
end L2
namespace L2
theorem bj {k : Nat} {A : PySem.Around} (r : Room k A) : A.units + 100 < PySem.cLine := by have := r.un; omega
end L2
namespace L2
open PySem PySem.Spec PyProof.Rows
section
variable {κ : Type} [DecidableEq κ]
def dS (kvs : List (κ × V)) (k : κ) : Option V := (kvs.find? fun kv => decide (kv.1 = k)).map (·.2)
def eX (kvs : List (κ × V)) (k : κ) (v : V) : List (κ × V) :=
 if (kvs.any fun kv => decide (kv.1 = k)) = true then kvs.map (fun kv => if kv.1 = k then (kv.1, v) else kv) else kvs ++ [(k, v)]
def HW (kvs : List (κ × V)) (k : κ) : List (κ × V) := kvs.filter fun kv => decide (kv.1 ≠ k)
theorem cA {p : κ × V} {r : List (κ × V)} {k : κ} (e : p.1 = k) : dS (p :: r) k = some p.2 := by simp [dS, List.find?_cons, e]
theorem cD {p : κ × V} {r : List (κ × V)} {k : κ} (e : ¬ p.1 = k) : dS (p :: r) k = dS r k := by simp [dS, List.find?_cons, e]
theorem jT (k : κ) : ∀ kvs : List (κ × V), (kvs.any fun kv => decide (kv.1 = k)) = (dS kvs k).isSome
 | [] => rfl
 | p :: r => by
  rw [List.any_cons]
  by_cases e : p.1 = k
  ·simp only [cA e, decide_eq_true e, Bool.true_or, Option.isSome_some]
  ·rw [cD e, decide_eq_false e, Bool.false_or]; exact jT k r
theorem wD (k j : κ) (y : V) : ∀ kvs : List (κ × V), dS (kvs.map fun kv => if kv.1 = k then (kv.1, y) else kv) j = (dS kvs j).map fun x => if j = k then y else x
 | [] => rfl
 | p :: r => by
  have ih := wD k j y r
  rw [wW]
  by_cases h : p.1 = k
  ·rw [if_pos h]
   by_cases e : p.1 = j
   ·rw [cA (p := (p.1, y)) e, cA e, Option.map_some, if_pos (e.symm.trans h)]
   ·rw [cD (p := (p.1, y)) e, cD e, ih]
  ·rw [if_neg h]
   by_cases e : p.1 = j
   ·rw [cA (p := p) e, cA e, Option.map_some, if_neg (fun z => h (e.trans z))]
   ·rw [cD (p := p) e, cD e, ih]
theorem tK (k j : κ) (y : V) : ∀ kvs : List (κ × V), dS kvs k = none -> dS (kvs ++ [(k, y)]) j = if j = k then some y else dS kvs j
 | [], _ => by
  by_cases e : k = j
  ·rw [if_pos e.symm]; exact cA (p := (k, y)) e
  ·rw [if_neg (fun z => e z.symm)]; exact cD (p := (k, y)) e
 | p :: r, hn => by
  rw [Z2]
  have hk : ¬ p.1 = k := fun z => by rw [cA z] at hn; cases hn
  rw [cD hk] at hn
  have ih := tK k j y r hn
  by_cases e : p.1 = j
  ·rw [cA e, cA e, if_neg (fun z => hk (e.trans z))]
  ·rw [cD e, cD e, ih]
theorem vU (kvs : List (κ × V)) (k j : κ) (y : V) : dS (eX kvs k y) j = if j = k then some y else dS kvs j := by
 unfold eX
 by_cases a : (kvs.any fun kv => decide (kv.1 = k)) = true
 ·rw [if_pos a, wD]
  rw [jT] at a
  by_cases e : j = k
  ·obtain ⟨x, hx⟩ := Option.isSome_iff_exists.mp a
   rw [if_pos e, e, hx, Option.map_some, if_pos rfl]
  ·rw [if_neg e]
   cases dS kvs j with
   | none => rfl
   | some x => rw [Option.map_some, if_neg e]
 ·rw [if_neg a]
  refine tK k j y kvs ?_
  rw [jT] at a
  cases q : dS kvs k with
  | none => rfl
  | some x => rw [q] at a; exact (a rfl).elim
theorem jZ (kvs : List (κ × V)) (k : κ) (v : V) : (eX kvs k v).length <= kvs.length + 1 := by
 unfold eX
 split
 ·rw [zc]; omega
 ·rw [wz, sX, Yi]; omega
theorem wu {kvs : List (κ × V)} {k : κ} (v : V) (h : dS kvs k = none) : eX kvs k v = kvs ++ [(k, v)] := by
 unfold eX
 rw [jT, h]
 exact if_neg (by decide)
theorem RelO.isSome_eq {o : Option V} {u : Option Value} (r : RelO o u) : o.isSome = u.isSome := by
 cases o with
 | none => cases u with
  | none => rfl
  | some _ => exact (show False from r).elim
 | some _ => cases u with
  | none => exact (show False from r).elim
  | some _ => rfl
theorem KV.val {kvs : List (κ × V)} {vs : List (κ × Value)} (r : KV kvs vs) (k : κ) : RelO (dS kvs k) (valueAt vs k) := by
 unfold KV at r
 induction r with
 | nil => exact ZJ
 | @cons p q ps qs h t ih =>
  obtain ⟨h1, h2⟩ := h
  by_cases e : p.1 = k
  ·have e' : q.1 = k := h1.symm.trans e
   have b : valueAt (q :: qs) k = some q.2 := by simp [valueAt, List.find?_cons, e']
   rw [cA e, b]; exact h2
  ·have e' : ¬ q.1 = k := fun z => e (h1.trans z)
   have b : valueAt (q :: qs) k = valueAt qs k := by simp [valueAt, List.find?_cons, e']
   rw [cD e, b]; exact ih
theorem KV.any {kvs : List (κ × V)} {vs : List (κ × Value)} (r : KV kvs vs) (k : κ) : (kvs.any fun kv => decide (kv.1 = k)) = vs.any fun kv => decide (kv.1 = k) := by
 unfold KV at r
 induction r with
 | nil => rfl
 | cons h t ih => rw [List.any_cons, List.any_cons, ih, h.1]
theorem KV.repl {kvs : List (κ × V)} {vs : List (κ × Value)} (r : KV kvs vs) (k : κ) {y : V} {u : Value} (ry : RelV y u) :
 KV (kvs.map fun kv => if kv.1 = k then (kv.1, y) else kv) (vs.map fun kv => if kv.1 = k then (kv.1, u) else kv) := by
 unfold KV at r |-
 induction r with
 | nil => exact .nil
 | @cons p q ps qs h t ih =>
  rw [wW, wW]
  refine .cons ?_ ih
  obtain ⟨h1, h2⟩ := h
  by_cases e : p.1 = k
  ·rw [if_pos e, if_pos (h1.symm.trans e)]; exact ⟨h1, ry⟩
  ·rw [if_neg e, if_neg (fun z => e (h1.trans z))]; exact ⟨h1, h2⟩
theorem KV.put {kvs : List (κ × V)} {vs : List (κ × Value)} (r : KV kvs vs) (k : κ) {y : V} {u : Value} (ry : RelV y u) : KV (eX kvs k y) (stored vs k u) := by
 unfold eX stored
 rw [r.any k]
 by_cases e : (vs.any fun kv => decide (kv.1 = k)) = true
 ·rw [if_pos e, if_pos e]; exact r.repl k ry
 ·rw [if_neg e, if_neg e]; exact Paired.snoc r ⟨rfl, ry⟩
theorem KV.keys {kvs : List (κ × V)} {vs : List (κ × Value)} (r : KV kvs vs) : kvs.map (·.1) = vs.map (·.1) := by
 unfold KV at r
 induction r with
 | nil => rfl
 | cons h t ih => rw [wW, wW, ih, h.1]
theorem KV.length {kvs : List (κ × V)} {vs : List (κ × Value)} (r : KV kvs vs) : kvs.length = vs.length := Paired.length r
end
theorem tH {P : Program} {w : World} {k : Key} {u : Value} (r : RelV (kV k) u) : (bT P w).is k u = true := by
 cases k with
 | inl i => obtain ⟨t, e⟩ := (show ∃ t, u = YU i t from r); subst e; exact wa P w i t
 | inr x => obtain ⟨t, e⟩ := (show ∃ t, u = Value.str x t from r); subst e; exact vZ P w x t
theorem sU {P : Program} {w : World} : ∀ {ks : List Key} {us : List Value}, Vals (ks.map kV) us -> ItemsAre (bT P w) ks us
 | [], _, r => by rw [YT] at r; cases r; exact .nil
 | k :: ks, _, r => by
  rw [wW] at r
  cases r with
  | cons h t => exact .cons (tH h) (sU t)
abbrev KT (H : Hp) : List (List Key × V) -> List (List Key × Addr × Value) -> Prop := Paired fun p q => p.1 = q.1 /\ H q.2.1 = some (.tup (p.1.map kV)) /\ RelV p.2 q.2.2
theorem KT.val {H : Hp} {kvs : List (List Key × V)} {xs : List (List Key × Addr × Value)} (r : KT H kvs xs) (k : List Key) : RelO (dS kvs k) ((atKey xs k).map (·.2)) := by
 induction r with
 | nil => exact ZJ
 | @cons p q ps qs h t ih =>
  obtain ⟨h1, _, h2⟩ := h
  by_cases e : p.1 = k
  ·have e' : q.1 = k := h1.symm.trans e
   have b : atKey (q :: qs) k = some q.2 := by simp [atKey, List.find?_cons, e']
   rw [cA e, b]; exact h2
  ·have e' : ¬ q.1 = k := fun z => e (h1.trans z)
   have b : atKey (q :: qs) k = atKey qs k := by simp [atKey, List.find?_cons, e']
   rw [cD e, b]; exact ih
theorem KT.repl {H : Hp} {kvs : List (List Key × V)} {xs : List (List Key × Addr × Value)} (r : KT H kvs xs) (k : List Key) {y : V} {u : Value} (ry : RelV y u) :
 KT H (kvs.map fun kv => if kv.1 = k then (kv.1, y) else kv) (xs.map (putAt k u)) := by
 induction r with
 | nil => exact .nil
 | @cons p q ps qs h t ih =>
  rw [wW, wW]
  refine .cons ?_ ih
  obtain ⟨h1, h2, h3⟩ := h
  unfold putAt
  by_cases e : p.1 = k
  ·rw [if_pos e, if_pos (h1.symm.trans e)]; exact ⟨h1, h2, ry⟩
  ·rw [if_neg e, if_neg (fun z => e (h1.trans z))]; exact ⟨h1, h2, h3⟩
theorem KT.put {H : Hp} {kvs : List (List Key × V)} {xs : List (List Key × Addr × Value)} (r : KT H kvs xs) (k : List Key) {b : Addr} {y : V} {u : Value} (hb : H b = some (.tup (k.map kV))) (ry : RelV y u) :
 KT H (eX kvs k y) (storedH xs k b u) := by
 have e : (kvs.any fun kv => decide (kv.1 = k)) = (atKey xs k).isSome := by
  rw [jT, (r.val k).isSome_eq, Yw]
 unfold eX storedH
 rw [e]
 by_cases q : (atKey xs k).isSome = true
 ·rw [if_pos q, if_pos q]; exact r.repl k ry
 ·rw [if_neg q, if_neg q]; exact Paired.snoc r ⟨rfl, hb, ry⟩
theorem KT.keeps {H H' : Hp} {kvs : List (List Key × V)} {xs : List (List Key × Addr × Value)} (r : KT H kvs xs) (ht : ∀ b ys, H b = some (.tup ys) -> H' b = some (.tup ys)) : KT H' kvs xs :=
 Paired.mapP r fun _ _ z => ⟨z.1, ht _ _ z.2.1, z.2.2⟩
section
variable {P : Program} {w : World} {H : Hp} {h : Heap} {a : Addr}
theorem Bi {u : HO} (ok : HOk P w H h) (e : Rd H a u) : ObjOk P w H h a u := e.ok ok
theorem wU {kvs : List (Key × V)} (ok : HOk P w H h) (e : Rd H a (.dK kvs)) : kvs.length <= sizeLine /\ (a == ZK) = false /\ ∃ vs, KV kvs vs /\ h.DictOf (bT P w) a vs :=
 show ObjOk P w H h a (.dK kvs) from Bi ok e
theorem Be {kvs : List (Key × V)} (ok : HOk P w H h) (e : H a = some (.dK kvs)) : kvs.length <= sizeLine /\ (a == ZK) = false /\ ∃ vs, KV kvs vs /\ h.DictOf (bT P w) a vs := wU ok (.inl e)
theorem rJ {ks : List Key} (ok : HOk P w H h) (e : H a = some (.tup (ks.map kV))) : (tupleKind (bT P w)).is h ks a := by
 obtain ⟨_, its, r, o, h1, h2, n, h3⟩ := (show ObjOk P w H h a (.tup (ks.map kV)) from ok a _ e)
 exact ⟨o, its.toArray, n, h1, h2, h3, by simpa using sU r⟩
theorem wF {kvs : List (List Key × V)} (ok : HOk P w H h) (e : Rd H a (.dT kvs)) : kvs.length <= sizeLine /\ (a == ZK) = false /\
 ∃ xs, KT H kvs xs /\ h.DictOfH (tupleKind (bT P w)) a xs := by
 obtain ⟨z, y, xs, r, o, es, ep, h1, h2, h3, h4, h5⟩ := (show ObjOk P w H h a (.dT kvs) from Bi ok e)
 refine ⟨z, y, xs, r, o, es, ep, h1, h2, h3, h4, fun x hx => ?_, h5⟩
 have all : ∀ {l : List (List Key × V)} {m : List (List Key × Addr × Value)}, KT H l m -> ∀ x ∈ m, (tupleKind (bT P w)).is h x.1 x.2.1 := by
  intro l m q
  induction q with
  | nil => intro x hx; exact nomatch hx
  | @cons p q ps qs hq t ih =>
   intro x hx
   rcases ze.mp hx with e | hx
   ·subst e
    exact rJ ok (by rw [<- hq.1]; exact hq.2.1)
   ·exact ih x hx
 exact all r x hx
theorem Gz {kvs : List (List Key × V)} (ok : HOk P w H h) (e : H a = some (.dT kvs)) : kvs.length <= sizeLine /\ (a == ZK) = false /\
 ∃ xs, KT H kvs xs /\ h.DictOfH (tupleKind (bT P w)) a xs := wF ok (.inl e)
end
def DGet (H : Hp) (a : Addr) (y : V) (r : Option V) : Prop :=
 (∃ kvs k, Rd H a (.dK kvs) /\ y = kV k /\ r = dS kvs k) \/ ∃ kvs k b, Rd H a (.dT kvs) /\ y = .ref b /\ H b = some (.tup (k.map kV)) /\ r = dS kvs k
def DPut (H : Hp) (a : Addr) (y v : V) (H' : Hp) : Prop :=
 (∃ kvs k, H a = some (.dK kvs) /\ y = kV k /\ kvs.length < sizeLine /\ H' = upd H a (.dK (eX kvs k v))) \/
 ∃ kvs k b, H a = some (.dT kvs) /\ y = .ref b /\ H b = some (.tup (k.map kV)) /\ kvs.length < sizeLine /\ H' = upd H a (.dT (eX kvs k v))
theorem DGet.k {H : Hp} {a : Addr} {kvs : List (Key × V)} {k : Key} (e : H a = some (.dK kvs)) : DGet H a (kV k) (dS kvs k) := .inl ⟨kvs, k, .inl e, rfl, rfl⟩
theorem DPut.k {H : Hp} {a : Addr} {kvs : List (Key × V)} {k : Key} {v : V} (e : H a = some (.dK kvs)) (hl : kvs.length < sizeLine) : DPut H a (kV k) v (upd H a (.dK (eX kvs k v))) := .inl ⟨kvs, k, e, rfl, hl, rfl⟩
section
variable {X : Cx} {pins : List (Addr × Obj)} {σ : St} {H : Hp} {s : Shared} {a : Addr} {y v : V} {u r : Value} {o : Option V} {A : Around} {E : Value -> Shared -> Prop}
theorem Inv.big (I : Inv X pins σ H s) : ZK < s.heap.objs.size := by
 have h : xf < s.heap.objs.size := (I.mod.glob.keeps I.bk).lt
 exact Nat.lt_trans (by decide) h
theorem Ad {Q : Value -> Shared -> Prop} (hu : A.units + 1 < cLine) (I : Inv X pins σ H s) (g : DGet H a y (some v)) (ry : RelV y u) (h : ∀ w' s', Inv X pins σ H s' -> RelV v w' -> Q w' s') :
 wpAny (model X.prog X.w) A (getItem (.ref a) u) Q E s := by
 rcases g with ⟨kvs, k, e, ey, l⟩ | ⟨kvs, k, b, e, ey, eb, l⟩
 ·subst ey
  obtain ⟨z, hd, vs, rel, dd⟩ := wU I.hok e
  obtain ⟨w', hw, rw'⟩ := RelO.some_of (v := v) (o := valueAt vs k) (by rw [l]; exact rel.val k)
  exact wpAny_getItem_of (tH ry) dd.mapOf hw (h w' _ (I.tok _) rw')
 ·subst ey
  cases (show u = vY b from ry)
  obtain ⟨z, hd, xs, rel, dd⟩ := wF I.hok e
  obtain ⟨w', hw, rw'⟩ := RelO.some_of (v := v) (o := (atKey xs k).map (·.2)) (by rw [l]; exact rel.val k)
  obtain ⟨p, hp, hp2⟩ := Zb.mp hw
  refine wpAny_getItem_heap (YK hu) (rJ I.hok eb) dd hp ?_
  rw [hp2]
  exact h w' _ (I.tok _) rw'
theorem HL {Q : Value -> Shared -> Prop} (hu : A.units + 1 < cLine) (I : Inv X pins σ H s) (g : DGet H a y o) (ry : RelV y u) (h : ∀ s', Inv X pins σ H s' -> Q (.bool o.isSome) s') :
 wpAny (model X.prog X.w) A (pZ .In u (.ref a)) Q E s := by
 rcases g with ⟨kvs, k, e, ey, l⟩ | ⟨kvs, k, b, e, ey, eb, l⟩
 ·subst ey
  obtain ⟨z, hd, vs, rel, dd⟩ := wU I.hok e
  refine wpAny_in_of (tH ry) hd dd.mapOf ?_
  rw [<- (rel.val k).isSome_eq, <- l]
  exact h _ (I.tok _)
 ·subst ey
  cases (show u = vY b from ry)
  obtain ⟨z, hd, xs, rel, dd⟩ := wF I.hok e
  refine wpAny_in_heap (YK hu) (rJ I.hok eb) hd dd ?_
  have q := (rel.val k).isSome_eq
  rw [Yw] at q
  rw [<- q, <- l]
  exact h _ (I.tok _)
theorem Ek {Q : Value -> Shared -> Prop} (hu : A.units + 1 < cLine) (I : Inv X pins σ H s) (g : DGet H a y o) (ry : RelV y u) (h : ∀ s', Inv X pins σ H s' -> Q (.bool (!o.isSome)) s') :
 wpAny (model X.prog X.w) A (pZ .NotIn u (.ref a)) Q E s := by
 rcases g with ⟨kvs, k, e, ey, l⟩ | ⟨kvs, k, b, e, ey, eb, l⟩
 ·subst ey
  obtain ⟨z, hd, vs, rel, dd⟩ := wU I.hok e
  refine wpAny_notIn_of (tH ry) hd dd.mapOf ?_
  rw [<- (rel.val k).isSome_eq, <- l]
  exact h _ (I.tok _)
 ·subst ey
  cases (show u = vY b from ry)
  obtain ⟨z, hd, xs, rel, dd⟩ := wF I.hok e
  refine wpAny_notIn_heap (YK hu) (rJ I.hok eb) hd dd ?_
  have q := (rel.val k).isSome_eq
  rw [Yw] at q
  rw [<- q, <- l]
  exact h _ (I.tok _)
theorem u_ {h' : Heap} {t' : Nat} {ob : HO} (I : Inv X pins σ H s) (mu : Mut (H a)) (hs : ZV a s.heap h') (he : ∃ q, h'.get? a = some q) (new : ObjOk X.prog X.w (upd H a ob) h' a ob) :
 Inv X pins σ (upd H a ob) { s with heap := h', toks := t' } :=
 I.write (x := a) (e := a) mu (.inl rfl) (fun b q hb z => (hs.2 b hb).trans z) he new
theorem B7 {P : Program} {w : World} {H' : Hp} {h' : Heap} {kvs : List (Key × V)} {vs : List (Key × Value)} (z : kvs.length <= sizeLine) (hd : (a == ZK) = false) (rel : KV kvs vs) (dd : h'.DictOf (bT P w) a vs) :
 ObjOk P w H' h' a (.dK kvs) := ⟨z, hd, vs, rel, dd⟩
theorem Ac {H' : Hp} {Q : Unit -> Shared -> Prop} (hu : A.units + 1 < cLine) (I : Inv X pins σ H s) (g : DPut H a y v H') (ry : RelV y u) (rv : RelV v r) (h : ∀ s', Inv X pins σ H' s' -> Q () s') :
 wpAny (model X.prog X.w) A (setItem (.ref a) u r) Q E s := by
 rcases g with ⟨kvs, k, e, ey, l, eH⟩ | ⟨kvs, k, b, e, ey, eb, l, eH⟩
 ·subst ey eH
  obtain ⟨z, hd, vs, rel, dd⟩ := Be I.hok e
  have hz : vs.length <= sizeLine := by rw [<- rel.length]; exact z
  have hl : (eX kvs k v).length <= sizeLine := by have := jZ kvs k v; omega
  refine wpAny_setItem_pairs (hsz := hz) (tH ry) dd fun h' dd' hs => h _ ?_
  have he : ∃ q, h'.get? a = some q := let ⟨q, _, _, hq, _⟩ := dd'; ⟨q, hq⟩
  exact u_ I (by rw [e]; exact ZJ) hs he (B7 hl hd (rel.put k rv) dd')
 ·subst ey eH
  cases (show u = vY b from ry)
  obtain ⟨z, hd, xs, rel, dd⟩ := Gz I.hok e
  have hz : xs.length <= sizeLine := by rw [<- Paired.length rel]; exact z
  have hl : (eX kvs k v).length <= sizeLine := by have := jZ kvs k v; omega
  refine wpAny_setItem_heap (hsz := hz) (YK hu) (rJ I.hok eb) dd fun h' dd' hs => h _ ?_
  obtain ⟨q, es, ep, hq, h2, h3, h4, _, h5⟩ := dd'
  refine u_ I (by rw [e]; exact ZJ) hs ⟨q, hq⟩ ⟨hl, hd, _, (rel.put k eb rv).keeps fun c ys ec => ?_, q, es, ep, hq, h2, h3, h4, h5⟩
  rw [ar (Gu ec e (fun z => nomatch z))]
  exact ec
end
section
variable {X : Cx} {pins : List (Addr × Obj)} {σ : St} {H : Hp} {s : Shared} {a : Addr} {kvs : List (Key × V)} {k : Key} {u : Value} {A : Around} {E : Value -> Shared -> Prop}
end
def Gp (i : Expr) : Prop := ∀ ov iv, subscripted i false ov iv = operate [ov, iv] (getItem ov iv)
theorem Em {prog : Program} {w : World} {A : Around} {E : Value -> Shared -> Prop} {s : Shared} {env : Env} {value slice : Expr} {pos : Pos} {T id : String} {Q : Value -> Shared -> Prop}
 (hl : typeLookup (.type T) "__getitem__" = pure (some (.builtin id))) (hs : Gp slice)
 (h : wpAny (model prog w) A (eval value env) (fun o s₁ => wpAny (model prog w) A (eval slice env) (fun i s₂ => s₂.TypeIs o T /\ wpAny (model prog w) A (getItem o i) Q E s₂) E s₁) E s) :
 wpAny (model prog w) A (eval (.Subscript value slice pos) env) Q E s := by
 refine Subscript_ (Zq h (fun o s₁ h₁ => Zq h₁ (fun i s₂ h₂ => ?_) fun _ _ x => x) fun _ _ x => x)
 obtain ⟨hT, h₂⟩ := h₂
 unfold subscriptTail
 refine zz ?_
 rw [getitemInPython_of_ne hT.not_modules]
 refine zz (wpAny_specialOf hT hl ?_)
 have fin : wpAny (model prog w) A (subscripted slice false o i) (fun r s₃ => wpAny (model prog w) A (letTemporaryGo value o r >>= fun _ => pure r) Q E s₃) E s₂ := by
  rw [hs o i]
  exact wpAny_operating (Zq h₂ (fun r s₃ h₃ => zz (wpAny_letTemporaryGo (yZ h₃))) fun _ _ x => x)
 first
  | exact yZ (zz fin)
  | exact zz (yZ (zz fin))
  | exact zz fin
theorem xj {X : Cx} {pins : List (Addr × Obj)} {σ : St} {H : Hp} {s : Shared} {a : Addr} {y : V} {o : Option V} (I : Inv X pins σ H s) (g : DGet H a y o) : s.TypeIs (.ref a) "dict" := by
 rcases g with ⟨kvs, k, e, _, _⟩ | ⟨kvs, k, b, e, _, _, _⟩
 ·obtain ⟨_, _, vs, _, dd⟩ := wU I.hok e
  exact dd.typeIs
 ·obtain ⟨_, _, xs, _, dd⟩ := wF I.hok e
  exact dd.typeIs
def EI (td ty : TE) : TE := fun σ H Q => td σ H fun x H1 => ty σ H1 fun y H2 => ∃ a v, x = .ref a /\ DGet H2 a y (some v) /\ Q v H2
def Hk (ty td : TE) : TE := fun σ H Q => ty σ H fun y H1 => td σ H1 fun x H2 => ∃ a o, x = .ref a /\ DGet H2 a y o /\ Q (.bl o.isSome) H2
def zD (ty td : TE) : TE := fun σ H Q => ty σ H fun y H1 => td σ H1 fun x H2 => ∃ a o, x = .ref a /\ DGet H2 a y o /\ Q (.bl (!o.isSome)) H2
def Eo (td ty tv : TE) : TS := fun D σ H => tv σ H fun v H1 => td σ H1 fun x H2 => ty σ H2 fun y H3 => ∃ a H4, x = .ref a /\ DPut H3 a y v H4 /\ D.nx σ H4
section
variable {X : Cx} {o i e value : Expr} {pos pos' tpos : Pos} {td ty tv : TE}
theorem aA (hu : X.A.units + 1 < cLine) (ho : PE X o td) (hi : PE X i ty) (hs : Gp i) : PE X (.Subscript o i pos) (EI td ty) := by
 intro pins s σ H Q I h
 refine Em PySem.F.slot_dict_getitem.lookup hs (thn (ho pins s σ H _ I h) fun u s1 ⟨x, H1, I1, rx, q1⟩ => thn (hi pins s1 σ H1 _ I1 q1) fun iv s2 ⟨y, H2, I2, ry, a, v, ex, g, q2⟩ => ?_)
 subst ex
 obtain rfl : u = vY a := rx
 exact ⟨xj I2 g, Ad hu I2 g ry fun w' s3 I3 rw' => ⟨v, H2, I3, rw', q2⟩⟩
theorem FF (hu : X.A.units + 1 < cLine) (hi : PE X i ty) (ho : PE X o td) : PC X .In i o (Hk ty td) := by
 intro pins s σ H Q I h
 refine thn (hi pins s σ H _ I h) fun iv s1 ⟨y, H1, I1, ry, q1⟩ => thn (ho pins s1 σ H1 _ I1 q1) fun u s2 ⟨x, H2, I2, rx, a, ov, ex, g, q2⟩ => ?_
 subst ex
 obtain rfl : u = vY a := rx
 exact HL hu I2 g ry fun s3 I3 => ⟨.bl ov.isSome, H2, I3, rfl, q2⟩
theorem n8 (hu : X.A.units + 1 < cLine) (hi : PE X i ty) (ho : PE X o td) : PC X .NotIn i o (zD ty td) := by
 intro pins s σ H Q I h
 refine thn (hi pins s σ H _ I h) fun iv s1 ⟨y, H1, I1, ry, q1⟩ => thn (ho pins s1 σ H1 _ I1 q1) fun u s2 ⟨x, H2, I2, rx, a, ov, ex, g, q2⟩ => ?_
 subst ex
 obtain rfl : u = vY a := rx
 exact Ek hu I2 g ry fun s3 I3 => ⟨.bl (!ov.isSome), H2, I3, rfl, q2⟩
theorem eW (hu : X.A.units + 1 < cLine) (ho : PE X o td) (hi : PE X i ty) (hv : PE X value tv) (hs : swapsWith value (some (.Subscript o i pos')) pos.line X.env = pure false) :
 PS X (.Assign [.Subscript o i pos'] value pos) (Eo td ty tv) := by
 intro pins s σ H D I h
 refine wpAny_Assign_Subscript (thn (hv pins s σ H _ I h) fun r s1 ⟨v, H1, I1, rv, q1⟩ => thn (ho pins s1 σ H1 _ I1 q1) fun u s2 ⟨x, H2, I2, rx, q2⟩ => thn (hi pins s2 σ H2 _ I2 q2) fun iv s3 ⟨y, H3, I3, ry, a, H4, ex, g, q3⟩ => ?_) hs
 subst ex
 obtain rfl : u = vY a := rx
 exact Ac hu I3 g ry rv fun s4 I4 => ⟨σ, H4, I4, q3⟩
end
theorem Bq {P : Program} {w : World} {H : Hp} (h : Heap) (hb : ZK < h.objs.size) : ObjOk P w H (h.push { cls := .type "dict", data := .dict #[] }) h.objs.size (.dK []) :=
 ⟨o3 _, beq_eq_false_iff_ne.mpr (Ne.symm (tB hb)), [], .nil, Heap.DictOf.new h⟩
section
variable {X : Cx} {pos : Pos}
end
def vt : List (TE × TE) -> St -> Hp -> (List (V × V) -> Hp -> Prop) -> Prop
 | [], _, H, Q => Q [] H
 | (tk, tv) :: r, σ, H, Q => tk σ H fun x H1 => tv σ H1 fun y H2 => vt r σ H2 fun ps H3 => Q ((x, y) :: ps) H3
abbrev VV : List (V × V) -> List (Value × Value) -> Prop := Paired fun p q => RelV p.1 q.1 /\ RelV p.2 q.2
def PPs (X : Cx) (pos : Pos) (keys : List (Option Expr)) (values : List Expr) (trs : List (TE × TE)) : Prop :=
 ∀ (pins : List (Addr × Obj)) (s : Shared) (σ : St) (H : Hp) (Q : List (V × V) -> Hp -> Prop), Inv X pins σ H s -> vt trs σ H Q ->
  wpAny (model X.prog X.w) X.A (evalPairs (pairTrees keys values X.env pos)) (fun vs s' => ∃ ps H', Inv X pins σ H' s' /\ VV ps vs /\ Q ps H') X.xe s
theorem CN {X : Cx} {pos : Pos} : PPs X pos [] [] [] := fun pins s σ H Q I h => pairTrees_nil_walk ⟨[], H, I, .nil, h⟩
theorem mL {X : Cx} {pos : Pos} {k v : Expr} {ks : List (Option Expr)} {vs : List Expr} {tk tv : TE} {trs : List (TE × TE)} (hk : PE X k tk) (hv : PE X v tv) (hr : PPs X pos ks vs trs) :
 PPs X pos (some k :: ks) (v :: vs) ((tk, tv) :: trs) := fun pins s σ H Q I h =>
 pairTrees_cons_walk (thn (hk pins s σ H _ I h) fun u s1 ⟨x, H1, I1, rx, q1⟩ => thn (hv pins s1 σ H1 _ I1 q1) fun w2 s2 ⟨y, H2, I2, ry, q2⟩ =>
  thn (hr pins s2 σ H2 _ I2 q2) fun ws s3 ⟨ps, H3, I3, rel, q3⟩ => ⟨(x, y) :: ps, H3, I3, .cons ⟨rx, ry⟩ rel, q3⟩)
def jo (kvs more : List (Key × V)) : List (Key × V) := more.foldl (fun acc kv => eX acc kv.1 kv.2) kvs
theorem KV.merge : ∀ {more : List (Key × V)} {rs : List (Key × Value)} {kvs : List (Key × V)} {vs : List (Key × Value)}, KV more rs -> KV kvs vs -> KV (jo kvs more) (merged vs rs) := by
 intro more rs kvs vs r
 unfold KV at r
 induction r generalizing kvs vs with
 | nil => intro q; exact q
 | @cons p q ps qs h t ih =>
  intro r0
  have e : KV (eX kvs p.1 p.2) (stored vs q.1 q.2) := by
   have := r0.put p.1 h.2
   rw [<- h.1]; exact this
  exact ih e
theorem hU : ∀ (more kvs : List (Key × V)), (jo kvs more).length <= kvs.length + more.length
 | [], kvs => by show kvs.length <= kvs.length + 0; omega
 | p :: r, kvs => by
  have h1 := hU r (eX kvs p.1 p.2)
  have h2 := jZ kvs p.1 p.2
  show (jo (eX kvs p.1 p.2) r).length <= _
  rw [sX]; omega
theorem rL {P : Program} {w : World} : ∀ {kvs : List (Key × V)} {ws : List (Value × Value)}, VV (kvs.map fun kv => (kV kv.1, kv.2)) ws -> ∃ rs, Carries (bT P w) ws rs /\ KV kvs rs
 | [], _, r => by rw [YT] at r; cases r; exact ⟨[], ZJ, .nil⟩
 | p :: kvs, _, r => by
  rw [wW] at r
  cases r with
  | @cons a b as bs h t =>
   obtain ⟨rs, c, q⟩ := rL (P := P) (w := w) t
   obtain ⟨b1, b2⟩ := b
   exact ⟨(p.1, b2) :: rs, ⟨tH h.1, rfl, c⟩, .cons ⟨rfl, h.2⟩ q⟩
def GY (trs : List (TE × TE)) : TE := fun σ H Q => ∀ p, H p = none -> vt trs σ (upd H p (.dK [])) fun ps H2 => H2 p = some (.dK []) /\ ∃ kvs : List (Key × V), ps = kvs.map (fun kv => (kV kv.1, kv.2)) /\ kvs.length <= 15 /\ Q (.ref p) (upd H2 p (.dK (jo [] kvs)))
theorem CW {X : Cx} {pos : Pos} {keys : List (Option Expr)} {values : List Expr} {trs : List (TE × TE)} (h : PPs X pos keys values trs) (hall : keys.all (·.isSome) = true) (hl : keys.length = values.length) (h0 : keys ≠ [])
 (h15 : keys.length <= 15) : PE X (.Dict keys values pos) (GY trs) := by
 intro pins s σ H Q I q
 have hn := I.hok.fresh (zM s.heap.objs.size)
 have I1 := I.laid (a := s.heap.objs.size) (o := .dK []) (h' := s.heap.push { cls := .type "dict", data := .dict #[] }) (t' := s.toks) (fun _ _ q => Heap.get?_push_of_some _ q) (zM _) (Bq s.heap I.big)
 refine wpAny_Dict_walk (knd := bT X.prog X.w) hall hl h0 h15 (thn (h pins _ σ _ _ I1 (q _ hn)) fun ws s2 ⟨ps, H2, I2, rel, e, kvs, ep, lk, q2⟩ => ?_)
 subst ep
 obtain ⟨rs, c, rk⟩ := rL (P := X.prog) (w := X.w) rel
 obtain ⟨z, hd, vs0, r0, dd⟩ := Be I2.hok e
 cases r0
 refine ⟨rs, c, dd, fun h' dd' hs => ⟨.ref s.heap.objs.size, _, ?_, rfl, q2⟩⟩
 have hz : (jo [] kvs).length <= sizeLine := by
  have h1 := hU kvs []
  rw [Yi] at h1
  rw [ue]; omega
 have he : ∃ q, h'.get? s.heap.objs.size = some q := let ⟨q, _, _, hq, _⟩ := dd'; ⟨q, hq⟩
 exact u_ I2 (by rw [e]; exact ZJ) hs he (B7 hz hd (rk.merge .nil) dd')
structure M1 (X : Cx) (o : Expr) (m : Str) (apos : Pos) (e : Expr) (cpos : Pos) : Prop where
 base : YQ o m X.env (eval o X.env) = eval o X.env
 few : ((backTo cpos (starEach [e] X.env)).all (fun x => !x.1) && (backToKw cpos (keywordEach [] X.env)).all (fun x => x.1.isSome)
  && decide (([e] : List Expr).length + ([] : List Keyword).length + (if ([] : List Keyword).isEmpty then 0 else 1) < 30)) = true
 line : (apos.endLine == cpos.line) = true
 trees : backTo cpos (starEach [e] X.env) = [(false, eval e X.env)]
structure M2 (X : Cx) (o : Expr) (m : Str) (apos : Pos) (e f : Expr) (cpos : Pos) : Prop where
 base : YQ o m X.env (eval o X.env) = eval o X.env
 few : ((backTo cpos (starEach [e, f] X.env)).all (fun x => !x.1) && (backToKw cpos (keywordEach [] X.env)).all (fun x => x.1.isSome)
  && decide (([e, f] : List Expr).length + ([] : List Keyword).length + (if ([] : List Keyword).isEmpty then 0 else 1) < 30)) = true
 line : (apos.endLine == cpos.line) = true
 trees : backTo cpos (starEach [e, f] X.env) = [(false, eval e X.env), (false, eval f X.env)]
section
variable {X : Cx} {pins : List (Addr × Obj)} {σ : St} {H : Hp} {s : Shared} {a : Addr} {y d : V} {u r : Value} {o : Option V} {A : Around} {E : Value -> Shared -> Prop}
end
section
variable {X : Cx} {o e f : Expr} {apos cpos : Pos} {td ty tx : TE}
end
section
variable {X : Cx} {pins : List (Addr × Obj)} {σ : St} {H : Hp} {s : Shared} {a : Addr} {kvs : List (Key × V)} {A : Around} {E : Value -> Shared -> Prop}
end
section
variable {X : Cx} {pins : List (Addr × Obj)} {σ : St} {H : Hp} {s : Shared} {a : Addr} {y : V} {u : Value} {A : Around} {E : Value -> Shared -> Prop}
end
end L2
namespace L2
open PySem PySem.Spec PyProof.Rows
section
variable {X : Cx} {e o value : Expr} {f : Str} {ta tv : TE} {pos pos' : Pos}
def F3 (K : W.Frag) (f : Str) : V -> Hp -> VK -> Prop
 | .ref p, H, Q => ∃ C dx fs v, H p = some (.ins C dx fs) /\ Cls K C /\ NoAttr K C f /\ fs.lookup f = some v /\ Q v H
 | _, _, _ => False
def EJ (K : W.Frag) (ta : TE) (f : Str) : TE := fun σ H Q => ta σ H fun x H1 => F3 K f x H1 Q
theorem dL (K : W.Frag) (he : PE X e ta) (hK : X.K = K := by rfl) (hb : YQ e f X.env (eval e X.env) = eval e X.env := by rfl) : PE X (.Attribute e f pos) (EJ K ta f) := by
 subst hK
 intro pins s σ H Q I h
 refine Dp hb (thn (he pins s σ H _ I h) fun u s1 ⟨x, H1, I1, rx, q⟩ => ?_)
 dsimp only at q
 unfold F3 at q
 split at q
 ·rename_i a
  obtain ⟨C, dx, fs, v, ea, c, n, l, q⟩ := q
  obtain rfl : u = vY a := rx
  exact xE I1 ea c n l fun u' s2 I2 ru => ⟨v, H1, I2, ru, q⟩
 ·exact q.elim
def A_ (K : W.Frag) (f : Str) (y : V) : V -> Hp -> (Hp -> Prop) -> Prop
 | .ref p, H, Q => ∃ C dx fs, H p = some (.ins C dx fs) /\ Cls K C /\ NoAttr K C f /\ fs.length < 1000 /\ Q (upd H p (.ins C dx (fH f y fs)))
 | _, _, _ => False
def EL (K : W.Frag) (ta tv : TE) (f : Str) : TS := fun D σ H => tv σ H fun y H1 => ta σ H1 fun x H2 => A_ K f y x H2 fun H3 => D.nx σ H3
theorem j5 (K : W.Frag) (ha : PE X o ta) (hv : PE X value tv) (hK : X.K = K := by rfl) (hs : swapsWith value (some (.Attribute o f pos')) pos.line X.env = pure false := by rfl) : PS X (.Assign [.Attribute o f pos'] value pos) (EL K ta tv f) := by
 subst hK
 intro pins s σ H D I h
 refine plainObj_wpAny_Assign_Attribute (thn (hv pins s σ H _ I h) fun u s1 ⟨y, H1, I1, ry, q⟩ => thn (ha pins s1 σ H1 _ I1 q) fun ov s2 ⟨x, H2, I2, rx, q2⟩ => ?_) hs
 dsimp only at q2
 unfold A_ at q2
 split at q2
 ·rename_i a
  obtain ⟨C, dx, fs, ea, c, n, l, q2⟩ := q2
  obtain rfl : ov = vY a := rx
  exact xG I2 ea c n l ry fun s3 I3 => ⟨σ, _, I3, q2⟩
 ·exact q2.elim
end
section
variable {X : Cx} {CX : CXT} {k : Nat} {f C : Addr} {fd : FuncData} {ps : List Str} {sp : Sp} {dvs : List V} {ds : List Value} {E : XKs} {x m : Str} {p pos apos : Pos} {e o : Expr} {es : List Expr} {ta : TE} {t : TA}
def yG (C : Addr) (m : Str) : V -> Hp -> (V -> Prop) -> Prop
 | .ref p, H, Q => ∃ dx fs, H p = some (.ins C dx fs) /\ fs.lookup m = none /\ Q (.ref p)
 | _, _, _ => False
def xz (C : Addr) (m : Str) (sp : Sp) (dvs : List V) (E : XKs) (ta : TE) (t : TA) : TE := fun σ H Q => ta σ H fun x0 H1 => yG C m x0 H1 (fun x => t σ H1 fun vs H2 => sp (x :: (vs ++ dvs)) H2 Q (E σ))
theorem bY {pl : Sem Bool} (he : PE X o ta) (c : Cls X.K C) (hm : mx X.K C m f) (F : bg X.prog X.w X.K X.mg X.base CX k f fd ps sp) (hr : Room k X.A) (hb : Binds X.K fd ps ds) (hd : Vals dvs ds) (hx : eQ CX X E) (ha : PA X (e :: es) t)
 (hst : starEach (e :: es) X.env = (false, eval e X.env) :: starEach es X.env := by rfl) (hpl : (backTo pos (starEach es X.env)).any (·.1) = false := by rfl)
 (ht : eval (.Call (.Attribute o m apos) (e :: es) [] pos) X.env = (do
  let ov <- eval o X.env
  standAt apos.atName
  let (f, first) <- holding [ov] (getMethod ov m pl)
  callWith pos f first (backTo pos (starEach (e :: es) X.env)) (backToKw pos (keywordEach [] X.env))) := by rfl) :
 PE X (.Call (.Attribute o m apos) (e :: es) [] pos) (xz C m sp dvs E ta t) := by
 intro pins s σ H Q I h
 refine PySem.W.methodCall_KW (pl := pl) (thn (he pins s σ H _ I h) fun u s1 ⟨xo, H1, I1, rx, q⟩ => ?_) ht
 dsimp only at q
 unfold yG at q
 split at q
 ·rename_i a
  obtain ⟨dx, fs, ea, l, q⟩ := q
  obtain rfl : u = vY a := rx
  refine qY I1 ea c hm l ?_
  refine PySem.W.callWith_K (first := [.ref a]) (h₀ := X.base) I.ok.mod.kin hm.kp (thn (ha pos pins s1 σ _ _ I1 q) fun us s2 ⟨vs, H2, I2, r, q2⟩ => ⟨I2.kIn, ?_⟩) hst hpl
  exact vg (us := .ref a :: us) (vs := .ref a :: vs) F hr hb hd hx I2 (.cons rfl r) q2
 ·exact q.elim
theorem tJ {pl : Sem Bool} (he : PE X o ta) (c : Cls X.K C) (hm : mx X.K C m f) (F : bg X.prog X.w X.K X.mg X.base CX k f fd ps sp) (hr : Room k X.A) (hb : Binds X.K fd ps ds) (hd : Vals dvs ds) (hx : eQ CX X E)
 (ht : eval (.Call (.Attribute o m apos) [] [] pos) X.env = (do
  let ov <- eval o X.env
  standAt apos.atName
  let (f, first) <- holding [ov] (getMethod ov m pl)
  callWith pos f first (backTo pos (starEach [] X.env)) (backToKw pos (keywordEach [] X.env))) := by rfl) :
 PE X (.Call (.Attribute o m apos) [] [] pos) (xz C m sp dvs E ta zR) := by
 intro pins s σ H Q I h
 refine PySem.W.methodCall_KW (pl := pl) (thn (he pins s σ H _ I h) fun u s1 ⟨xo, H1, I1, rx, q⟩ => ?_) ht
 dsimp only at q
 unfold yG at q
 split at q
 ·rename_i a
  obtain ⟨dx, fs, ea, l, q⟩ := q
  obtain rfl : u = vY a := rx
  refine qY I1 ea c hm l ?_
  exact PySem.W.callWith_K0 (first := [.ref a]) I1.kIn hm.kp (vg (us := [.ref a]) (vs := [.ref a]) F hr hb hd hx I1 (.cons rfl .nil) q)
 ·exact q.elim
def xM (C : Addr) (sp : Sp) (dvs : List V) (E : XKs) (t : TA) : TE := fun σ H Q => t σ H fun vs H1 => ∀ x dx, H1 x = none -> H1 dx = none -> dx ≠ x ->
 sp (.ref x :: (vs ++ dvs)) (upd (upd H1 dx (.own x)) x (.ins C dx [])) (fun v H2 => v = .non /\ Q (.ref x) H2) (E σ)
theorem tQ {pins : List (Addr × Obj)} {σ : St} {H : Hp} {s : Shared} {Q : VK} {us : List Value} {vs : List V} (M : Mk X.K C f) (F : bg X.prog X.w X.K X.mg X.base CX k f fd ps sp) (hr : Room (k + 1) X.A) (hb : Binds X.K fd ps ds) (hd : Vals dvs ds)
 (hx : eQ CX X E) (I : Inv X pins σ H s) (r : Vals vs us)
 (h : ∀ x dx, H x = none -> H dx = none -> dx ≠ x -> sp (.ref x :: (vs ++ dvs)) (upd (upd H dx (.own x)) x (.ins C dx [])) (fun v H2 => v = .non /\ Q (.ref x) H2) (E σ)) :
 wpAny (model X.prog X.w) X.A (call (.ref C) us) (EP X pins σ Q) X.xe s := by
 have hq := h (s.heap.objs.size + 1) s.heap.objs.size (I.hok.fresh (YI _)) (I.hok.fresh (zM _)) (tB (Nat.lt_succ_self _))
 have I2 := Inv.made (C := C) I
 have r2 : Vals (V.ref (s.heap.objs.size + 1) :: (vs ++ dvs)) (vY (s.heap.objs.size + 1) :: (us ++ ds)) := .cons rfl (r.append hd)
 have hl : (vY (s.heap.objs.size + 1) :: us ++ ds).length = ps.length := by
  have e := r2.length
  rw [F.len _ _ _ _ hq] at e
  exact e.symm
 refine wpAny_call (CC (f := f) I.kIn M.makes M.init (beq_iff_eq.mp M.fn) (codeAny_mono (F.run _ X.stack _ _ ⟨vY (s.heap.objs.size + 1) :: us, []⟩ (vY (s.heap.objs.size + 1) :: (us ++ ds)) _ _ (E σ) (hr.make C us [])
  (I2.env0.make C us []) (hb _ (vY (s.heap.objs.size + 1) :: us) I2.kIn hl) r2 hq) fun r s' hq' => ?_))
 cases r with
 | error e => exact hx pins σ _ _ e s' I2 hq'
 | ok fl =>
  cases fl with
  | ret u =>
   obtain ⟨v, H', I3, rv, ev, q3⟩ := I2.after hq'
   subst ev
   exact ⟨rv, ⟨V.ref (s.heap.objs.size + 1), H', I3, rfl, q3⟩⟩
  | next => exact Z3 hq'
  | brk => exact Z3 hq'
  | cont => exact Z3 hq'
theorem AT (M : Mk X.K C f) (F : bg X.prog X.w X.K X.mg X.base CX k f fd ps sp) (hr : Room (k + 1) X.A) (hg : Gl X x) (hm : X.mg x = some (.ref C)) (hb : Binds X.K fd ps ds) (hd : Vals dvs ds) (hx : eQ CX X E)
 (ha : PA X (e :: es) t) (hdb : (x == ("__debug__" : Str)) = false := by decide) (he : starEach (e :: es) X.env = (false, eval e X.env) :: starEach es X.env := by rfl) (hpl : (backTo pos (starEach es X.env)).any (·.1) = false := by rfl) :
 PE X (.Call (.Name x p) (e :: es) [] pos) (xM C sp dvs E t) := by
 intro pins s σ H Q I h
 refine Ym (j8 I hg hm ?_ hdb)
 refine PySem.W.callWith_K (h₀ := X.base) I.ok.mod.kin M.kp (thn (ha pos pins s σ H _ I h) fun us s1 ⟨vs, H1, I1, r, q⟩ => ⟨I1.kIn, ?_⟩) he hpl
 exact tQ M F hr hb hd hx I1 r q
theorem oo (M : Mk X.K C f) (F : bg X.prog X.w X.K X.mg X.base CX k f fd ps sp) (hr : Room (k + 1) X.A) (hg : Gl X x) (hm : X.mg x = some (.ref C)) (hb : Binds X.K fd ps ds) (hd : Vals dvs ds) (hx : eQ CX X E)
 (hdb : (x == ("__debug__" : Str)) = false := by decide) : PE X (.Call (.Name x p) [] [] pos) (xM C sp dvs E zR) := by
 intro pins s σ H Q I h
 refine Ym (j8 I hg hm ?_ hdb)
 exact PySem.W.callWith_K0 I.kIn M.kp (tQ (us := []) M F hr hb hd hx I .nil h)
end
end L2
namespace L2
open PySem PySem.Spec PyProof.Rows
def gX (wi : TI) (n : Nat) (g : TG) (ks : List Nat) (tt : TT) (te : TE) : TE := fun σ H Q => wi σ H fun J H1 => ∀ D, H1 D = none -> ∃ W : Nat -> Nat -> List V -> Hp -> Prop, (∃ m, W 0 m [] (upd H1 D (.lst []))) /\
 ∀ i m ys H2, W i m ys H2 -> H2 D = some (.lst ys) /\ ((J.stop i H2 /\ Q (.ref D) H2) \/ (J.go i H2 /\ ∀ x H3, J.yld i H2 x H3 -> ∀ zs : St, zs.length = n ->
  g x (zs ++ ks.map fun k => (σ[k]?).join) H3 fun σ4 H4 => (∃ zs4 : St, zs4.length = n /\ σ4 = zs4 ++ ks.map fun k => (σ[k]?).join) /\
   tt σ4 H4 fun b H5 => if b = true then te σ4 H5 fun y H6 => H6 D = some (.lst ys) /\ ys.length < sizeLine /\ ∃ m', m' < m /\ W (i + 1) m' (ys ++ [y]) (upd H6 D (.lst (ys ++ [y])))
    else ∃ m', m' < m /\ W (i + 1) m' ys H5))
theorem tX {X : Cx} {elt iter : Expr} {x : Str} {xs : List Str} {tg : Expr} {g : TG} {pos : Pos} {ifs : List Expr} {scope : Scope} {cl : List (Str × Addr)} {fr : List Str} {ks : List Nat} {wi : TI} {tt : TT} {te : TE} (hc : X.calm = true) (S : CompScope X scope cl x fr)
 (hks : ks.map (fun k => X.N[k]?) = fr.map some) (hi : PI X tg iter wi) (hg : ∀ C s₂ H₂ ex pn, PG (cP X (xs ++ fr) scope cl C s₂ H₂ ex pn) tg g)
 (ht : ∀ C s₂ H₂ ex pn, PTs (cP X (xs ++ fr) scope cl C s₂ H₂ ex pn) ifs tt) (he : ∀ C s₂ H₂ ex pn, PE (cP X (xs ++ fr) scope cl C s₂ H₂ ex pn) elt te)
 (hs : ∀ x, foldedSetIterable iter X.env x = pure x := by intro _; rfl)
 {pins : List (Addr × Obj)} {s : Shared} {σ : St} {H : Hp} {Q : VK} (I : Inv X pins σ H s) (h : gX wi xs.length g ks tt te σ H Q) (use : Option (Value -> Sem Unit)) (Qp : Value -> Shared -> Prop)
 (hend : ∀ (D C : Addr) (H' : Hp) (s' : Shared) (mC : Str -> Option Value) (f : Flow), Inv X pins σ H' s' -> sK X pins H' C -> s'.heap.Ns C mC -> Q (.ref D) H' -> compPost (model X.prog X.w) X.A X.xe use Qp (.ref D) C (.ok f) s') :
 wpAny (model X.prog X.w) X.A (comprehension (.ListComp elt [⟨tg, iter, ifs, 0⟩] scope pos) scope X.env (firstIterPos [⟨tg, iter, ifs, 0⟩] pos) (newList []) false (firstIter [⟨tg, iter, ifs, 0⟩] X.env) use) Qp X.xe s := by
 refine wpAny_comprehension_free (use := use) rfl hs S.clos S.kind S.names (thn (hi pins s σ H _ I h) fun v s1 h1 => thn h1 fun itv s2 h2 => ?_)
 obtain ⟨it, fp, tn, J, H2, e, I2, T, st2, f2, hW⟩ := h2
 subst e
 refine Zj (wpAny_newFunctionEnv S.nocell (by intro y hy; simp at hy) (fun h₁ hns₁ hsb₁ => ?_) S.kind)
 dsimp only at hns₁ hsb₁ |-
 have hD0 : H2 s2.heap.objs.size = none := I2.hok.fresh (zM _)
 obtain ⟨W, ⟨m0, w0⟩, turn⟩ := hW s2.heap.objs.size hD0
 generalize hs3 : s2.heap.push { cls := .type "list", dict := none, data := .seq ([] : List Value).toArray } = g3 at hns₁ hsb₁ |-
 have hsz3 : g3.objs.size = s2.heap.objs.size + 1 := by rw [<- hs3, Heap.size_push]
 have up3 : ∀ b o, s2.heap.get? b = some o -> g3.get? b = some o := fun b o e => by rw [<- hs3]; exact Heap.get?_push_of_some _ e
 have gD : g3.get? s2.heap.objs.size = some { cls := .type "list", dict := none, data := .seq ([] : List Value).toArray } := by rw [<- hs3]; exact Heap.get?_push_size _ rfl
 have I3 : Inv X pins σ (upd H2 s2.heap.objs.size (.lst [])) { s2 with heap := g3 } := I2.laid (t' := s2.toks) up3 (zM _) ⟨by simp, [], 0, .nil, gD⟩
 have keep4 : ∀ b o, g3.get? b = some o -> h₁.get? b = some o := fun b o e => (hsb₁.2 b (tB (xi e))).trans (Heap.get?_push_of_some _ e)
 have hCn : (upd H2 s2.heap.objs.size (.lst [])) g3.objs.size = none := I3.hok.fresh (zM _)
 have fpD : ∀ b ∈ fp, b ≠ s2.heap.objs.size := fun b hb z => by
  obtain ⟨o, e, _⟩ := T.obj 0 _ st2 b hb
  exact absurd (xi e) (by rw [z]; exact ZX _)
 have fpC : ∀ b ∈ fp, b ≠ g3.objs.size := fun b hb z => by
  obtain ⟨o, e, _⟩ := T.obj 0 _ st2 b hb
  exact absurd (xi (up3 b o e)) (by rw [z]; exact ZX _)
 have fpN : ∀ b ∈ fp, (upd H2 s2.heap.objs.size (.lst [])) b = none := fun b hb => by rw [ar (fpD b hb)]; exact (f2 b hb).1
 have Ok : (cP X (xs ++ fr) scope cl g3.objs.size { s2 with heap := g3 } (upd H2 s2.heap.objs.size (.lst [])) fp (X.pn ++ pins)).Ok := by
  refine ⟨I.ok.mod, S.kind, I.ok.glob, I.ok.blt, zM _, fun y z c e1 e2 => I.ok.inj y z c (S.sub e1) (S.sub e2), fun y hy => ?_, (fun y c z => nomatch z), I.ok.hd, I.ok.frames, .inl rfl, fun b hb => ⟨fpC b hb, fun y c e => (f2 b hb).2.2.2.2.1 y c (S.sub e)⟩, I3.bs, qM I.ok.bsz I3.sz, fun b o e hb => ?_, fun b hb z => ?_, I3.stack, I3.stkFree⟩
  ·have hy' : y ∈ fr := S.only y hy
   obtain ⟨c, e⟩ := I.ok.has y (S.kinds y hy')
   exact ⟨c, (S.cell hy').trans e⟩
  ·rcases (f2 b hb).2.2.2.1 with q | q
   ·exact I.ok.noex b o e q
   ·exact absurd (xi e) (Nat.not_lt.mpr (qM I.ok.bsz q))
  ·rcases ze.mp (I3.stkSub b z) with q | q
   ·exact (f2 b hb).2.1 q
   ·exact (f2 b hb).2.2.1 q
 have I4 : Inv (cP X (xs ++ fr) scope cl g3.objs.size { s2 with heap := g3 } (upd H2 s2.heap.objs.size (.lst [])) fp (X.pn ++ pins)) [] ((xs.map fun _ => none) ++ ks.map fun k => (σ[k]?).join) (upd H2 s2.heap.objs.size (.lst [])) { s2 with heap := h₁, toks := s2.toks + ([] : List (Str × Value)).length } := by
  refine ⟨Ok, rfl, I3.bare, Un.kept keep4, ⟨_, hns₁, fun i y v e1 e2 e3 => ?_⟩, fun y c e => ?_, hCn, fun y c e => I3.freeC y c (S.sub e), fun p hp => ?_, I3.hok.kept keep4, ?_⟩
  ·have e1' : (xs ++ fr)[i]? = some y := e1
   by_cases hix : i < xs.length
   ·rw [List.getElem?_append_left (by simpa using hix)] at e2
    simp [hix] at e2
   ·obtain ⟨i, rfl⟩ : ∃ i', i = xs.length + i' := ⟨i - xs.length, by omega⟩
    rw [List.getElem?_append_right (by omega)] at e1'
    rw [List.getElem?_append_right (by simp)] at e2
    have e1' : fr[i]? = some y := by simpa using e1'
    have e2 : (ks.map fun k => (σ[k]?).join)[i]? = some (some v) := by simpa using e2
    have hy : y ∈ fr := tM e1'
    have ek : (ks.map (fun k => X.N[k]?))[i]? = (fr.map some)[i]? := by rw [hks]
    rw [List.getElem?_map, List.getElem?_map, e1'] at ek
    have e2' := e2
    rw [List.getElem?_map] at e2'
    cases hk : ks[i]? with
    | none => rw [hk] at ek; cases ek
    | some k =>
     rw [hk] at ek e2'
     have ek' : X.N[k]? = some y := by simpa using ek
     have e2'' : (σ[k]?).join = some v := by simpa using e2'
     have es : σ[k]? = some (some v) := by
      cases q : σ[k]? with
      | none => rw [q] at e2''; cases e2''
      | some z => rw [q] at e2''; rw [show z = some v from e2'']
     obtain ⟨m, hn, hl⟩ := I3.loc
     have hkd := S.kinds y hy
     obtain ⟨u, r, lk⟩ := hl k y v ek' es (by rcases hkd with q | q; exact .inr (.inl q); exact .inr (.inr q))
     refine ⟨u, r, .inr ⟨S.kin y hy, ?_⟩⟩
     rcases lk with ⟨q, _⟩ | ⟨_, c, ec, hcell⟩
     ·rcases hkd with z | z <;> (rw [q] at z; cases z)
     ·obtain ⟨o, ho, hd⟩ := hcell
      exact ⟨c, (S.cell hy).trans ec, o, keep4 _ _ ho, hd⟩
  ·obtain ⟨v, o, ho, hd⟩ := I3.cell y c (S.sub e)
   exact ⟨v, o, keep4 _ _ ho, hd⟩
  ·have hp' : p ∈ X.pn ++ pins := by simpa [cP] using hp
   obtain ⟨a1, a2, a3, a4, a5⟩ := I3.pin p hp'
   refine ⟨keep4 _ _ a1, a2, tB (xi a1), fun z => ?_, a5⟩
   rcases ze.mp (I3.stkSub p.1 z) with q | q
   ·exact a3 q
   ·exact a4 q
  ·show ((xs.map fun _ => none) ++ ks.map _).length = (xs ++ fr).length
   have := congrArg ZN hks
   simp at this
   simp [this]
 have st4 : tn 0 h₁ := T.keep 0 _ _ st2 fun b hb o e => keep4 _ _ (up3 _ _ e)
 have stat : ∀ {H' : Hp}, (∀ b ∈ fp, H' b = none) -> ∀ b ∈ fp, sK (cP X (xs ++ fr) scope cl g3.objs.size { s2 with heap := g3 } (upd H2 s2.heap.objs.size (.lst [])) fp (X.pn ++ pins)) [] H' b := fun hn b hb =>
  ⟨hn b hb, fpC b hb, Ok.exfs b hb, .inl hb, fun y c e => (f2 b hb).2.2.2.2.1 y c (S.sub e), fun p hp => (f2 b hb).2.2.2.2.2 p (by simpa [cP] using hp)⟩
 have loop : codeAny (model X.prog X.w) X.A (.compLoop (.ListComp elt [⟨tg, iter, ifs, 0⟩] scope pos) 0 (.ref it) (.ref s2.heap.objs.size) (compEnvC scope cl g3.objs.size X.env))
  (compPost (model X.prog X.w) X.A X.xe use Qp (.ref s2.heap.objs.size) g3.objs.size) { s2 with heap := h₁, toks := s2.toks + ([] : List (Str × Value)).length } := by
  refine u9 (fun n s' => ∃ i ys σ' H', Inv (cP X (xs ++ fr) scope cl g3.objs.size { s2 with heap := g3 } (upd H2 s2.heap.objs.size (.lst [])) fp (X.pn ++ pins)) [] σ' H' s' /\ (∃ zs, zs.length = xs.length /\ σ' = zs ++ ks.map fun k => (σ[k]?).join) /\ tn i s'.heap /\ (∀ b ∈ fp, H' b = none) /\ W i n ys H') ?_ m0
   ⟨0, [], _, _, I4, ⟨xs.map fun _ => none, by simp, rfl⟩, st4, fpN, w0⟩
  rintro n s' ⟨i, ys, σ', H', I5, ⟨zs, hzs, rfl⟩, st5, fr5, w5⟩
  obtain ⟨hD, hor⟩ := turn i n ys H' w5
  rcases hor with ⟨stop, qn⟩ | ⟨go, step⟩
  ·refine Zq (T.done (cP X (xs ++ fr) scope cl g3.objs.size { s2 with heap := g3 } (upd H2 s2.heap.objs.size (.lst [])) fp (X.pn ++ pins)) rfl rfl rfl hc i [] s' _ H' (fun _ _ => False) I5 (stat fr5) st5 stop) (fun r s6 ⟨hr, I6⟩ => ?_) (fun _ _ f => f.elim)
   subst hr
   obtain ⟨mC, hnC, _⟩ := I6.loc
   have tr : ∀ b o, b ≠ g3.objs.size -> s6.heap.get? b = some o -> s6.heap.get? b = some o := fun b o hb e => e
   have U := I6.base
   have neC : ∀ b o, g3.get? b = some o -> b ≠ g3.objs.size := fun b o e => tB (xi e)
   have U' : Un (frs X.stack) fp (upd H2 s2.heap.objs.size (.lst [])) H' g3 s6.heap := ⟨fun b o q n hb hx => tr b o (neC b o q) (U.keep b o q n hb hx), fun b o q n hb hx => let ⟨sl, e⟩ := U.slot b o q n hb hx; ⟨sl, tr _ _ (neC b o q) e⟩, U.free, fun b o q hx => let ⟨o', e⟩ := U.there b o q hx; ⟨o', tr _ _ (neC b o q) e⟩, U.tups, U.frzs, U.tbls⟩
   have ok' : HOk X.prog X.w H' s6.heap := fun a o e => (I6.hok a o e).stay (fun b u hb q => tr b u (fun z => by
    have fC : H' g3.objs.size = none := I6.free
    rcases hb with r | r
    ·rw [<- z, r, e] at fC; cases fC
    ·rw [<- z, r] at fC; cases fC) q) (fun _ q => q) fun _ _ q => q
   have J6 : Inv X pins σ H' s6 := I3.call' (s' := s6) (ch := fp) I6.os U' ok' I6.bare fun b hb => ⟨(f2 b hb).2.2.2.1, (f2 b hb).2.1, (f2 b hb).2.2.2.2.1, (f2 b hb).2.2.2.2.2⟩
   exact hend s2.heap.objs.size g3.objs.size H' s6 mC _ J6 (I3.fpOk (zM _) I6.free) hnC qn
  ·refine Zq (T.item (cP X (xs ++ fr) scope cl g3.objs.size { s2 with heap := g3 } (upd H2 s2.heap.objs.size (.lst [])) fp (X.pn ++ pins)) rfl rfl rfl hc i [] s' _ H' (fun _ _ => False) I5 (stat fr5) st5 go) (fun r s6 ⟨u, hr, h6⟩ => ?_) (fun _ _ f => f.elim)
   subst hr
   refine Zq h6 (fun _ s7 ⟨xv, H7, I7, r7, y7, st7, fr7⟩ => ?_) (fun _ _ f => f.elim)
   have I7' := I7.pinned (stat fr7) (T.obj _ _ st7)
   have pinsTo : ∀ {σ9 : St} {H9 : Hp} {s9 : Shared}, Inv (cP X (xs ++ fr) scope cl g3.objs.size { s2 with heap := g3 } (upd H2 s2.heap.objs.size (.lst [])) fp (X.pn ++ pins)) ([] ++ rM fp s7.heap) σ9 H9 s9 -> tn (i + 1) s9.heap /\ ∀ b ∈ fp, H9 b = none := fun {σ9 H9 s9} I9 =>
    ⟨T.keep _ _ _ st7 fun b hb o e => (I9.pin (b, o) (pe _ (pe _ (iG hb e)))).1, fun b hb => by
     obtain ⟨o, e, d⟩ := T.obj _ _ st7 b hb
     exact (I9.pin (b, o) (pe _ (pe _ (iG hb e)))).2.1⟩
   refine Zq (hg _ _ _ _ _ _ s7 _ H7 xv u _ I7' r7 (step xv H7 y7 zs hzs)) (fun _ s8 ⟨σ8, H8, I8, ⟨zs4, hz4, e8⟩, q8⟩ => ?_) (fun _ _ f => f.elim)
   subst e8
   refine Zq (ht _ _ _ _ _ _ s8 _ H8 _ I8 q8) (fun ok s9 ⟨H9, I9, q9⟩ => ?_) (fun _ _ f => f.elim)
   cases ok with
   | false =>
    rw [if_neg xh] at q9 |-
    obtain ⟨m', hm, w9⟩ := q9
    obtain ⟨t9, f9⟩ := pinsTo I9
    exact ⟨m', hm, i + 1, ys, _, H9, I9.unpinned, ⟨zs4, hz4, rfl⟩, t9, f9, w9⟩
   | true =>
    rw [if_pos rfl] at q9 |-
    refine Zq (he _ _ _ _ _ _ s9 _ H9 _ I9 q9) (fun yv s10 ⟨y, H10, I10, r10, hD10, hlen, m', hm, w10⟩ => ?_) (fun _ _ f => f.elim)
    refine Zq (d4 (X := cP X (xs ++ fr) scope cl g3.objs.size { s2 with heap := g3 } (upd H2 s2.heap.objs.size (.lst [])) fp (X.pn ++ pins)) _ s10 _ H10 (.ref s2.heap.objs.size) [y] (.ref s2.heap.objs.size) [yv]
     (fun _ H' => H' = upd H10 s2.heap.objs.size (.lst (ys ++ [y]))) I10 rfl (.cons r10 .nil) ⟨_, ys, y, rfl, rfl, hD10, hlen, rfl⟩) (fun _ s11 ⟨_, H11, I11, _, e11⟩ => ?_) (fun _ _ f => f.elim)
    subst e11
    obtain ⟨t11, f11⟩ := pinsTo I11
    exact ⟨m', hm, i + 1, ys ++ [y], _, _, I11.unpinned, ⟨zs4, hz4, rfl⟩, t11, f11, w10⟩
 exact codeAny_compStart_list loop (T.self X.A 0 _ _ _ st4 loop)
theorem cB {X : Cx} {elt iter : Expr} {x : Str} {xs : List Str} {tg : Expr} {g : TG} {pos : Pos} {ifs : List Expr} {scope : Scope} {cl : List (Str × Addr)} {fr : List Str} {ks : List Nat} {wi : TI} {tt : TT} {te : TE} (hc : X.calm = true) (S : CompScope X scope cl x fr)
 (hks : ks.map (fun k => X.N[k]?) = fr.map some) (hi : PI X tg iter wi) (hg : ∀ C s₂ H₂ ex pn, PG (cP X (xs ++ fr) scope cl C s₂ H₂ ex pn) tg g)
 (ht : ∀ C s₂ H₂ ex pn, PTs (cP X (xs ++ fr) scope cl C s₂ H₂ ex pn) ifs tt) (he : ∀ C s₂ H₂ ex pn, PE (cP X (xs ++ fr) scope cl C s₂ H₂ ex pn) elt te)
 (hs : ∀ x, foldedSetIterable iter X.env x = pure x := by intro _; rfl) : PE X (.ListComp elt [⟨tg, iter, ifs, 0⟩] scope pos) (gX wi xs.length g ks tt te) := by
 intro pins s σ H Q I h
 rw [eval_ListComp]
 refine tX hc S hks hi hg ht he hs I h none _ fun D C H' s' mC f J fp hn q => ⟨mC, hn, fun h' sb => ?_⟩
 obtain ⟨f0, f1, f2, f3, f4, f5⟩ := fp
 exact ⟨.ref D, H', J.turned (t' := s'.toks) (fun b o hb e => (sb.2 b hb).trans e) f0 f1 f3 f4 f5, rfl, q⟩
theorem ic {i0 : Nat} {x0 : Str} {px0 pos0 : Pos} {X : Cx} {elt iter : Expr} {x : Str} {xs : List Str} {tg : Expr} {g : TG} {pos : Pos} {ifs : List Expr} {scope : Scope} {cl : List (Str × Addr)} {fr : List Str} {ks : List Nat} {wi : TI} {tt : TT} {te : TE} (hN : X.N.Nodup) (hi0 : X.N[i0]? = some x0) (hx0 : Loc X.env.scope x0) (hc : X.calm = true) (S : CompScope X scope cl x fr)
 (hks : ks.map (fun k => X.N[k]?) = fr.map some) (hi : PI X tg iter wi) (hg : ∀ C s₂ H₂ ex pn, PG (cP X (xs ++ fr) scope cl C s₂ H₂ ex pn) tg g)
 (ht : ∀ C s₂ H₂ ex pn, PTs (cP X (xs ++ fr) scope cl C s₂ H₂ ex pn) ifs tt) (he : ∀ C s₂ H₂ ex pn, PE (cP X (xs ++ fr) scope cl C s₂ H₂ ex pn) elt te)
 (hs : ∀ x, foldedSetIterable iter X.env x = pure x := by intro _; rfl)
 (hsw : swapsWith (.ListComp elt [⟨tg, iter, ifs, 0⟩] scope pos) (some (.Name x0 px0)) pos0.line X.env = pure true := by rfl) (hf : X.fn x0 = true \/ X.env.scope.names.lookup x0 = some .local := by first | exact .inl rfl | exact .inr rfl | assumption) :
 PS X (.Assign [.Name x0 px0] (.ListComp elt [⟨tg, iter, ifs, 0⟩] scope pos) pos0) (DL (gX wi xs.length g ks tt te) (ii i0)) := by
 intro pins s σ H D I h
 rw [exec_Assign_Name_used _ _ _ _ hsw]
 refine zz (wpAny_standAt (zz (zz ?_)))
 refine tX hc S hks hi hg ht he hs I h (some (assign (.Name x0 px0) X.env)) _ fun D' C H' s' mC f J fp hn q => ?_
 obtain ⟨f0, f1, f2, f3, f4, f5⟩ := fp
 refine wpAny_assign_Name (tL J hN hi0 hx0 (v := .ref D') rfl (fun s7 I7 ⟨a, sb, ha⟩ => ?_) hf)
 have hCa : C ≠ a := by
  rcases ha with e | e
  ·rw [e]; exact f1
  ·exact fun z => f4 _ _ e z.symm
 refine ⟨mC, hn.sameBut sb hCa, fun h' sb2 => ?_⟩
 have J2 := I7.turned (t' := s7.toks) (fun b o hb e => (sb2.2 b hb).trans e) f0 f1 f3 f4 f5
 exact yZ (yZ ⟨_, H', J2, q⟩)
end L2
namespace L2
open PySem PySem.Spec PyProof.Rows Builtin Builtin.Str
section
variable {prog : Program} {w : World} {A : Around} {E : Value -> Shared -> Prop} {s : Shared} {t : Addr}
theorem Aj {xs : Array (Int × Tok)} {Q : Value -> Shared -> Prop} (hh : A.handled = none) (ht : s.heap.IsList t (intItems xs))
 (h : ∀ h' tk t', (∀ b o, s.heap.get? b = some o -> h'.get? b = some o) -> Q (.int (preSum (numAt xs) xs.size) t') { s with heap := h', toks := tk }) :
 wpAny (model prog w) A (call (.builtin "sum") [.ref t]) Q E s := by
 obtain ⟨o, ho, hc, n, hd⟩ := id ht
 have hne : t ≠ s.heap.objs.size := tB (xi ho)
 have hsz : (intItems xs).size = xs.size := by simp [intItems]
 have W := (Walks.list (prog := prog) (w := w) (A := A.in1) hh s.heap.objs.size t hne (intItems xs)).toS
 rw [hsz] at W
 refine call_sum_walkAnyS (wpAny_pyIter_list ht ?_)
 refine ⟨s.heap.objs.size, _, _, _, _, _, _, numAt xs, rfl, W, ⟨⟨_, Heap.get?_push_size _ rfl, rfl, rfl⟩, ht.at fun o e => Heap.get?_push_of_some _ e⟩, fun b hb => ?_, fun i v hP => intItems_at hP, fun s' t' hm => ?_⟩
 ·rcases ze.mp hb with rfl | hb
  ·exact xi (Heap.get?_push_size _ rfl)
  ·obtain rfl := zr.mp hb
   exact xi (Heap.get?_push_of_some _ ho)
 ·obtain ⟨h', g', d', tk', os'⟩ := s'
  have e1 : g' = s.gens := hm.gens
  have e2 : d' = s.drawn := hm.drawn
  have e3 : os' = s.os := hm.os
  subst e1 e2 e3
  exact h h' tk' t' fun b o e => hm.heap b o (fun hb => absurd (xi e) ((zr.mp hb) ▸ ZX _)) (Heap.get?_push_of_some _ e)
end
section
variable {X : Cx} {e a b c : Expr} {pos : Pos}
def Gf (K : W.Frag) : List V -> Hp -> VK -> Prop
 | [.ref p], H, Q => ∃ ns : List Int, (SqL K H p (ns.map V.int) \/ SqT K H p (ns.map V.int)) /\ Q (.int ns.sum) H
 | _, _, _ => False
theorem gJ (K : W.Frag) (hc : X.calm = true) (hK : X.K = K := by rfl) : CallR X (.builtin "sum") (Gf K) := by
 subst hK
 intro pins s σ H xs us Q I r h
 unfold Gf at h
 split at h
 ·rename_i p
  obtain ⟨ns, hq, q⟩ := h
  rcases hq with hq | hq
  ·obtain ⟨u, rfl, rx⟩ := fz r
   cases (show u = vY p from rx)
   obtain ⟨its, r', pl, hz⟩ := I.list hq
   have hi := qJ r'
   obtain ⟨ys, hy⟩ := hi.allInts.items
   have hn : numsOf its.toArray.toList = ns := by rw [show its.toArray.toList = its from rfl, hi.numsOf]
   have pl' := pl.isList
   rw [hy] at pl' hn
   rw [nums_intItems] at hn
   refine Aj (I.ok.hd hc) pl' fun h' tk t' hk => ?_
   rw [preSum_eq, qa (by simp), hn]
   exact ⟨.int ns.sum, H, I.kept hk, ⟨_, rfl⟩, q⟩
  ·exact vA hc pins s σ H _ us Q I r ⟨p, ns, rfl, hq, q⟩
 ·exact h.elim
def Fn (K : W.Frag) (neg : Bool) : R2
 | x, .ref p, H, Q => ∃ xs, (SqL K H p xs \/ SqT K H p xs) /\ da x = true /\ xs.all da = true /\ Q (.bl (neg ^^ inV x xs)) H
 | _, _, _, _ => False
theorem At (K : W.Frag) (hK : X.K = K := by rfl) : OpR X (pZ .NotIn) (Fn K true) := by
 subst hK
 refine u8.imp fun x y H Q h => ?_
 unfold Fn at h
 split at h
 ·obtain ⟨xs, h1, h2, h3, q⟩ := h
  exact ⟨_, xs, rfl, h1, h2, h3, by simpa using q⟩
 ·exact h.elim
section
variable {T name id : String} {r : V -> List V -> Hp -> VK -> Prop} {o : Expr} {to : TE} {apos cpos : Pos}
end
end
end L2
namespace L2
theorem dD {l : List PySem.Str} (h : l.Nodup) : l.Nodup := h
end L2
namespace L2
def sp5 (f : V -> V -> V -> V -> V -> Hp -> VK -> XK -> Prop) : Sp := fun vs H Q E => match vs with
 | [x, y, z, u, v] => f x y z u v H Q E
 | _ => False
theorem sp5.inv {vs : List V} {H : Hp} {Q : VK} {E : XK} {f} (h : sp5 f vs H Q E) : ∃ x y z u v, vs = [x, y, z, u, v] /\ f x y z u v H Q E := by
 unfold sp5 at h; split at h
 ·exact ⟨_, _, _, _, _, rfl, h⟩
 ·exact h.elim
theorem sp5.len {vs : List V} {H : Hp} {Q : VK} {E : XK} {f} (h : sp5 f vs H Q E) : vs.length = 5 := by obtain ⟨_, _, _, _, _, rfl, _⟩ := sp5.inv h; rfl
theorem qz {n : PySem.Str} {v : V} {l : List (PySem.Str × V)} : nj n ((n, v) :: l) = some v := by simp [nj]
theorem fG {n m : PySem.Str} {v : V} {l : List (PySem.Str × V)} (h : (n == m) = false) : nj n ((m, v) :: l) = nj n l := by simp [nj, h]
end L2
set_option maxHeartbeats 1000000
namespace L2
open PySem PySem.Spec PyProof.Rows
structure HX (k : Nat) (A : Around) : Prop where
 dp : A.depth + 3 * k + 5 < recursionLimit
 un : A.units + 16 * k + 200 < cLine
section
variable {X : Cx} {CX : CXT} {k : Nat} {f : Addr} {fd : FuncData} {ps : List Str} {sp : Sp} {dvs : List V} {ds : List Value} {E : XKs} {x : Str} {p pos : Pos} {e : Expr} {es : List Expr} {t : TA}
end
end L2
set_option maxHeartbeats 1000000
namespace L2
open PySem PySem.Spec PyProof.Rows
section
variable {X : Cx} {tg : Expr}
end
end L2
namespace L2
theorem ex1 {α : Type} {us : List α} (hl : us.length = 1) : ∃ a0, us = [a0] := by
 match us, hl with
 | [a0], _ => exact ⟨a0, rfl⟩
theorem ex2 {α : Type} {us : List α} (hl : us.length = 2) : ∃ a0 a1, us = [a0, a1] := by
 match us, hl with
 | [a0, a1], _ => exact ⟨a0, a1, rfl⟩
theorem ex3 {α : Type} {us : List α} (hl : us.length = 3) : ∃ a0 a1 a2, us = [a0, a1, a2] := by
 match us, hl with
 | [a0, a1, a2], _ => exact ⟨a0, a1, a2, rfl⟩
theorem ex4 {α : Type} {us : List α} (hl : us.length = 4) : ∃ a0 a1 a2 a3, us = [a0, a1, a2, a3] := by
 match us, hl with
 | [a0, a1, a2, a3], _ => exact ⟨a0, a1, a2, a3, rfl⟩
theorem ex5 {α : Type} {us : List α} (hl : us.length = 5) : ∃ a0 a1 a2 a3 a4, us = [a0, a1, a2, a3, a4] := by
 match us, hl with
 | [a0, a1, a2, a3, a4], _ => exact ⟨a0, a1, a2, a3, a4, rfl⟩
end L2
namespace L2
open Lean Meta Simp
def Gh : List Name := [`L2.Ct, `L2.tC, `L2.tOp, `L2.tUn, `L2.gEqN, `L2.ww, `L2.xx, `L2.GE, `L2.fOr, `L2.Hq, `L2.BE, `L2.fPickT, `L2.Hf, `L2.GW, `L2.Gs, `L2.tRetN, `L2.EO, `L2.EK, `L2.DL, `L2.ii, `L2.tIf, `L2.GF, `L2.tOr, `L2.GH, `L2.wG, `L2.zR, `L2.tCB, `L2.B8, `L2.E7, `L2.Hh, `L2.tIsN, `L2.ED, `L2.tIsB, `L2.Ep, `L2.yT, `L2.tSl, `L2.cs, `L2.DX, `L2.CMul, `L2.FZ, `L2.BX, `L2.GD, `L2.gcE, `L2.tGcT, `L2.tGc, `L2.tBM, `L2.EA, `L2.fJoinRev, `L2.BN, `L2.zm, `L2.Dg, `L2.yR, `L2.Gm, `L2.Hd, `L2.Es, `L2.EJ, `L2.EL, `L2.xz, `L2.xM, `L2.tDGet1, `L2.tDGet2, `L2.Eo, `L2.tBM0, `L2.rClear]
def Fc : List Name := [`L2.E9, `L2.gI, `L2.gIC, `L2.Dx, `L2.gLe, `L2.gLt, `L2.eqS, `L2.kB, `L2.Hu, `L2.Fv, `L2.E_, `L2.DJ, `L2.CZ, `L2.gInt, `L2.gIx, `L2.sp0, `L2.sp1, `L2.sp2, `L2.sp3, `L2.sp4, `L2.asI, `L2.asT, `L2.asB, `L2.asR, `L2.tyV, `L2.gSt, `L2.gEn, `L2.gZf, `L2.gStr, `L2.Cj, `L2.gIn, `L2.gSl, `L2.Hx, `L2.gMulS, `L2.Fw, `L2.gRep, `L2.gRepT, `L2.gIsiT, `L2.AR, `L2.yd, `L2.FP, `L2.Fb, `L2.F3, `L2.A_, `L2.yG, `L2.Gf, `L2.gMulT]
def rdI := yO @L2.DZ (yO @L2.Hw (yO @L2.V.bl.injEq (yO @L2.V.str.injEq (yO @L2.Af (yO @L2.GL (yO @L2.Gn (yO @L2.E4 (yO @L2.Fd (yO @L2.FW (yO @L2.pK (yO @L2.vH (yO @L2.yx (yO @L2.yc (yO @L2.wB (yO @L2.uN (yO @L2.wq (yO @L2.CV (yO @L2.oQ (yO @L2.uj (yO @L2.wE (yO @L2.vW (yO @L2.vz (yO @L2.sQ (yO @L2.uk (yO @L2.FS (yO @L2.pI (yO @L2.wY (yO @L2.yz (yO @L2.xN (yO @L2.wX (yO @L2.uK (yO @L2.wR (yO @L2.D9 (yO @L2.ou (yO @L2.vh (yO @L2.wJ (yO @L2.wm (yO @L2.vy (yO @L2.sD (yO @L2.uE (yO @L2.AW (yO @L2.mX (yO @L2.r8 (yO @L2.uG (yO @L2.uX (yO @L2.r6 (yO @L2.qW (yO @L2.sM (yO @L2.Dm (yO @L2.oW (yO @L2.vd (yO @L2.wZ (yO @L2.w_ (yO @L2.vn (yO @L2.sF (yO @L2.uJ (yO @L2.Hj (yO @L2.Gk (yO @L2.F_ (yO @L2.Gg (yO @L2.Dw (yO @L2.FC (yO @L2.CL (yO @L2.Ej (yO @L2.Db (yO @L2.DK (yO @L2.E1 (yO @L2.Ea (yO @L2.CU (yO @L2.DC (yO @true_and (yO @and_true (yO @and_self (yO @true_or (yO @or_true (yO @decide_eq_true_eq (yO @Bool.true_eq_false (yO @Bool.false_xor (yO @Bool.true_xor (yO @Bool.not_true (yO @Bool.not_false (yO @nJ (yO @Bool.not_eq_true' (yO @decide_eq_false_iff_not @Classical.not_not))))))))))))))))))))))))))))))))))))))))))))))))))))))))))))))))))))))))))))))))))))
end L2
namespace L2
namespace Srt
open PySem PyProof.Rows
def kv (κ : Keyed -> Int) (xs : Array Keyed) (i : Nat) : Int := (xs[i]?.map κ).getD 0
def Up (κ : Keyed -> Int) (xs : Array Keyed) (k : Nat) : Prop := ∀ i j, i <= j -> j < k -> kv κ xs i <= kv κ xs j
def Dn (κ : Keyed -> Int) (xs : Array Keyed) (k : Nat) : Prop := ∀ i j, i <= j -> j < k -> kv κ xs j <= kv κ xs i
structure SB (kd : SortKind) (z : Array Keyed) (t : SortSt) : Prop where
 pm : (arrOf t).Perm z
 kn : kindOf t = kd
 fl : failedOf t = none
 pn : pendingOf t = #[]
theorem SB.sz {kd : SortKind} {z : Array Keyed} {t : SortSt} (b : SB kd z t) : (arrOf t).size = z.size := b.pm.size_eq
theorem SB.put {kd : SortKind} {z : Array Keyed} {t : SortSt} {xs : Array Keyed} (b : SB kd z t) (p : xs.Perm (arrOf t)) : SB kd z (setArr t xs) :=
 ⟨p.trans b.pm, b.kn, b.fl, b.pn⟩
theorem tE {κ : Keyed -> Int} {xs : Array Keyed} {i : Nat} (h : i < xs.size) : kv κ xs i = κ xs[i] := by
 unfold kv; rw [Array.getElem?_eq_getElem h]; rfl
theorem yN {κ : Keyed -> Int} {xs ys : Array Keyed} {i j : Nat} (h : xs[i]? = ys[j]?) : kv κ xs i = kv κ ys j := by unfold kv; rw [h]
theorem BQ {κ : Keyed -> Int} {xs : Array Keyed} {u d : Nat} (hs : u < xs.size) (hd : d <= u) (k : Nat) :
 kv κ (bubble xs u d) k = if k = u - d then kv κ xs u else if u - d < k /\ k <= u then kv κ xs (k - 1) else kv κ xs k := by
 have e := getElem?_bubble hs d hd k
 by_cases h1 : k = u - d
 ·rw [if_pos h1] at e |-
  exact yN e
 ·rw [if_neg h1] at e |-
  by_cases h2 : u - d < k /\ k <= u
  ·rw [if_pos h2] at e |-
   exact yN e
  ·rw [if_neg h2] at e |-
   exact yN e
theorem BS {κ : Keyed -> Int} {xs : Array Keyed} {n : Nat} (hj : n <= xs.size) {k : Nat} (hk : k < n) :
 kv κ (mirror xs 0 n ((n - 0) / 2)) k = kv κ xs (n - 1 - k) := by
 have e := getElem?_mirror_all (i := 0) hj k
 rw [if_pos ⟨o3 _, hk⟩, Nat.zero_add] at e
 exact yN e
section
variable {prog : Program} {w : World} {A : Around} {E : Value -> Shared -> Prop} {s : Shared} {z : Array Keyed} {κ : Keyed -> Int} {kd : SortKind} {t : SortSt}
def Lts (prog : Program) (w : World) (A : Around) (s : Shared) (kd : SortKind) (κ : Keyed -> Int) (z : Array Keyed) : Prop :=
 ∀ (E : Value -> Shared -> Prop) (p q : Keyed) (Q : Bool -> Shared -> Prop), p ∈ z.toList -> q ∈ z.toList -> Q (decide (κ p < κ q)) s -> wpAny (model prog w) A (keyLt' kd p.1 q.1) Q E s
theorem SB.mem (b : SB kd z t) {i : Nat} (h : i < (arrOf t).size) : (arrOf t)[i] ∈ z.toList :=
 (Z5.mp b.pm).mem_iff.mp (by simp)
theorem wk {i j : Nat} {Q : Option Bool -> SortSt -> Prop} (L : Lts prog w A s kd κ z) (b : SB kd z t) (hi : i < z.size) (hj : j < z.size)
 (h : Q (some (decide (kv κ (arrOf t) i < kv κ (arrOf t) j))) t) : wpS (model prog w) A E s (ltAt' i j) Q t := by
 have i' : i < (arrOf t).size := b.sz ▸ hi
 have j' : j < (arrOf t).size := b.sz ▸ hj
 rw [tE i', tE j'] at h
 rw [ltAt'_eq]
 refine wpS_bind (wpS_get ?_)
 show wpS (model prog w) A E s (elem' (arrOf t) i >>= fun p => elem' (arrOf t) j >>= fun q => lt' p q) Q t
 rw [elem'_eq, elem'_eq, Array.getElem?_eq_getElem i', Array.getElem?_eq_getElem j']
 refine wpS_bind (wpS_pure (wpS_bind (wpS_pure ?_)))
 rw [lt'_eq]
 refine wpS_bind (wpS_get ?_)
 rw [b.kn]
 exact wpS_bind (wpS_lift (wpAny_attempt (L _ _ _ _ (b.mem i') (b.mem j') ⟨rfl, wpS_pure h⟩)))
def qG (κ : Keyed -> Int) (z : Array Keyed) : Prop := (z.toList.map κ).Nodup
theorem apart (b : SB kd z t) (D : qG κ z) {i j : Nat} (hj : j < z.size) (h : i < j) : kv κ (arrOf t) i ≠ kv κ (arrOf t) j := by
 have j' : j < (arrOf t).size := b.sz ▸ hj
 have i' : i < (arrOf t).size := Nat.lt_trans h j'
 have d : ((arrOf t).toList.map κ).Nodup := ((Z5.mp b.pm).map κ).nodup_iff.mpr D
 rw [tE i', tE j']
 intro e
 have := Z7.mp d i j (by simpa using i') (by simpa using j') h
 simp at this
 exact this e
theorem DM {xs : Array Keyed} {n : Nat} (u : Up κ xs n) (h : n = 0 \/ kv κ xs (n - 1) <= kv κ xs n) : Up κ xs (n + 1) := by
 intro i j a c
 by_cases e : j < n
 ·exact u i j a e
 ·have : j = n := by omega
  subst this
  by_cases e2 : i = j
  ·subst e2; exact Yy _
  ·exact Int.le_trans (u i (j - 1) (by omega) (by omega)) (h.resolve_left (by omega))
theorem zJ {xs : Array Keyed} {n : Nat} (u : Dn κ xs n) (h : n = 0 \/ kv κ xs n <= kv κ xs (n - 1)) : Dn κ xs (n + 1) := by
 intro i j a c
 by_cases e : j < n
 ·exact u i j a e
 ·have : j = n := by omega
  subst this
  by_cases e2 : i = j
  ·subst e2; exact Yy _
  ·exact Int.le_trans (h.resolve_left (by omega)) (u i (j - 1) (by omega) (by omega))
theorem asc {a r : Nat} {Q : AscSt -> SortSt -> Prop} (L : Lts prog w A s kd κ z) (hr : r <= z.size) (ha : 1 <= a) (har : a <= r) (b : SB kd z t) (u : Up κ (arrOf t) a)
 (h : ∀ n, a <= n -> n <= r -> Up κ (arrOf t) n -> (n = r \/ kv κ (arrOf t) n < kv κ (arrOf t) (n - 1)) -> Q (none, n) t) : wpS (model prog w) A E s (ascLoop a r) Q t := by
 unfold ascLoop
 refine wpS_forRange (fun x c t' => t' = t /\ c = (none, x) /\ Up κ (arrOf t) x) ?_ ?_ ⟨rfl, rfl, u⟩
 ·rintro x c t' x1 x2 ⟨rfl, rfl, u'⟩
  refine wpS_bind (wk L b (by omega) (by omega) ?_)
  by_cases l : kv κ (arrOf t') x < kv κ (arrOf t') (x - 1)
  ·simp only [decide_eq_true l, if_true]
   exact wpS_pure (h x x1 (by omega) u' (.inr l))
  ·simp only [decide_eq_false l, nJ, if_false]
   exact wpS_pure ⟨rfl, rfl, DM u' (.inr (by omega))⟩
 ·rintro c t' ⟨rfl, rfl, u'⟩
  rw [Nat.max_eq_right har] at u' |-
  exact h r har (zM _) u' (.inl rfl)
theorem t3 {n r : Nat} {Q : Option Nat -> SortSt -> Prop} (L : Lts prog w A s kd κ z) (hr : r <= z.size) (h1 : 1 <= n) (hn : n <= r) (b : SB kd z t) (u : Dn κ (arrOf t) n)
 (h : ∀ m t', SB kd z t' -> 1 <= m -> m <= r -> Up κ (arrOf t') m -> Q (some m) t') : wpS (model prog w) A E s (tail3 n r) Q t := by
 unfold tail3
 refine wpS_bind (wpS_reverse ?_)
 have b' := b.put (mirror_perm (arrOf t) 0 n ((n - 0) / 2))
 refine wpS_bind (asc L hr h1 hn b' ?_ fun m m1 m2 u' _ => wpS_pure (h m _ b' (by omega) m2 u'))
 intro i j a c
 have g : n <= (arrOf t).size := by rw [b.sz]; omega
 show kv κ (mirror (arrOf t) 0 n ((n - 0) / 2)) i <= kv κ (mirror (arrOf t) 0 n ((n - 0) / 2)) j
 rw [BS g (by omega), BS g c]
 exact u _ _ (by omega) (by omega)
theorem Hy {n r : Nat} {Q : DescSt -> SortSt -> Prop} (L : Lts prog w A s kd κ z) (D : qG κ z) (hr : r <= z.size) (h1 : 1 <= n) (hn : n <= r) (b : SB kd z t) (u : Dn κ (arrOf t) n)
 (h : ∀ m, n <= m -> m <= r -> Dn κ (arrOf t) m -> Q (none, m, 0) t) : wpS (model prog w) A E s (descLoop n r) Q t := by
 unfold descLoop
 refine wpS_forRange (fun x c t' => t' = t /\ c = (none, x, 0) /\ Dn κ (arrOf t) x) ?_ ?_ ⟨rfl, rfl, u⟩
 ·rintro x c t' x1 x2 ⟨rfl, rfl, u'⟩
  dsimp only
  refine wpS_bind (wk L b (by omega) (by omega) ?_)
  by_cases l : kv κ (arrOf t') x < kv κ (arrOf t') (x - 1)
  ·simp only [decide_eq_true l, if_true]
   rw [if_neg (ZX 0)]
   exact wpS_pure ⟨rfl, rfl, zJ u' (.inr (Int.le_of_lt l))⟩
  ·simp only [decide_eq_false l, nJ, if_false]
   refine wpS_bind (wk L b (by omega) (by omega) ?_)
   have d := apart b D (i := x - 1) (j := x) (by omega) (by omega)
   simp only [decide_eq_true (show kv κ (arrOf t') (x - 1) < kv κ (arrOf t') x by omega), if_true]
   exact wpS_pure (h x x1 (by omega) u')
 ·rintro c t' ⟨rfl, rfl, u'⟩
  rw [Nat.max_eq_right hn] at u' |-
  exact h r hn (zM _) u'
theorem count {r : Nat} {Q : Option Nat -> SortSt -> Prop} (L : Lts prog w A s kd κ z) (D : qG κ z) (hr : r <= z.size) (h1 : 1 <= r) (b : SB kd z t)
 (h : ∀ m t', SB kd z t' -> 1 <= m -> m <= r -> Up κ (arrOf t') m -> Q (some m) t') : wpS (model prog w) A E s (countRun' 0 r) Q t := by
 rw [countRun0_eq]
 refine wpS_bind (asc L hr (zM 1) h1 b (fun i j a c => by have : i = j := (by omega); subst this; exact Yy _) fun n n1 n2 u o => ?_)
 dsimp only
 by_cases e : n = r
 ·rw [if_pos (by simpa using e)]
  exact wpS_pure (h n t b n1 n2 u)
 rw [if_neg (by simpa using e)]
 by_cases g : n > 1
 ·rw [if_pos g]
  refine wpS_bind (wk L b (by omega) (by omega) ?_)
  have d := apart b D (i := 0) (j := n - 1) (by omega) (by omega)
  have l := u 0 (n - 1) (by omega) (by omega)
  simp only [decide_eq_true (show kv κ (arrOf t) 0 < kv κ (arrOf t) (n - 1) by omega), if_true]
  exact wpS_pure (h n t b n1 n2 u)
 ·rw [if_neg g]
  have : n = 1 := by omega
  subst this
  unfold descPart
  refine wpS_bind (wpS_lift (wpAny_rule ⟨rfl, ?_⟩))
  refine wpS_bind (Hy L D hr (by omega) (by omega) b ?_ fun m m1 m2 u' => ?_)
  ·refine zJ (fun i j a c => by have : i = j := (by omega); subst this; exact Yy _) (.inr ?_)
   have := o.resolve_left e
   omega
  ·dsimp only
   rw [if_neg (ZX 0)]
   exact t3 L hr (by omega) m2 b u' h
theorem F8 {n k₀ : Nat} {Q : Bool -> SortSt -> Prop} (L : Lts prog w A s kd κ z) (hn : n <= z.size) (hk : k₀ <= n) (h0 : 1 <= k₀) (b : SB kd z t) (u : Up κ (arrOf t) k₀)
 (h : ∀ t', SB kd z t' -> Up κ (arrOf t') n -> Q true t') : wpS (model prog w) A E s (binarySort' 0 n k₀) Q t := by
 rw [binarySort'_eq]
 simp only [Nat.zero_add]
 rw [Nat.max_eq_left h0]
 refine wpS_bind (wpS_mono (wpS_forRange (fun k c t' => c = (none, ()) /\ SB kd z t' /\ Up κ (arrOf t') k) (Q := fun c t' => c = (none, ()) /\ SB kd z t' /\ Up κ (arrOf t') n) ?_ ?_ ⟨rfl, b, u⟩) ?_)
 ·rintro k c t' k1 k2 ⟨rfl, b', u'⟩
  refine wpS_bind (wpS_mono (wpS_forRange (fun x c t2 => t2 = t' /\ ∃ l r, c = (none, l, r) /\ l <= r /\ r <= k /\ r - l <= k - x /\
   (∀ i, i < l -> kv κ (arrOf t') i <= kv κ (arrOf t') k) /\ ∀ i, r <= i -> i < k -> kv κ (arrOf t') k <= kv κ (arrOf t') i)
   (Q := fun c t2 => t2 = t' /\ ∃ l r, c = (none, l, r) /\ l <= k /\ (∀ i, i < l -> kv κ (arrOf t') i <= kv κ (arrOf t') k) /\ ∀ i, l <= i -> i < k -> kv κ (arrOf t') k <= kv κ (arrOf t') i) ?_ ?_
    ⟨rfl, 0, k, rfl, o3 _, zM _, zM _, fun i q => absurd q (Nat.not_lt_zero _), fun i q q' => absurd q' (Nat.not_lt.mpr q)⟩) ?_)
  ·rintro x c t2 _ x2 ⟨rfl, l, r, rfl, lr, rk, m, lo, hi⟩
   dsimp only
   by_cases g : l ≥ r
   ·rw [if_pos g]
    have : l = r := by omega
    subst this
    exact wpS_pure ⟨rfl, l, l, rfl, rk, lo, hi⟩
   rw [if_neg g]
   refine wpS_bind (wk L b' (by omega) (by omega) ?_)
   by_cases q : kv κ (arrOf t2) k < kv κ (arrOf t2) ((l + r) / 2)
   ·simp only [decide_eq_true q, if_true]
    exact wpS_pure ⟨rfl, l, (l + r) / 2, rfl, by omega, by omega, by omega, lo, fun i a c => Int.le_trans (Int.le_of_lt q) (u' _ _ a c)⟩
   ·simp only [decide_eq_false q, nJ, if_false]
    exact wpS_pure ⟨rfl, (l + r) / 2 + 1, r, rfl, by omega, by omega, by omega, fun i a => Int.le_trans (u' i ((l + r) / 2) (by omega) (by omega)) (by omega), hi⟩
  ·rintro c t2 ⟨rfl, l, r, rfl, lr, rk, m, lo, hi⟩
   have : l = r := by omega
   subst this
   exact ⟨rfl, l, l, rfl, rk, lo, hi⟩
  ·rintro c t2 ⟨rfl, l, r, rfl, lk, lo, hi⟩
   show wpS (model prog w) A E s (moveDown' k l >>= fun _ => pure (ForInStep.yield (none, ()))) _ t2
   rw [moveDown'_eq]
   refine wpS_bind (wpS_modify (wpS_pure ⟨rfl, b'.put (bubble_perm _ _ _), ?_⟩))
   have g : k < (arrOf t2).size := by rw [b'.sz]; omega
   intro i j a c
   show kv κ (bubble (arrOf t2) k (k - l)) i <= kv κ (bubble (arrOf t2) k (k - l)) j
   rw [BQ g (by omega), BQ g (by omega), Nat.sub_sub_self lk]
   by_cases e1 : i = l
   ·rw [if_pos e1]
    by_cases e2 : j = l
    ·rw [if_pos e2]; exact Yy _
    ·rw [if_neg e2, if_pos (by omega)]; exact hi _ (by omega) (by omega)
   ·rw [if_neg e1]
    by_cases e3 : l < i /\ i <= k
    ·rw [if_pos e3, if_neg (by omega), if_pos (by omega)]; exact u' _ _ (by omega) (by omega)
    ·rw [if_neg e3]
     by_cases e2 : j = l
     ·rw [if_pos e2]; exact lo _ (by omega)
     ·rw [if_neg e2]
      by_cases e4 : l < j /\ j <= k
      ·rw [if_pos e4]; exact u' _ _ (by omega) (by omega)
      ·rw [if_neg e4]; exact u' _ _ a (by omega)
 ·rintro c t' ⟨e, b', u'⟩
  rw [Nat.max_eq_right hk] at u'
  exact ⟨e, b', u'⟩
 ·rintro c t' ⟨rfl, b', u'⟩
  exact wpS_pure (h t' b' u')
theorem HE {Q : Unit -> SortSt -> Prop} (L : Lts prog w A s kd κ z) (D : qG κ z) (b : SB kd z t) (h2 : 2 <= z.size) (h64 : z.size < 64)
 (h : ∀ t', (arrOf t').Perm z -> failedOf t' = none -> Up κ (arrOf t') z.size -> Q () t') : wpS (model prog w) A E s sortRuns' Q t := by
 rw [sortRuns'_eq]
 refine wpS_bind (wpS_get ?_)
 dsimp only
 have mr : minRun' z.size z.size 0 = z.size := by
  obtain ⟨f, e⟩ : ∃ f, z.size = f + 1 := ⟨z.size - 1, by omega⟩
  rw [e, minRun'_succ, if_pos (by omega), Nat.add_zero]
 simp only [b.sz, mr]
 refine wpS_bind (wpS_mono (wpS_forRange
  (fun x c t' => (x = 0 /\ c = (none, 0) /\ SB kd z t') \/ (1 <= x /\ c = (none, z.size) /\ (arrOf t').Perm z /\ failedOf t' = none /\ pendingOf t' = #[(0, z.size, 0)] /\ Up κ (arrOf t') z.size))
  (Q := fun c t' => c = (none, z.size) /\ (arrOf t').Perm z /\ failedOf t' = none /\ pendingOf t' = #[(0, z.size, 0)] /\ Up κ (arrOf t') z.size) ?_ ?_ (.inl ⟨rfl, rfl, b⟩)) ?_)
 ·rintro x c t' _ x2 (⟨rfl, rfl, b'⟩ | ⟨x1, rfl, d⟩)
  ·dsimp only
   rw [if_neg (by omega)]
   simp only [Nat.sub_zero, Nat.min_self, Nat.zero_add]
   refine wpS_bind (count L D (zM _) (by omega) b' fun m t2 b2 m1 m2 u2 => ?_)
   dsimp only
   by_cases g : m < z.size
   ·rw [if_pos g]
    refine wpS_bind (wpS_lift (wpAny_rule ⟨rfl, ?_⟩))
    refine wpS_bind (F8 L (zM _) m2 m1 b2 u2 fun t3 b3 u3 => ?_)
    simp only [Bool.not_true, nJ, if_false]
    refine wpS_bind (wpS_get ?_)
    rw [show (pendingOf t3).back? = none by rw [b3.pn]; rfl]
    exact wpS_bind (wpS_modify (wpS_pure (.inr ⟨by omega, rfl, b3.pm, b3.fl, by show (pendingOf t3).push _ = _; rw [b3.pn]; rfl, u3⟩)))
   ·rw [if_neg g]
    have : m = z.size := by omega
    subst this
    refine wpS_bind (wpS_get ?_)
    rw [show (pendingOf t2).back? = none by rw [b2.pn]; rfl]
    exact wpS_bind (wpS_modify (wpS_pure (.inr ⟨by omega, rfl, b2.pm, b2.fl, by show (pendingOf t2).push _ = _; rw [b2.pn]; rfl, u2⟩)))
  ·dsimp only
   rw [if_pos (zM _)]
   exact wpS_pure ⟨rfl, d⟩
 ·rintro c t' (⟨x, _, _⟩ | ⟨_, e, d⟩)
  ·omega
  ·exact ⟨e, d⟩
 ·rintro c t' ⟨rfl, p1, p2, p3, p4⟩
  dsimp only
  refine wpS_bind (wpS_mono (wpS_forRange (fun _ c t2 => t2 = t' /\ c = (none, ())) (Q := fun c t2 => t2 = t' /\ c = (none, ())) ?_ (fun _ _ q => q) ⟨rfl, rfl⟩) ?_)
  ·rintro x c t2 _ _ ⟨rfl, rfl⟩
   refine wpS_bind (wpS_get ?_)
   rw [if_pos (by rw [p3]; exact zM 1)]
   exact wpS_pure ⟨rfl, rfl⟩
  ·rintro c t2 ⟨rfl, rfl⟩
   exact wpS_pure (h _ p1 p2 p4)
end
section
variable {prog : Program} {w : World} {A : Around} {E : Value -> Shared -> Prop} {s : Shared}
structure Cmp (prog : Program) (w : World) (h : Heap) (os : OsState) (kd : SortKind) (κ : Value -> Int) (vs : List Value) : Prop where
 kind : ∀ (A : Around) (E : Value -> Shared -> Prop) (s : Shared) (Q : SortKind -> Shared -> Prop), s.heap = h -> Q kd s -> wpAny (model prog w) A (keyKind' vs.toArray) Q E s
 lt : ∀ (A : Around) (E : Value -> Shared -> Prop) (s : Shared) (p q : Value) (Q : Bool -> Shared -> Prop), s.heap = h -> p ∈ vs -> q ∈ vs -> Q (decide (κ p < κ q)) s -> wpAny (model prog w) A (keyLt' kd p q) Q E s
theorem pairs_mem {vs : List Value} {p : Keyed} (h : p ∈ (vs.toArray.zip vs.toArray).toList) : p.1 ∈ vs /\ p.2 = p.1 := by
 rw [Array.toList_zip] at h
 simp at h
 rw [List.zip_eq_zipWith, List.zipWith_self] at h
 obtain ⟨a, ha, e⟩ := rf.mp h
 subst e
 exact ⟨ha, rfl⟩
theorem pairs_fst (vs : List Value) : (vs.toArray.zip vs.toArray).toList.map (·.1) = vs := by
 rw [Array.toList_zip]
 exact List.map_fst_zip (zM _)
theorem Eb {a : Addr} {vs : List Value} {n : Nat} {kd : SortKind} {κ : Value -> Int} {P : Fin -> Shared -> Prop} (ho : s.heap.get? a = some (seqObj "list" vs.toArray n)) (h64 : vs.length < 64) (hd : (vs.map κ).Nodup)
 (hC : 2 <= vs.length -> Cmp prog w (((s.heap.update a (Za fun _ => #[])).push (seqObj "tuple" vs.toArray 0)).push (seqObj "list" #[] 0)) s.os kd κ vs)
 (h : ∀ out : List Value, out.Perm vs -> out.Pairwise (fun x y => κ x < κ y) -> P (.done (.ret .none)) { s with heap := sortedHeap s.heap a vs out.toArray }) :
 wpAny (model prog w) A (Builtin.«list.sort» ⟨[.ref a], []⟩) P E s := by
 rw [list_sort_plain]
 have la : a < s.heap.objs.size := xi ho
 refine zz (listItems_at ho rfl (zz (listUpdate_at ho rfl ?_ (hsz := by rw [yY, ue]; omega))))
 obtain ⟨e1, ho1⟩ : ∃ e, (s.heap.update a (Za fun _ => #[])).get? a = some (seqObj "list" #[] e) := ⟨_, get?_update_seq ho fun _ => #[]⟩
 refine zz (seqEpoch_at ho1 rfl (zz (wpAny_newTuple (zz (wpAny_newList (ZA ?_))) (by show vs.length <= _; rw [ue]; omega))))
 have ho3 : (((s.heap.update a (Za fun _ => #[])).push (seqObj "tuple" vs.toArray 0)).push (seqObj "list" #[] 0)).get? a = some (seqObj "list" #[] e1) :=
  Heap.get?_push_of_some _ (Heap.get?_push_of_some _ ho1)
 show wpAny (model prog w) A _ P E { s with heap := ((s.heap.update a (Za fun _ => #[])).push (seqObj "tuple" vs.toArray 0)).push (seqObj "list" #[] 0) }
 dsimp only
 have fin : ∀ t : SortSt, (arrOf t).Perm (vs.toArray.zip vs.toArray) -> failedOf t = none -> Up (fun p => κ p.1) (arrOf t) (vs.toArray.zip vs.toArray).size ->
  (((arrOf t).map (·.2)).toList.Perm vs /\ ((arrOf t).map (·.2)).toList.Pairwise fun x y => κ x < κ y) := fun t pm _ u => by
  have pl := Z5.mp pm
  have e2 : ((arrOf t).map (·.2)).toList = (arrOf t).toList.map (·.1) := by
   rw [Array.toList_map]
   exact Zr fun p hp => (pairs_mem (pl.mem_iff.mp hp)).2
  have p1 : ((arrOf t).map (·.2)).toList.Perm vs := by
   rw [e2]
   have := pl.map (·.1)
   rwa [pairs_fst] at this
  refine ⟨p1, ?_⟩
  have nd : (((arrOf t).map (·.2)).toList.map κ).Nodup := (p1.map κ).nodup_iff.mpr hd
  rw [e2] at nd |-
  have sz : (arrOf t).size = (vs.toArray.zip vs.toArray).size := pm.size_eq
  refine Z7.mpr fun i j hi hj hij => ?_
  have hi' : i < (arrOf t).size := by simpa using hi
  have hj' : j < (arrOf t).size := by simpa using hj
  have l := u i j (Nat.le_of_lt hij) (by omega)
  rw [tE hi', tE hj'] at l
  have d := Z7.mp nd i j (by simpa using hi) (by simpa using hj) hij
  simp at d l |-
  omega
 by_cases c2 : vs.toArray.size < 2
 ·rw [if_pos c2, if_pos c2]
  refine zz (yZ ?_)
  rw [StateT.run_pure]
  refine zz (yZ ?_)
  dsimp only
  refine zz (seqEpoch_at ho3 rfl ?_)
  obtain ⟨f1, f2⟩ := fin (SortSt.mk' general' (vs.toArray.zip vs.toArray) #[] 7 none) (Array.Perm.refl _) rfl fun i j hij hj => by
   have : i = j := by simp at hj c2; omega
   subst this; exact Yy _
  have sz2 : ((vs.toArray.zip vs.toArray).map (·.2)).size <= sizeLine + 1 := by simp; rw [ue]; omega
  refine zz (listUpdate_at ho3 rfl ?_ (hsz := by rw [ue]; decide) (hsz2 := sz2))
  simp only [bne_self_eq_false, nJ, if_false]
  exact yZ (h _ f1 f2)
 ·rw [if_neg c2, if_neg c2]
  have C := hC (by simp at c2; omega)
  refine zz (C.kind _ _ _ _ rfl ?_)
  have zs : (vs.toArray.zip vs.toArray).size = vs.length := by simp
  have L : Lts prog w A { s with heap := ((s.heap.update a (Za fun _ => #[])).push (seqObj "tuple" vs.toArray 0)).push (seqObj "list" #[] 0) } kd (fun p => κ p.1) (vs.toArray.zip vs.toArray) :=
   fun E p q Q hp hq k => C.lt _ _ _ _ _ _ rfl (pairs_mem hp).1 (pairs_mem hq).1 k
  have D : qG (fun p => κ p.1) (vs.toArray.zip vs.toArray) := by
   unfold qG
   rw [show (vs.toArray.zip vs.toArray).toList.map (fun p => κ p.1) = ((vs.toArray.zip vs.toArray).toList.map (·.1)).map κ by rw [vD]; rfl, pairs_fst]
   exact hd
  refine zz (Zq (HE (z := vs.toArray.zip vs.toArray) (t := SortSt.mk' kd (vs.toArray.zip vs.toArray) #[] 7 none) (Q := fun _ t' => (arrOf t').Perm (vs.toArray.zip vs.toArray) /\ failedOf t' = none /\ Up (fun p => κ p.1) (arrOf t') (vs.toArray.zip vs.toArray).size)
   L D ⟨Array.Perm.refl _, rfl, rfl, rfl⟩ (by rw [zs]; simp at c2; omega) (by omega) fun t' a1 a2 a3 => ⟨a1, a2, a3⟩) ?_ fun _ _ e => e)
  rintro ⟨⟨⟩, t'⟩ s' ⟨rfl, a1, a2, a3⟩
  dsimp only
  refine zz (seqEpoch_at ho3 rfl ?_)
  obtain ⟨f1, f2⟩ := fin t' a1 a2 a3
  have sz2 : ((arrOf t').map (·.2)).size <= sizeLine + 1 := by
   have := f1.length_eq
   rw [ZB] at this
   rw [this, ue]; omega
  refine zz (listUpdate_at ho3 rfl ?_ (hsz := by rw [ue]; decide) (hsz2 := sz2))
  rw [a2]
  simp only [bne_self_eq_false, nJ, if_false]
  exact yZ (h _ f1 f2)
theorem sorted_by {l : Addr} {vs : List Value} {kd : SortKind} {κ : Value -> Int} {Q : Value -> Shared -> Prop} (hl : s.heap.IsList l vs.toArray) (h64 : vs.length < 64) (hd : (vs.map κ).Nodup)
 (hC : 2 <= vs.length -> ∀ h', (∀ b o, s.heap.get? b = some o -> h'.get? b = some o) -> Cmp prog w h' s.os kd κ vs)
 (h : ∀ (out : List Value) (h' : Heap) (c : Nat), out.Perm vs -> out.Pairwise (fun x y => κ x < κ y) -> (∀ b o, s.heap.get? b = some o -> h'.get? b = some o) ->
  h'.get? (s.heap.objs.size + 1) = some (seqObj "list" out.toArray c) -> Q (.ref (s.heap.objs.size + 1)) { s with heap := h' }) :
 wpAny (model prog w) A (call (.builtin "sorted") [.ref l]) Q E s := by
 refine Calls.call_function_entry kind_sorted plain_sorted entry_sorted (args_sorted1 _) ?_
 unfold Builtin.«sorted»
 refine zz (m := checkCount "sorted" 1 1 _) (yZ (zz (collect_list hl (zz (wpAny_newList ?_ (by rw [ue]; omega))) (by rw [ue]; omega))))
 have z : ((s.heap.push (seqObj "list" #[] 0)).update s.heap.objs.size (Za (· ++ vs.toArray))).objs.size = s.heap.objs.size + 1 := (Heap.size_update ..).trans (size_push' _ _)
 have kp : ∀ b o, s.heap.get? b = some o -> (((s.heap.push (seqObj "list" #[] 0)).update s.heap.objs.size (Za (· ++ vs.toArray))).push (seqObj "list" vs.toArray 0)).get? b = some o := fun b o e => by
  have lt : b < s.heap.objs.size := xi e
  refine Heap.get?_push_of_some _ ?_
  rw [Heap.get?_update_ne _ _ _ _ (tB lt)]
  exact Heap.get?_push_of_some _ e
 have at1 : (((s.heap.push (seqObj "list" #[] 0)).update s.heap.objs.size (Za (· ++ vs.toArray))).push (seqObj "list" vs.toArray 0)).get? (s.heap.objs.size + 1) = some (seqObj "list" vs.toArray 0) := by
  rw [<- z]; exact Heap.get?_push_size _ rfl
 show wpAny (model prog w) _ _ _ _ { s with heap := ((s.heap.push (seqObj "list" #[] 0)).update s.heap.objs.size (Za (· ++ vs.toArray))).push (seqObj "list" vs.toArray 0) }
 rw [z]
 generalize hh : ((s.heap.push (seqObj "list" #[] 0)).update s.heap.objs.size (Za (· ++ vs.toArray))).push (seqObj "list" vs.toArray 0) = h1 at at1 kp |-
 have kp2 : ∀ b o, s.heap.get? b = some o -> (((h1.update (s.heap.objs.size + 1) (Za fun _ => #[])).push (seqObj "tuple" vs.toArray 0)).push (seqObj "list" #[] 0)).get? b = some o := fun b o e => by
  have lt : b < s.heap.objs.size := xi e
  refine Heap.get?_push_of_some _ (Heap.get?_push_of_some _ ?_)
  rw [Heap.get?_update_ne _ _ _ _ (tB (Nat.lt_succ_of_lt lt))]
  exact kp b o e
 refine zz (ZA (Zc slot_list_sort ⟨_, at1, rfl⟩ entry_list_sort (Eb (s := { s with heap := h1 }) at1 h64 hd (fun c => hC c _ kp2) fun out p1 p2 => ⟨_, rfl, ?_⟩) (args_list_sort _)))
 have at2 : (((h1.update (s.heap.objs.size + 1) (Za fun _ => #[])).push (seqObj "tuple" vs.toArray 0)).push (seqObj "list" #[] 0)).get? (s.heap.objs.size + 1) = some (seqObj "list" #[] _) :=
  Heap.get?_push_of_some _ (Heap.get?_push_of_some _ (get?_update_seq at1 fun _ => #[]))
 refine yZ ⟨_, rfl, h out _ _ p1 p2 (fun b o e => ?_) (get?_update_seq at2 fun _ => out.toArray)⟩
 have lt : b < s.heap.objs.size := xi e
 show (Heap.update _ _ _).get? b = _
 rw [Heap.get?_update_ne _ _ _ _ (tB (Nat.lt_succ_of_lt lt))]
 exact kp2 b o e
end
end Srt
end L2
namespace L2
namespace Srt
open PySem PyProof.Rows
def Two (h : Heap) (p : Addr) (x y : Int) : Prop := ∃ (o : Obj) (t u : Tok) (n : Nat), h.get? p = some o /\ o.cls = .type "tuple" /\ o.data = .seq #[.int x t, .int y u] n
section
variable {prog : Program} {w : World} {A : Around} {E : Value -> Shared -> Prop} {s : Shared}
theorem Two.ty {h : Heap} {p : Addr} {x y : Int} (t : Two h p x y) {s : Shared} (e : s.heap = h) : s.TypeIs (.ref p) "tuple" := by
 obtain ⟨o, _, _, _, ho, hc, _⟩ := t
 subst e
 exact ⟨o, ho, hc⟩
theorem qe : ∀ (vs : List Value), (∀ v ∈ vs, ∃ p x y, v = .ref p /\ Two s.heap p x y) -> ∀ {Q : List (Option Value) -> Shared -> Prop}, (∀ fs ns, IntsAre fs ns -> fs.length = vs.length -> Q (fs.map some) s) ->
 wpAny (model prog w) A (vs.mapM firstOfTuple') Q E s
 | [], _, Q, h => by rw [List.mapM_nil]; exact yZ (h [] [] .nil rfl)
 | v :: vs, hv, Q, h => by
  obtain ⟨p, x, y, rfl, hp⟩ := hv v (Zm ..)
  have t1 := hp.ty rfl
  obtain ⟨o, t, u, n, ho, hc, hd⟩ := hp
  rw [List.mapM_cons]
  refine zz ?_
  show wpAny _ _ (typeOf (.ref p) >>= _) _ _ s
  refine zz (wpAny_typeOf t1 ?_)
  rw [if_neg (by decide)]
  refine zz (listItems_at ho hd (yZ ?_))
  show wpAny _ _ (vs.mapM firstOfTuple' >>= fun bs => pure (some (YU x t) :: bs)) Q E s
  exact zz (qe vs (fun v hv' => hv v (tj _ hv')) fun fs ns hI hl => yZ (h (.int x t :: fs) (x :: ns) (.cons x t hI) (by simp [hl])))
theorem CG {vs : List Value} (hv : ∀ v ∈ vs, ∃ p x y, v = .ref p /\ Two s.heap p x y) (h2 : 2 <= vs.length) {Q : SortKind -> Shared -> Prop} (h : Q (tuples' true) s) : wpAny (model prog w) A (keyKind' vs.toArray) Q E s := by
 rw [keyKind'_eq, List.mapM_toArray, map_eq_pure_bind]
 refine zz (zz (qe vs hv fun fs ns hI hl => yZ ?_))
 rw [if_pos (by simp)]
 refine zz (wpAny_rule ?_)
 have e : (fs.map some).toArray.filterMap id = fs.toArray := by simp
 rw [e, oneTypeOnly'_eq, List.mapM_toArray, mapM_typeOf_ints hI]
 simp only [map_pure, pure_bind]
 have all : ((fs.map fun _ => Value.type "int").toArray.all fun x => x == Value.type "int") = true := by
  simp only [List.all_toArray, List.all_map, Zo]
  exact fun _ _ => rfl
 have at0 : (fs.map fun _ => Value.type "int").toArray[0]? = some (Value.type "int") := by
  have : 0 < fs.length := by omega
  simp [this]
 rw [at0]
 simp only [all, if_true, pure_bind]
 exact yZ h
theorem FI {p q : Addr} {x y x' y' : Int} {Q : Bool -> Shared -> Prop} (hp : Two s.heap p x y) (hq : Two s.heap q x' y') (h : Q (decide (x < x' \/ (x = x' /\ y < y'))) s) :
 wpAny (model prog w) A (keyLt' (tuples' true) (.ref p) (.ref q)) Q E s := by
 obtain ⟨o, t, u, n, ho, hc, hd⟩ := hp
 obtain ⟨o', t', u', n', ho', hc', hd'⟩ := hq
 show wpAny _ _ (Builtin.List.listItems (.ref p) >>= fun xs => Builtin.List.listItems (.ref q) >>= fun ys => _) _ _ s
 refine zz (listItems_at ho hd (zz (listItems_at ho' hd' ?_)))
 show wpAny _ _ (forIn [((YU x t, YU x' t'), 0), ((YU y u, YU y' u'), 1)] (none, ()) _ >>= _) _ _ s
 rw [List.forIn_cons]
 refine zz (zz (zz (wpAny_eqBool_int ?_)))
 by_cases e : x = x'
 ·subst e
  simp only [beq_self_eq_true, Bool.not_true, nJ, if_false]
  refine yZ ?_
  simp only [List.forIn_cons]
  refine zz (zz (wpAny_eqBool_int ?_))
  by_cases e2 : y = y'
  ·subst e2
   simp only [beq_self_eq_true, Bool.not_true, nJ, if_false]
   refine yZ ?_
   simp only [List.forIn_nil]
   refine yZ (yZ ?_)
   rw [decide_eq_false (by omega)] at h
   exact h
  ·simp only [beq_eq_false_iff_ne.mpr e2, Bool.not_false, if_true]
   refine zz ?_
   show wpAny _ _ (oneLt' false (.int y u) (.int y' u')) _ _ s
   rw [oneLt'_eq]
   simp only [nJ, if_false]
   refine zz (lt_int (gS (yZ (yZ (yZ ?_)))))
   rw [show decide (y < y') = decide (x < x \/ (x = x /\ y < y')) by by_cases c : y < y' <;> simp [c] <;> omega]
   exact h
 ·simp only [beq_eq_false_iff_ne.mpr e, Bool.not_false, if_true]
  refine zz ?_
  show wpAny _ _ (oneLt' true (.int x t) (.int x' t')) _ _ s
  refine oneLt_int (yZ (yZ (yZ ?_)))
  rw [show decide (x < x') = decide (x < x' \/ (x = x' /\ y < y')) by by_cases c : x < x' <;> simp [c] <;> omega]
  exact h
theorem cmp_two {h : Heap} {os : OsState} {vs : List Value} {κ : Value -> Int} (h2 : 2 <= vs.length) (hv : ∀ v ∈ vs, ∃ p x y, v = .ref p /\ Two h p x y /\ κ v = x * 64 + y /\ 0 <= y /\ y < 64) : Cmp prog w h os (tuples' true) κ vs where
 kind A E s Q e q := by
  subst e
  exact CG (fun v m => let ⟨p, x, y, a, b, _⟩ := hv v m; ⟨p, x, y, a, b⟩) h2 q
 lt A E s u v Q e mu mv q := by
  subst e
  obtain ⟨p, x, y, rfl, b, k, l0, l1⟩ := hv u mu
  obtain ⟨p', x', y', rfl, b', k', l0', l1'⟩ := hv v mv
  refine FI b b' ?_
  rw [k, k'] at q
  rw [show decide (x < x' \/ (x = x' /\ y < y')) = decide (x * 64 + y < x' * 64 + y') by
   by_cases c : x * 64 + y < x' * 64 + y'
   ·rw [decide_eq_true c, decide_eq_true (by omega)]
   ·rw [decide_eq_false c, decide_eq_false (by omega)]]
  exact q
end
end Srt
end L2
namespace L2
namespace Srt
open PySem PyProof.Rows
section
variable {prog : Program} {w : World} {A : Around} {E : Value -> Shared -> Prop} {R : Result -> Shared -> Prop} {s : Shared} {I S ax : Addr} {items : Array Value} {h₀ : Heap} {κ : Value -> Int}
def Prs (h : Heap) (κ : Value -> Int) (lo : Int) (v : Value) : Prop := ∃ p x y, v = .ref p /\ Two h p x y /\ κ v = x * 64 + y /\ lo <= y /\ y < lo + 64
theorem Two.keep {h h' : Heap} {p : Addr} {x y : Int} (t : Two h p x y) (k : ∀ b o, h.get? b = some o -> h'.get? b = some o) : Two h' p x y := by
 obtain ⟨o, t, u, n, ho, r⟩ := t
 exact ⟨o, t, u, n, k _ _ ho, r⟩
end
end Srt
end L2
namespace L2
open PySem PyProof.Rows
section
variable {X : Cx} {pins : List (Addr × Obj)} {σ : St} {H : Hp} {s : Shared}
abbrev Pr := Addr × Int × Int
def PrL (K : W.Frag) (H : Hp) (ps : List Pr) : Prop := ∀ e ∈ ps, SqT K H e.1 [.int e.2.1, .int e.2.2]
abbrev cod (e : Pr) : Int := e.2.1 * 64 + e.2.2
theorem Inv.two (I : Inv X pins σ H s) {p : Addr} {x y : Int} (h : SqT X.K H p [.int x, .int y]) : Srt.Two s.heap p x y := by
 obtain ⟨its, r, ⟨o, ho, hc, n, hd⟩, _⟩ := I.tuple h
 match its, r with
 | [a, b], .cons r1 (.cons r2 .nil) =>
  obtain ⟨t, rfl⟩ := r1
  obtain ⟨u, rfl⟩ := r2
  exact ⟨o, t, u, n, ho, hc, hd⟩
theorem Dv {h : Heap} {p : Addr} {x y x' y' : Int} (a : Srt.Two h p x y) (b : Srt.Two h p x' y') : x = x' /\ y = y' := by
 obtain ⟨o, t, u, n, ho, hc, hd⟩ := a
 obtain ⟨o', t', u', n', ho', hc', hd'⟩ := b
 rw [ho] at ho'; cases ho'
 rw [hd] at hd'
 injection hd' with z _
 have z2 := congrArg Array.toList z
 simp at z2
 exact ⟨z2.1.1, z2.2.1⟩
def mF (ps : List Pr) : Value -> Pr
 | .ref a => (ps.find? fun e => e.1 == a).getD (0, 0, 0)
 | _ => (0, 0, 0)
theorem CO (I : Inv X pins σ H s) {ps : List Pr} (hp : PrL X.K H ps) {e : Pr} (m : e ∈ ps) : mF ps (.ref e.1) = e := by
 show (ps.find? fun z => z.1 == e.1).getD (0, 0, 0) = e
 cases f : ps.find? fun z => z.1 == e.1 with
 | none => exact absurd (List.find?_eq_none.mp f e m) (by simp)
 | some z =>
  have m' := List.mem_of_find?_eq_some f
  have e1 : z.1 = e.1 := by simpa using List.find?_some f
  have t1 := I.two (hp z m')
  have t2 := I.two (hp e m)
  rw [e1] at t1
  obtain ⟨a, b⟩ := Dv t1 t2
  show z = e
  obtain ⟨z1, z2, z3⟩ := z
  obtain ⟨y1, y2, y3⟩ := e
  simp at e1 a b
  subst e1; subst a; subst b; rfl
theorem DW {ps : List Pr} {its : List Value} (r : Vals (ps.map fun e => V.ref e.1) its) : its = ps.map fun e => vY e.1 := by
 induction ps generalizing its with
 | nil => cases r; rfl
 | cons e ps ih =>
  cases r with
  | cons r1 r2 => rw [ih r2]; cases (show _ = vY e.1 from r1); rfl
theorem xq : ∀ ps : List Pr, Vals (ps.map fun e => V.ref e.1) (ps.map fun e => vY e.1)
 | [] => .nil
 | e :: ps => .cons rfl (xq ps)
def Cv (K : W.Frag) : List V -> Hp -> VK -> Prop
 | [.ref p], H, Q => ∃ ps : List Pr, SqL K H p (ps.map fun e => .ref e.1) /\ PrL K H ps /\ ps.length < 64 /\ (∀ e ∈ ps, 0 <= e.2.2 /\ e.2.2 < 64) /\ (ps.map cod).Nodup /\
  ∀ out : List Pr, out.Perm ps -> out.Pairwise (fun a b => cod a < cod b) -> ∀ l, H l = none -> Q (.ref l) (upd H l (.lst (out.map fun e => .ref e.1)))
 | _, _, _ => False
theorem BW (K : W.Frag) (hK : X.K = K := by rfl) : CallR X (.builtin "sorted") (Cv K) := by
 subst hK
 intro pins s σ H xs us Q I r h
 unfold Cv at h
 split at h
 ·rename_i p
  obtain ⟨ps, hq, hp, h64, hb, nd, q⟩ := h
  obtain ⟨u, rfl, rx⟩ := fz r
  cases (show u = vY p from rx)
  obtain ⟨its, r', pl, hz⟩ := I.list hq
  have ei := DW r'
  subst ei
  have inv : ∀ e ∈ ps, mF ps (.ref e.1) = e := fun e m => CO I hp m
  have em : (ps.map fun e => vY e.1).map (mF ps) = ps := by
   rw [vD]
   exact (Zr fun e m => inv e m).trans (List.map_id _)
  refine Srt.sorted_by (kd := tuples' true) (κ := fun v => cod (mF ps v)) pl.isList (by simpa using h64) ?_ (fun h2 h' kp => Srt.cmp_two (by simpa using h2) fun v m => ?_) fun out h' c pm sr kp e => ?_
  ·rw [show (ps.map fun e => vY e.1).map (fun v => cod (mF ps v)) = ((ps.map fun e => vY e.1).map (mF ps)).map cod by simp only [vD]; rfl, em]
   exact nd
  ·obtain ⟨e, me, rfl⟩ := rf.mp m
   refine ⟨e.1, e.2.1, e.2.2, rfl, (I.two (hp e me)).keep kp, ?_, (hb e me).1, (hb e me).2⟩
   show cod (mF ps (.ref e.1)) = _
   rw [inv e me]
  ·have pm' : (out.map (mF ps)).Perm ps := by
    have := pm.map (mF ps)
    rwa [em] at this
   have eo : out = (out.map (mF ps)).map fun e => vY e.1 := by
    rw [vD]
    refine ((Zr fun v m => ?_).trans (List.map_id _)).symm
    obtain ⟨e, m', rfl⟩ := rf.mp (pm.mem_iff.mp m)
    show vY (mF ps (.ref e.1)).1 = _
    rw [inv e m']; rfl
   have so : (out.map (mF ps)).Pairwise fun a b => cod a < cod b := List.pairwise_map.mpr sr
   refine ⟨.ref (s.heap.objs.size + 1), _, I.laid (t' := s.toks) (a := s.heap.objs.size + 1) kp (YI _) (show ObjOk X.prog X.w _ h' _ (.lst ((out.map (mF ps)).map fun e => .ref e.1)) from ⟨?_, out, c, ?_, e⟩), rfl, q _ pm' so _ (I.hok.fresh (YI _))⟩
   ·rw [zc, pm'.length_eq, ue]; omega
   ·have := xq (out.map (mF ps))
    rwa [<- eo] at this
 ·exact h.elim
def Ite (K : W.Frag) (a : Addr) : It :=
 ⟨fun i H => ∃ xs x, SqL K H a xs /\ xs[i]? = some x, fun i H x H' => ∃ p y, H p = none /\ x = .ref p /\ H' = upd H p (.tup [.int i, y]) /\ ∀ xs, SqL K H a xs -> xs[i]? = some y, fun i H => ∃ xs, SqL K H a xs /\ xs.length <= i⟩
theorem Inv.turned2 {h' : Heap} {t' : Nat} {e it : Addr} {oe oi : Obj} (I : Inv X pins σ H s) (ge : s.heap.get? e = some oe) (gi : s.heap.get? it = some oi) (ne : e ≠ it) (he : ∃ o, h'.get? e = some o /\ o.isFreed = false) (hi : ∃ o, h'.get? it = some o /\ o.isFreed = false)
 (k : ∀ b o, b ≠ e -> b ≠ it -> s.heap.get? b = some o -> h'.get? b = some o) (fe : sK X pins H e) (fi : sK X pins H it) : ∃ h2 : Heap, h2.objs.size = s.heap.objs.size /\ Inv X pins σ H { s with heap := h2, toks := t' } /\ ∀ b o, h2.get? b = some o -> h'.get? b = some o := by
 obtain ⟨o1, g1, z1⟩ := he
 obtain ⟨o2, g2, z2⟩ := hi
 refine ⟨(s.heap.update it fun _ => o2).update e fun _ => o1, by rw [Heap.size_update, Heap.size_update], ?_, ?_⟩
 ·have I1 : Inv X pins σ H { s with heap := s.heap.update it fun _ => o2, toks := t' } := I.turned (fun b o hb q => (Heap.get?_update_other _ _ (Ne.symm hb)).trans q) fi.1 fi.2.1 fi.2.2.2.1 fi.2.2.2.2.1 fi.2.2.2.2.2
  exact I1.turned (t' := t') (fun b o hb q => (Heap.get?_update_other _ _ (Ne.symm hb)).trans q) fe.1 fe.2.1 fe.2.2.2.1 fe.2.2.2.2.1 fe.2.2.2.2.2
 ·intro b o q
  by_cases b1 : b = e
  ·subst b1
   have ge' : (s.heap.update it fun _ => o2).get? b = some oe := (Heap.get?_update_other _ _ (Ne.symm ne)).trans ge
   rw [Heap.get?_update_self _ ge' z1] at q
   cases q; exact g1
  ·rw [Heap.get?_update_other _ _ (Ne.symm b1)] at q
   by_cases b2 : b = it
   ·subst b2
    rw [Heap.get?_update_self _ gi z2] at q
    cases q; exact g2
   ·rw [Heap.get?_update_other _ _ (Ne.symm b2)] at q
    exact k b o b1 b2 q
theorem Aa {P : Program} {w : World} {K : W.Frag} {elts : List Expr} {cx : _} {pos : Pos} (a e it : Addr) (ne : e ≠ it) :
 wK P w K (.Tuple elts cx pos) (Ite K a) [e, it] e (fun i h => ∃ old, IsEnum h e it (i : Nat) old /\ h.IsListIter it a i) where
 mem := by simp
 obj := fun i h st b hb => by
  obtain ⟨old, h1, o, h2, c, d⟩ := st
  rcases ze.mp hb with rfl | hb
  ·exact ⟨_, h1, fun v z => by
    have z' : YH _ = Data.cell v := z
    cases z'⟩
  ·have z := zr.mp hb
   subst z
   exact ⟨o, h2, fun v z => by rw [d] at z; cases z⟩
 keep := fun i h h' st k => by
  obtain ⟨old, h1, h2⟩ := st
  exact ⟨old, k e (by simp) _ h1, h2.at fun o q => k it (by simp) o q⟩
 item := by
  intro X hP hw hK hc i pins s σ H E I hf st hg
  subst hP hw hK
  obtain ⟨xs, x, hq, hx⟩ := hg
  obtain ⟨its, rv, p, hz⟩ := I.list hq
  obtain ⟨u, hu, ru⟩ := rv.get hx
  have fe := hf e (by simp)
  have fi := hf it (by simp)
  obtain ⟨old, h1, h2⟩ := st
  obtain ⟨oi, gi, ci, di⟩ := id h2
  refine wpAny_pyNext_enum_item h1 h2 p.isList (x := u) (by simpa using hu) ne fun h' e1 i1 t1 z1 k1 => ?_
  obtain ⟨oi', gi', ci', di'⟩ := id i1
  obtain ⟨h3, z3, I3, k3⟩ := I.turned2 (t' := s.toks + 1) (h' := h') h1 gi ne ⟨_, e1, rfl⟩ ⟨_, gi', YZ di'⟩ k1 fe fi
  have hn := I.hok.fresh (zM s.heap.objs.size)
  have I4 : Inv X pins σ (upd H s.heap.objs.size (.tup [.int i, x])) { s with heap := h', toks := s.toks + 1 } :=
   I3.laid (t' := s.toks + 1) k3 (Nat.le_of_eq z3) (show ObjOk X.prog X.w _ h' _ (.tup [.int i, x]) from ⟨by show 2 <= sizeLine; rw [ue]; decide, [.int i s.toks, u], .cons ⟨_, rfl⟩ (.cons ru .nil), ⟨_, t1, rfl, 0, rfl⟩⟩)
  have le : e < s.heap.objs.size := xi h1
  have li : it < s.heap.objs.size := xi gi
  have nH : ∀ b, b < s.heap.objs.size -> upd H s.heap.objs.size (.tup [.int i, x]) b = H b := fun b l => ar (tB l)
  refine ⟨_, rfl, wpAny_letOwnedTupleGo_enum (s := { s with heap := h', toks := s.toks + 1 }) e1 fun h5 e5 s5 => ?_⟩
  have I5 : Inv X pins σ (upd H s.heap.objs.size (.tup [.int i, x])) { s with heap := h5, toks := s.toks + 1 } :=
   I4.turned (t' := s.toks + 1) (fun b o hb q => (s5.2 b hb).trans q) ((nH e le).trans fe.1) fe.2.1 fe.2.2.2.1 fe.2.2.2.2.1 fe.2.2.2.2.2
  refine ⟨.ref s.heap.objs.size, _, I5, rfl, ⟨_, x, hn, rfl, rfl, fun ys hy => by rw [I.list_inj hy hq]; exact hx⟩, ⟨u, e5, i1.at fun o q => (s5.2 it (Ne.symm ne)).trans q⟩, fun b hb => ?_⟩
  rcases ze.mp hb with rfl | hb
  ·exact (nH _ le).trans fe.1
  ·rw [zr.mp hb]; exact (nH _ li).trans fi.1
 done := by
  intro X hP hw hK hc i pins s σ H E I hf st hg
  subst hP hw hK
  obtain ⟨xs, hq, hx⟩ := hg
  obtain ⟨its, rv, p, hz⟩ := I.list hq
  have fi := hf it (by simp)
  have hl := rv.length
  obtain ⟨old, h1, h2⟩ := st
  exact wpAny_pyNext_enum_end (I.ok.hd hc) h1 h2 p.isList (by simp; omega) fun h' eb => ⟨rfl, I.turned (t' := s.toks) (fun b o hb q => eb b o hb q) fi.1 fi.2.1 fi.2.2.2.1 fi.2.2.2.2.1 fi.2.2.2.2.2⟩
 self := fun _ _ _ _ _ ⟨_, st, _⟩ h => wpAny_pyIter_enum st h
def EH (K : W.Frag) (ta : TA) : TI := fun σ H R => ta σ H fun vs H1 => ∃ a, vs = [.ref a] /\ (∃ xs, SqL K H1 a xs) /\ R (Ite K a) H1
theorem Df {arg : Expr} {ta : TA} {p pos : Pos} {elts : List Expr} {cx : _} {tp : Pos} (K : W.Frag) (hg : Gl X "enumerate") (hm : X.mg "enumerate" = none) (ha : PA X [arg] ta) (hs : starEach [arg] X.env = [(false, eval arg X.env)] := by rfl) (hK : X.K = K := by rfl) :
 PI X (.Tuple elts cx tp) (.Call (.Name "enumerate" p) [arg] [] pos) (EH K ta) := by
 subst hK
 intro pins s σ H R I h
 refine Call_ (mt I hg hm PyProof.Rows.boot_enumerate (ZS (thn (ha pos pins s σ H _ I h) fun us s1 ⟨vs, H1, I1, r1, q1⟩ => ?_) hs rfl))
 obtain ⟨a, e, ⟨xs, hq⟩, q⟩ := q1
 subst e
 obtain ⟨u, rfl, ru⟩ := fz r1
 cases (show u = vY a from ru)
 obtain ⟨its, rv, pl, hz⟩ := I1.list hq
 refine call_enumerate_list pl.isList fun h' e1 i1 z1 k1 => wpAny_pyIter_enum (s := { s1 with heap := h' }) e1 ?_
 refine ⟨_, [s1.heap.objs.size + 1, s1.heap.objs.size], _, _, H1, rfl, I1.kept (t' := s1.toks) k1, Aa a _ _ (Nat.succ_ne_self _), ⟨_, e1, i1⟩, fun b hb => ?_, q⟩
 rcases ze.mp hb with rfl | hb
 ·exact I1.fpOk (YI _) (I1.hok.fresh (YI _))
 ·rw [zr.mp hb]; exact I1.fpOk (zM _) (I1.hok.fresh (zM _))
end
end L2
namespace L2
open PySem PyProof.Rows
section
variable {X : Cx} {pins : List (Addr × Obj)} {σ : St} {H : Hp} {s : Shared}
def oF : Value -> List Nat
 | .str x _ => x.cps.toList
 | _ => []
def IsS (v : Value) : Prop := ∃ x t, v = .str x t
abbrev InO (ls : List (List Nat)) : Prop := ls.Pairwise fun a b => ¬ b < a
theorem xk : ∀ {a b : List (List Nat)}, a.Perm b -> InO a -> InO b -> a = b
 | [], _, p, _, _ => p.nil_eq
 | x :: r, b, p, ha, hb => by
  cases b with
  | nil => exact absurd p.length_eq (by simp)
  | cons y t =>
   have hx : x ∈ y :: t := p.mem_iff.mp (.head _)
   have hy : y ∈ x :: r := p.mem_iff.mpr (.head _)
   have e : x = y := by
    rcases ze.mp hx with h | h
    ·exact h
    ·rcases ze.mp hy with h' | h'
     ·exact h'.symm
     ·exact List.le_antisymm (List.not_lt.mp ((Yl.mp ha).1 y h')) (List.not_lt.mp ((Yl.mp hb).1 x h))
   subst e
   rw [xk (List.Perm.cons_inv p) (Yl.mp ha).2 (Yl.mp hb).2]
theorem vO : ∀ {vs : List Value}, (∀ v ∈ vs, IsS v) -> Vals ((vs.map oF).map T) vs
 | [], _ => .nil
 | v :: vs, h => by
  obtain ⟨x, t, rfl⟩ := h v (Zm ..)
  exact .cons ⟨t, rfl⟩ (vO fun u m => h u (tj _ m))
theorem vN : ∀ {ls : List (List Nat)} {vs : List Value}, Vals (ls.map T) vs -> (∀ v ∈ vs, IsS v) /\ vs.map oF = ls
 | [], _, .nil => ⟨(fun _ m => nomatch m), rfl⟩
 | l :: ls, _, .cons e t => by
  obtain ⟨k, rfl⟩ := e
  obtain ⟨a, b⟩ := vN t
  refine ⟨fun v m => ?_, by rw [wW, b]; rfl⟩
  rcases ze.mp m with rfl | m
  ·exact ⟨_, _, rfl⟩
  ·exact a v m
theorem vP : ∀ {vs : List Value}, (∀ v ∈ vs, IsS v) -> ∃ ss, StrsAre vs ss
 | [], _ => ⟨[], .nil⟩
 | v :: vs, h => by
  obtain ⟨x, t, rfl⟩ := h v (Zm ..)
  obtain ⟨ss, r⟩ := vP fun u m => h u (tj _ m)
  exact ⟨x :: ss, .cons x t r⟩
theorem D5 {vs : List Value} (hv : ∀ v ∈ vs, IsS v) {xs : Array Keyed} (hp : xs.Perm (pairsOf vs)) (hs : SortedToK strKind xs (pairsOf vs).size) :
 (xs.map (·.2)).toList.Perm vs /\ InO ((xs.map (·.2)).toList.map oF) := by
 have pl : xs.toList.Perm (vs.toArray.zip vs.toArray).toList := Z5.mp hp
 have e2 : (xs.map (·.2)).toList = xs.toList.map (·.1) := by
  rw [Array.toList_map]
  exact Zr fun p m => (Srt.pairs_mem (pl.mem_iff.mp m)).2
 have p1 : (xs.map (·.2)).toList.Perm vs := by
  rw [e2]
  have := pl.map (·.1)
  rwa [Srt.pairs_fst] at this
 refine ⟨p1, ?_⟩
 rw [e2, vD]
 have sz : xs.size = (pairsOf vs).size := hp.size_eq
 refine Z7.mpr fun i j hi hj hij => ?_
 have hi' : i < xs.size := by simpa using hi
 have hj' : j < xs.size := by simpa using hj
 have l := hs i j (Nat.le_of_lt hij) (by omega)
 have kk : ∀ k (h : k < xs.size), KK strKind xs k = oF xs[k].1 := fun k h => by
  have m : xs[k] ∈ xs.toList := by simp
  obtain ⟨x, t, e⟩ := hv _ (Srt.pairs_mem (pl.mem_iff.mp m)).1
  unfold KK
  rw [Array.getElem?_eq_getElem h]
  show (strKind.keyOf xs[k].1).getD strKind.dflt = _
  rw [e]; rfl
 rw [kk i hi', kk j hj'] at l
 have l' : decide (oF xs[j].1 < oF xs[i].1) = false := l
 simp only [List.getElem_map, Array.getElem_toList, Function.comp_apply]
 exact of_decide_eq_false l'
def F2 (K : W.Frag) : List V -> Hp -> VK -> Prop
 | [.ref p], H, Q => ∃ ls : List (List Nat), SqL K H p (ls.map T) /\ ls.length < 64 /\ ∀ out : List (List Nat), out.Perm ls -> InO out -> ∀ l, H l = none -> Q (.ref l) (upd H l (.lst (out.map T)))
 | _, _, _ => False
theorem t7 {P : Program} {w : World} : ∀ {vs : List (Key × Value)} {us : List Value}, us.length = vs.length -> (∀ (j : Nat) (v : Value), us[j]? = some v -> ∃ k x, vs[j]? = some (k, x) /\ (bT P w).is k v = true) -> Vals (vs.map fun e => kV e.1) us
 | [], [], _, _ => .nil
 | e :: vs, u :: us, hl, h => by
  obtain ⟨k, x, e1, r⟩ := h 0 u rfl
  simp at e1
  subst e1
  refine .cons ?_ (t7 (by simpa using hl) fun j v q => by simpa using h (j + 1) v (by simpa using q))
  cases k with
  | inl i => obtain ⟨t, z⟩ := Value.isInt_shape r; exact ⟨t, z⟩
  | inr x => obtain ⟨t, z⟩ := Value.isStrOf_shape r; exact ⟨t, z⟩
 | [], _ :: _, hl, _ => by simp at hl
 | _ :: _, [], hl, _ => by simp at hl
def xO : List V -> Hp -> VK -> Prop
 | [.ref d], H, Q => ∃ (kvs : List (Key × V)) (ls : List (List Nat)), H d = some (.dK kvs) /\ kvs.map (fun e => kV e.1) = ls.map T /\ ls.length < 64 /\ ∀ out : List (List Nat), out.Perm ls -> InO out -> ∀ l, H l = none -> Q (.ref l) (upd H l (.lst (out.map T)))
 | _, _, _ => False
theorem v_ (hc : X.calm = true) : CallR X (.builtin "sorted") xO := by
 intro pins s σ H xs us Q I r h
 unfold xO at h
 split at h
 ·rename_i d
  obtain ⟨kvs, ls, hd, hks, h64, q⟩ := h
  obtain ⟨u, rfl, rx⟩ := fz r
  cases (show u = vY d from rx)
  obtain ⟨z, lo, vs, kv, D⟩ := Be I.hok hd
  obtain ⟨ep, hat⟩ := D.dictAt
  have len : vs.length = kvs.length := (KV.length kv).symm
  have ek : kvs.map (fun e => kV e.1) = vs.map fun e => kV e.1 := by
   have := congrArg (List.map kV) (KV.keys kv)
   simpa [vD, Function.comp_def] using this
  refine Calls.call_function_entry kind_sorted plain_sorted entry_sorted (args_sorted1 _) ?_
  unfold Builtin.«sorted»
  refine zz (m := checkCount "sorted" 1 1 _) (yZ ?_)
  refine zz (PySem.W.kdu_collect (PySem.W.kdl_dict (knd := bT X.prog X.w) (kvs := vs) (ep := ep) lo) (I.ok.hd hc) hat (by omega) fun h' tk acc kp it => ?_)
  have rv : Vals (ls.map T) acc.toList := by
   rw [<- hks, ek]
   exact t7 (P := X.prog) (w := X.w) (by rw [ZB]; exact it.1) fun j v e => it.2 j v (by rw [<- Array.getElem?_toList]; exact e)
  obtain ⟨hv, em⟩ := vN rv
  obtain ⟨ss, hS⟩ := vP hv
  have len2 : acc.toList.length < 64 := by have := rv.length; rw [zc] at this; omega
  refine zz (wpAny_newList ?_)
  have hoL : (h'.push (seqObj "list" acc.toList.toArray 0)).get? h'.objs.size = some (seqObj "list" acc.toList.toArray 0) := Heap.get?_push_size _ rfl
  refine zz (ZA (Zc slot_list_sort ⟨_, hoL, rfl⟩ entry_list_sort (list_sort_treeK strKind_oneLt hoL hS.keysOf (fun v₁ v₂ rest e => keyKind_strs (by rw [<- e]; exact hS)) len2 fun st' hp hs => ⟨_, rfl, ?_⟩) (args_list_sort _)))
  refine yZ ⟨_, rfl, ?_⟩
  obtain ⟨p1, o1⟩ := D5 hv hp hs
  generalize hout : (arrOf st').map (·.2) = out at p1 o1
  obtain ⟨c, ea⟩ := sortedHeap_at (out := out) hoL
  have I1 : Inv X pins σ H { s with heap := h', toks := tk } := I.kept kp
  have kp2 : ∀ b o, h'.get? b = some o -> (sortedHeap (h'.push (seqObj "list" acc.toList.toArray 0)) h'.objs.size acc.toList out).get? b = some o := fun b o e => by
   have l1 := xi e
   rw [sortedHeap_old (tB l1) (by rw [size_push']; exact Nat.lt_succ_of_lt l1), Heap.get?_push_ne _ _ _ (tB l1)]
   exact e
  have hv2 : ∀ v ∈ out.toList, IsS v := fun v m => hv v (p1.mem_iff.mp m)
  have pm : (out.toList.map oF).Perm ls := by have := p1.map oF; rwa [em] at this
  refine ⟨.ref h'.objs.size, _, I1.laid (t' := tk) (a := h'.objs.size) kp2 (zM _) (show ObjOk X.prog X.w _ _ _ (.lst ((out.toList.map oF).map T)) from ⟨?_, out.toList, c, vO hv2, by rw [Array.toArray_toList]; exact ea⟩), rfl, q _ pm o1 _ (I1.hok.fresh (zM _))⟩
  rw [zc, pm.length_eq, ue]; omega
 ·exact h.elim
end
section
variable {X : Cx} {tg : Expr}
end
open Lean Meta Simp
def DF : List Name := Gh ++ [`L2.Hk, `L2.zD, `L2.EI, `L2.tTryN]
def Dc : List Name := Fc ++ [`L2.F2, `L2.xO, `L2.gListD, `L2.gAny, `L2.Fn, `L2.FL]
end L2
namespace L2
open PySem PyProof.Rows
theorem Bh {l : List Nat} {c : Nat} (h : l ≠ []) (hc : c < 256) : Txt.count ⟨⟨l⟩⟩ ⟨#[c]⟩ = ((spN c l).length : Int) - 1 := by
 have e := congrArg ZN (wN l c)
 rw [zc] at e
 have h1 : (decide ((⟨⟨l⟩⟩ : Str).length < (⟨#[c]⟩ : Str).length) || decide (ZC ⟨⟨l⟩⟩ < ZC ⟨#[c]⟩)) = false := by
  have a1 : ¬ (⟨⟨l⟩⟩ : Str).length < (⟨#[c]⟩ : Str).length := by
   have : 0 < l.length := List.length_pos_iff.mpr h
   show ¬ l.length < 1
   omega
  have a2 : ZC ⟨#[c]⟩ = 1 := by
   unfold ZC
   rw [if_pos (by simp [hc])]
  have a3 : ¬ ZC ⟨⟨l⟩⟩ < 1 := by
   unfold ZC
   split
   ·decide
   ·split <;> decide
  rw [a2, decide_eq_false a1, decide_eq_false a3]; rfl
 unfold Txt.split at e
 rw [if_neg (ne_true_of_eq_false h1)] at e
 unfold Txt.count
 by_cases hf : (Builtin.Str.occurrences ⟨⟨l⟩⟩ ⟨#[c]⟩ 0 (⟨⟨l⟩⟩ : Str).length ((⟨⟨l⟩⟩ : Str).length + 1)).isEmpty = true
 ·rw [if_pos hf] at e
  rw [<- e, List.isEmpty_iff.mp hf]; rfl
 ·rw [if_neg hf, length_partsBetween] at e
  rw [<- e]; omega
section
variable {X : Cx} {pins : List (Addr × Obj)} {σ : St} {H : Hp} {s : Shared}
def ES : V -> List V -> Hp -> VK -> Prop
 | .str x, [.str y], H, Q => ∃ c, cs y = [c] /\ c < 256 /\ cs x ≠ [] /\ Q (.int ((spN c (cs x)).length - 1)) H
 | _, _, _, _ => False
theorem Cr : MtR X "str.count" ES := by
 intro pins s σ H x xs v us Q I rx rs h
 unfold ES at h
 split at h
 ·rename_i x y
  obtain ⟨c, hc, h2, h0, q⟩ := h
  obtain ⟨t, rfl⟩ := rx
  obtain ⟨u, rfl, t', rfl⟩ := fz rs
  have hy := Cb hc
  subst hy
  obtain ⟨⟨l⟩⟩ := x
  refine SC.count ⟨.int _, H, I.kept (t' := s.toks + 1) (fun b o e => e), ⟨_, rfl⟩, ?_⟩
  rw [Bh (l := l) h0 h2]; exact q
 ·exact h.elim
end
namespace Srt
def HV (h : Heap) (p : Addr) (x y z : Int) : Prop := ∃ (o : Obj) (t u r : Tok) (n : Nat), h.get? p = some o /\ o.cls = .type "tuple" /\ o.data = .seq #[.int x t, .int y u, .int z r] n
section
variable {prog : Program} {w : World} {A : Around} {E : Value -> Shared -> Prop} {s : Shared}
end
end Srt
section
variable {X : Cx} {pins : List (Addr × Obj)} {σ : St} {H : Hp} {s : Shared}
end
end L2
namespace L2
namespace Rv
open PySem PyProof.Rows
section
variable {prog : Program} {w : World} {A : Around} {E : Value -> Shared -> Prop} {s : Shared}
theorem enum_item {e it : Addr} {i : Nat} {x old : Value} {T : Heap -> Prop} {Q : Value -> Shared -> Prop} (en : IsEnum s.heap e it i old) (ne : e ≠ it)
 (tk : ∀ h h' : Heap, T h -> ZV e h h' -> T h') (tp : ∀ (h : Heap) (o : Obj), T h -> T (h.push o))
 (inner : ∀ Q' : Value -> Shared -> Prop, (∀ h', T h' -> ZV it s.heap h' -> Q' x { s with heap := h' }) -> wpAny (model prog w) A (ZM (.ref it)) Q' E s)
 (k : ∀ h', IsEnumOut h' e it ((i : Int) + 1) x s.heap.objs.size -> T h' -> h'.get? s.heap.objs.size = some { cls := .type "tuple", data := .seq #[.int i s.toks, x] } -> h'.objs.size = s.heap.objs.size + 1 ->
  (∀ b o, b ≠ e -> b ≠ it -> s.heap.get? b = some o -> h'.get? b = some o) -> Q (.ref s.heap.objs.size) { s with heap := h', toks := s.toks + 1 }) :
 wpAny (model prog w) A (Builtin.«enumerate.__next__» ⟨[.ref e], []⟩) (fun fin s' => ∃ v, fin = .done (.ret v) /\ Q v s') E s := by
 obtain ⟨hp, g, d, tn, os⟩ := s
 show wpAny (model prog w) A (field (.ref e) 2 >>= _) _ _ _
 refine zz (ZO en rfl (x := .ref it) rfl (zz (inner _ fun a1 t1 sb1 => ?_)))
 have n1 : IsEnum a1 e it i old := (sb1.2 e ne).trans en
 have z1 : a1.objs.size = hp.objs.size := sb1.1
 have lt : e < hp.objs.size := xi en
 show wpAny (model prog w) A (field (.ref e) 3 >>= _) _ _ ⟨a1, g, d, tn, os⟩
 refine zz (ZO n1 rfl (x := rawInt i) rfl ?_)
 show wpAny (model prog w) A (field (.ref e) 4 >>= _) _ _ ⟨a1, g, d, tn, os⟩
 refine zz (ZO n1 rfl (x := .none) rfl ?_)
 show wpAny (model prog w) A (mkInt i >>= _) _ _ ⟨a1, g, d, tn, os⟩
 refine zz (wpAny_mkInt ?_)
 show wpAny (model prog w) A (setField (.ref e) 3 (rawInt ((i : Int) + 1)) >>= _) _ _ ⟨a1, g, d, tn + 1, os⟩
 refine zz (Yn n1 (by simp) fun a2 n2 sb2 => ?_)
 replace sb2 : ZV e a1 a2 := sb2
 replace n2 : IsEnum a2 e it ((i : Int) + 1) old := n2
 show wpAny (model prog w) A (setField (.ref e) 4 .none >>= _) _ _ ⟨a2, g, d, tn + 1, os⟩
 refine zz (Yn n2 (by simp) fun a3 n3 sb3 => ?_)
 replace sb3 : ZV e a2 a3 := sb3
 replace n3 : IsEnum a3 e it ((i : Int) + 1) old := n3
 show wpAny (model prog w) A (newTuple [.int i tn, x] >>= _) _ _ ⟨a3, g, d, tn + 1, os⟩
 refine zz (wpAny_newTuple ?_)
 have z3 : a3.objs.size = hp.objs.size := by rw [sb3.1, sb2.1, z1]
 have t3 := tk _ _ (tk _ _ t1 sb2) sb3
 have k3 : ∀ b o, b ≠ e -> b ≠ it -> hp.get? b = some o -> a3.get? b = some o := fun b o b1 b2 q => sb3.extBut b o b1 (sb2.extBut b o b1 (sb1.extBut b o b2 q))
 have n4 : IsEnum (a3.push { cls := .type "tuple", data := .seq #[.int i tn, x] }) e it ((i : Int) + 1) old := Heap.get?_push_of_some _ n3
 have g4 : (a3.push { cls := .type "tuple", data := .seq #[.int i tn, x] }).get? hp.objs.size = some { cls := .type "tuple", data := .seq #[.int i tn, x] } := by rw [<- z3]; exact Heap.get?_push_size _ rfl
 have z4 : (a3.push { cls := .type "tuple", data := .seq #[.int i tn, x] }).objs.size = hp.objs.size + 1 := by rw [Heap.size_push, z3]
 have t4 := tp _ { cls := .type "tuple", data := .seq #[.int i tn, x] } t3
 have k4 : ∀ b o, b ≠ e -> b ≠ it -> hp.get? b = some o -> (a3.push { cls := .type "tuple", data := .seq #[.int i tn, x] }).get? b = some o := fun b o b1 b2 q => Heap.get?_push_of_some _ (k3 b o b1 b2 q)
 rw [z3]
 generalize a3.push { cls := .type "tuple", data := .seq #[.int i tn, x] } = a4 at n4 g4 z4 t4 k4 |-
 clear k3 t3 n3 sb3 n2 sb2 n1 sb1 t1
 show wpAny (model prog w) A (Builtin.SmallTypes.ownedTupleIsFree (.ref e) >>= _) _ _ ⟨a4, g, d, tn + 1, os⟩
 refine zz ?_
 unfold Builtin.SmallTypes.ownedTupleIsFree
 refine zz (ZO n4 rfl (x := .none) rfl (yZ ?_))
 simp only [if_true]
 refine zz (wpAny_rule (zz (ZO n4 rfl (x := old) rfl (zz (Yn n4 (by simp) fun a5 n5 sb5 => ?_)))))
 replace sb5 : ZV e a4 a5 := sb5
 replace n5 : IsEnum a5 e it ((i : Int) + 1) x := n5
 show wpAny (model prog w) A (Builtin.SmallTypes.ownedTupleHandOut (.ref e) (.ref hp.objs.size) >>= _) _ _ ⟨a5, g, d, tn + 1, os⟩
 refine zz ?_
 unfold Builtin.SmallTypes.ownedTupleHandOut
 refine zz (Yn n5 (by simp) fun a6 n6 sb6 => ?_)
 replace sb6 : ZV e a5 a6 := sb6
 replace n6 : IsEnumOut a6 e it ((i : Int) + 1) x hp.objs.size := n6
 refine Yn n6 (by simp) fun a7 n7 sb7 => ?_
 replace sb7 : ZV e a6 a7 := sb7
 replace n7 : IsEnumOut a7 e it ((i : Int) + 1) x hp.objs.size := n7
 have up : ∀ b o, b ≠ e -> a4.get? b = some o -> a7.get? b = some o := fun b o b1 q => sb7.extBut b o b1 (sb6.extBut b o b1 (sb5.extBut b o b1 q))
 exact zz (wpAny_letGo (yZ ⟨_, rfl, k a7 n7 (tk _ _ (tk _ _ (tk _ _ t4 sb5) sb6) sb7) (up _ _ (Nat.ne_of_gt lt) g4) (by rw [sb7.1, sb6.1, sb5.1, z4]) fun b o b1 b2 q => up b o b1 (k4 b o b1 b2 q)⟩))
end
end Rv
open PySem PyProof.Rows
section
variable {X : Cx} {pins : List (Addr × Obj)} {σ : St} {H : Hp} {s : Shared}
end
end L2
namespace L2
open PySem PyProof.Rows
def FE (J : It) (g : TG) (tb : TS) (D : fI) (σ : St) (H : Hp) : Prop := ∃ W : Nat -> Nat -> St -> Hp -> Prop, (∃ m, W 0 m σ H) /\ ∀ i m σ H, W i m σ H ->
 (J.stop i H /\ D.nx σ H) \/ (J.go i H /\ ∃ N : St -> Hp -> Prop, (∀ σ' H', N σ' H' -> ∃ m', m' < m /\ W (i + 1) m' σ' H') /\ ∀ x H', J.yld i H x H' -> g x σ H' fun σ2 H2 => tb { D with nx := N, ct := N, bk := D.nx } σ2 H2)
theorem hZ {J : It} {H1 : Hp} {D : Addr} {Q : VK} {σr : St} {tt : TT} {te : TE} (h : ∃ W : Nat -> Nat -> List V -> Hp -> Prop, (∃ m, W 0 m [] (upd H1 D (.lst []))) /\
 ∀ i m ys H2, W i m ys H2 -> H2 D = some (.lst ys) /\ ((J.stop i H2 /\ Q (.ref D) H2) \/ (J.go i H2 /\ ∀ x H3, J.yld i H2 x H3 ->
  tt (some x :: σr) H3 fun b H4 => if b = true then te (some x :: σr) H4 fun y H5 => H5 D = some (.lst ys) /\ ys.length < sizeLine /\ ∃ m', m' < m /\ W (i + 1) m' (ys ++ [y]) (upd H5 D (.lst (ys ++ [y])))
   else ∃ m', m' < m /\ W (i + 1) m' ys H4))) :
 ∃ W : Nat -> Nat -> List V -> Hp -> Prop, (∃ m, W 0 m [] (upd H1 D (.lst []))) /\
  ∀ i m ys H2, W i m ys H2 -> H2 D = some (.lst ys) /\ ((J.stop i H2 /\ Q (.ref D) H2) \/ (J.go i H2 /\ ∀ x H3, J.yld i H2 x H3 -> ∀ zs : St, zs.length = 1 ->
   ii 0 x (zs ++ σr) H3 fun σ4 H4 => (∃ zs4 : St, zs4.length = 1 /\ σ4 = zs4 ++ σr) /\
    tt σ4 H4 fun b H5 => if b = true then te σ4 H5 fun y H6 => H6 D = some (.lst ys) /\ ys.length < sizeLine /\ ∃ m', m' < m /\ W (i + 1) m' (ys ++ [y]) (upd H6 D (.lst (ys ++ [y])))
     else ∃ m', m' < m /\ W (i + 1) m' ys H5)) := by
 obtain ⟨W, h0, h⟩ := h
 refine ⟨W, h0, fun i m ys H2 w => ?_⟩
 obtain ⟨h1, h2⟩ := h i m ys H2 w
 refine ⟨h1, h2.imp id fun ⟨g1, g2⟩ => ⟨g1, fun x H3 y zs hz => ?_⟩⟩
 obtain ⟨z, rfl⟩ := ex1 hz
 exact ⟨⟨[some x], rfl, rfl⟩, g2 x H3 y⟩
theorem cmS {tl : TE} {ks : List Nat} {σ : St} {H : Hp} {Q : VK} {tt : TT} {te : TE} (C : Hp -> Prop) (hC : ∀ D ys, H D = none -> C (upd H D (.lst ys))) (l : List Nat) (p : Nat -> Bool) (f : Nat -> V) (hl : ∀ R : VK, R (T l) H -> tl σ H R) (ha : ∀ c ∈ l, c < 128) (hz : l.length <= sizeLine)
 (hp : ∀ c ∈ l, ∀ H (R : Bool -> Hp -> Prop), C H -> R (p c) H -> tt (some (T [c]) :: ks.map fun k => (σ[k]?).join) H R) (hf : ∀ c ∈ l, p c = true -> ∀ H (R : VK), C H -> R (f c) H -> te (some (T [c]) :: ks.map fun k => (σ[k]?).join) H R)
 (q : ∀ D, H D = none -> Q (.ref D) (upd H D (.lst ((l.filter p).map f)))) : gX (GC tl) 1 (ii 0) ks tt te σ H Q := by
 refine hl _ ⟨by simpa [cs] using ha, fun D hD => ?_⟩
 have P : ∀ x ∈ l.map fun c => T [c], ∃ c ∈ l, x = T [c] := fun x hx => by
  obtain ⟨c, hc, rfl⟩ := rf.mp hx; exact ⟨c, hc, rfl⟩
 let hd : V -> Nat := fun v => match v with | .str y => (cs y).headD 0 | _ => 0
 have hhd : ∀ c, hd (T [c]) = c := fun c => rfl
 refine hZ (oH (CF l) C (fun v => p (hd v)) (fun v => f (hd v)) (by simpa using hz) (fun x hx H R c r => ?_) (fun x hx hb H R c r => ?_) D hD (fun ys => hC D ys hD) ?_)
 ·obtain ⟨y, hy, rfl⟩ := P x hx
  exact hp y hy H R c r
 ·obtain ⟨y, hy, rfl⟩ := P x hx
  exact hf y hy hb H R c r
 ·have e : ((l.map fun c => T [c]).filter fun v => p (hd v)).map (fun v => f (hd v)) = (l.filter p).map f := by
   rw [List.filter_map, vD]
   rfl
  rw [e]; exact q D hD
theorem cmR {ta : TA} {ks : List Nat} {σ : St} {H : Hp} {Q : VK} {tt : TT} {te : TE} (C : Hp -> Prop) (hC : ∀ D ys, H D = none -> C (upd H D (.lst ys))) (n : Nat) (p : Nat -> Bool) (f : Nat -> V) (hl : ∀ R : List V -> Hp -> Prop, R [.int n] H -> ta σ H R) (hz : n <= sizeLine)
 (hp : ∀ k, k < n -> ∀ H (R : Bool -> Hp -> Prop), C H -> R (p k) H -> tt (some (.int k) :: ks.map fun k => (σ[k]?).join) H R) (hf : ∀ k, k < n -> p k = true -> ∀ H (R : VK), C H -> R (f k) H -> te (some (.int k) :: ks.map fun k => (σ[k]?).join) H R)
 (q : ∀ D, H D = none -> Q (.ref D) (upd H D (.lst (((xp n).filter p).map f)))) : gX (By ta) 1 (ii 0) ks tt te σ H Q := by
 have hz' : (n : Int) < 2 ^ 62 := by
  have : sizeLine < 2 ^ 62 := by rw [ue]; decide
  have h2 : n < 2 ^ 62 := by omega
  have e : ((2 ^ 62 : Nat) : Int) = (2 : Int) ^ 62 := by decide
  omega
 refine hl _ ⟨n, rfl, by omega, hz', ?_⟩
 rw [ZY]
 intro D hD
 have P : ∀ x ∈ (xp n).map fun k => V.int (k : Nat), ∃ k, k < n /\ x = .int (k : Nat) := fun x hx => by
  obtain ⟨c, hc, rfl⟩ := rf.mp hx; exact ⟨c, by simpa using hc, rfl⟩
 let hd : V -> Nat := fun v => match v with | .int i => i.toNat | _ => 0
 have hhd : ∀ c : Nat, hd (.int c) = c := fun c => ZY c
 refine hZ (oH (A7 n) C (fun v => p (hd v)) (fun v => f (hd v)) (by simpa using hz) (fun x hx H R c' r => ?_) (fun x hx hb H R c' r => ?_) D hD (fun ys => hC D ys hD) ?_)
 ·obtain ⟨c, hc, rfl⟩ := P x hx
  rw [hhd] at r
  exact hp c hc H R c' r
 ·obtain ⟨c, hc, rfl⟩ := P x hx
  rw [hhd] at r hb
  exact hf c hc hb H R c' r
 ·have e : (((xp n).map fun k => V.int (k : Nat)).filter fun v => p (hd v)).map (fun v => f (hd v)) = ((xp n).filter p).map f := by
   rw [List.filter_map, vD]
   have e1 : ((fun v => p (hd v)) ∘ fun k : Nat => V.int (k : Nat)) = p := by funext k; simp only [Function.comp, hhd]
   have e2 : ((fun v => f (hd v)) ∘ fun k : Nat => V.int (k : Nat)) = f := by funext k; simp only [Function.comp, hhd]
   rw [e1, e2]
  rw [e]; exact q D hD
theorem cmT {K : W.Frag} {tl : TE} {ks : List Nat} {σ : St} {H H1 : Hp} {Q : VK} {tt : TT} {te : TE} (a : Addr) (vs : List V) (C : Hp -> Prop) (hC : ∀ D ys, H1 D = none -> C (upd H1 D (.lst ys))) (hT : ∀ H, C H -> SqT K H a vs) (p : V -> Bool) (f : V -> V)
 (hl : ∀ R : VK, R (.ref a) H1 -> tl σ H R) (h1 : SqT K H1 a vs) (hz : vs.length <= sizeLine)
 (hp : ∀ x ∈ vs, ∀ H (R : Bool -> Hp -> Prop), C H -> R (p x) H -> tt (some x :: ks.map fun k => (σ[k]?).join) H R) (hf : ∀ x ∈ vs, p x = true -> ∀ H (R : VK), C H -> R (f x) H -> te (some x :: ks.map fun k => (σ[k]?).join) H R)
 (q : ∀ D, H1 D = none -> Q (.ref D) (upd H1 D (.lst ((vs.filter p).map f)))) : gX (FK K tl) 1 (ii 0) ks tt te σ H Q :=
 hl _ ⟨a, rfl, ⟨vs, h1⟩, fun D hD => hZ (rm C (B6 hT) p f hz hp hf D hD (fun ys => hC D ys hD) (q D hD))⟩
theorem cmL {K : W.Frag} {tl : TE} {ks : List Nat} {σ : St} {H H1 : Hp} {Q : VK} {tt : TT} {te : TE} (a : Addr) (vs : List V) (C : Hp -> Prop) (hC : ∀ D ys, H1 D = none -> C (upd H1 D (.lst ys))) (hT : ∀ H, C H -> SqL K H a vs) (p : V -> Bool) (f : V -> V)
 (hl : ∀ R : VK, R (.ref a) H1 -> tl σ H R) (h1 : SqL K H1 a vs) (hz : vs.length <= sizeLine)
 (hp : ∀ x ∈ vs, ∀ H (R : Bool -> Hp -> Prop), C H -> R (p x) H -> tt (some x :: ks.map fun k => (σ[k]?).join) H R) (hf : ∀ x ∈ vs, p x = true -> ∀ H (R : VK), C H -> R (f x) H -> te (some x :: ks.map fun k => (σ[k]?).join) H R)
 (q : ∀ D, H1 D = none -> Q (.ref D) (upd H1 D (.lst ((vs.filter p).map f)))) : gX (rF K tl) 1 (ii 0) ks tt te σ H Q :=
 hl _ ⟨a, rfl, ⟨vs, h1⟩, fun D hD => hZ (rm C (Bc hT) p f hz hp hf D hD (fun ys => hC D ys hD) (q D hD))⟩
theorem HG {ta : TA} {ks : List Nat} {σ : St} {H : Hp} {Q : VK} {tt : TT} {te : TE} (C : Hp -> Prop) (hC : ∀ D ys, H D = none -> C (upd H D (.lst ys))) (lo hi : Int) (n : Nat) (hn : (hi - lo).toNat = n) (p : V -> Bool) (f : V -> V) (hl : ∀ R : List V -> Hp -> Prop, R [.int lo, .int hi] H -> ta σ H R) (hb : -(2 ^ 62) <= lo /\ lo < 2 ^ 62 /\ -(2 ^ 62) <= hi /\ hi < 2 ^ 62) (hz : n <= sizeLine)
 (hp : ∀ k : Nat, k < n -> ∀ H (R : Bool -> Hp -> Prop), C H -> R (p (.int (lo + k))) H -> tt (some (.int (lo + k)) :: ks.map fun k => (σ[k]?).join) H R) (hf : ∀ k : Nat, k < n -> p (.int (lo + k)) = true -> ∀ H (R : VK), C H -> R (f (.int (lo + k))) H -> te (some (.int (lo + k)) :: ks.map fun k => (σ[k]?).join) H R)
 (q : ∀ D, H D = none -> Q (.ref D) (upd H D (.lst ((((xp n).map fun k : Nat => V.int (lo + k)).filter p).map f)))) : gX (Cp ta) 1 (ii 0) ks tt te σ H Q := by
 refine hl _ ⟨lo, hi, rfl, hb, ?_⟩
 rw [hn]
 intro D hD
 have P : ∀ x ∈ (xp n).map fun k : Nat => V.int (lo + k), ∃ k : Nat, k < n /\ x = .int (lo + k) := fun x hx => by
  obtain ⟨c, hc, rfl⟩ := rf.mp hx; exact ⟨c, by simpa using hc, rfl⟩
 refine hZ (oH (AJ lo n) C p f (by simpa using hz) (fun x hx H R c' r => ?_) (fun x hx hb H R c' r => ?_) D hD (fun ys => hC D ys hD) (q D hD))
 ·obtain ⟨c, hc, rfl⟩ := P x hx
  exact hp c hc H R c' r
 ·obtain ⟨c, hc, rfl⟩ := P x hx
  exact hf c hc hb H R c' r
inductive A2 {α β : Type} (R : α -> β -> Prop) : List α -> List β -> Prop
 | nil : A2 R [] []
 | cons {a : α} {b : β} {as : List α} {bs : List β} : R a b -> A2 R as bs -> A2 R (a :: as) (b :: bs)
namespace A2
variable {α β : Type} {R S : α -> β -> Prop}
theorem len {as : List α} {bs : List β} (h : A2 R as bs) : as.length = bs.length := by
 induction h with
 | nil => rfl
 | cons _ _ ih => simp [ih]
theorem imp {as : List α} {bs : List β} (h : A2 R as bs) (f : ∀ a b, a ∈ as -> b ∈ bs -> R a b -> S a b) : A2 S as bs := by
 induction h with
 | nil => exact .nil
 | cons r _ ih => exact .cons (f _ _ (.head _) (.head _) r) (ih fun a b ha hb => f a b (.tail _ ha) (.tail _ hb))
theorem at_ {as : List α} {bs : List β} (h : A2 R as bs) : ∀ {i : Nat} {a : α}, as[i]? = some a -> ∃ b, bs[i]? = some b /\ R a b := by
 induction h with
 | nil => intro i a e; simp at e
 | cons r _ ih =>
  intro i a e
  cases i with
  | zero => cases e; exact ⟨_, rfl, r⟩
  | succ i => exact ih (i := i) (by simpa using e)
theorem mem {as : List α} {bs : List β} (h : A2 R as bs) {a : α} (m : a ∈ as) : ∃ b, b ∈ bs /\ R a b := by
 induction h with
 | nil => cases m
 | cons r _ ih =>
  rcases ze.mp m with rfl | m
  ·exact ⟨_, .head _, r⟩
  ·obtain ⟨b, h1, h2⟩ := ih m
   exact ⟨b, .tail _ h1, h2⟩
theorem app {as : List α} {bs : List β} (h : A2 R as bs) {cs : List α} {ds : List β} (g : A2 R cs ds) : A2 R (as ++ cs) (bs ++ ds) := by
 induction h with
 | nil => exact g
 | cons r _ ih => exact .cons r ih
theorem snoc {as : List α} {bs : List β} {a : α} {b : β} (h : A2 R as bs) (r : R a b) : A2 R (as ++ [a]) (bs ++ [b]) := h.app (.cons r .nil)
end A2
def sp6 (f : V -> V -> V -> V -> V -> V -> Hp -> VK -> XK -> Prop) : Sp := fun vs H Q E => match vs with
 | [x, y, z, u, v, a] => f x y z u v a H Q E
 | _ => False
def sp7 (f : V -> V -> V -> V -> V -> V -> V -> Hp -> VK -> XK -> Prop) : Sp := fun vs H Q E => match vs with
 | [x, y, z, u, v, a, b] => f x y z u v a b H Q E
 | _ => False
open Lean Meta Simp
def D_ : List Name := DF ++ [`L2.iW, `Option.join]
def Dk : List Name := Dc ++ [`L2.ES, `L2.gSortT, `L2.sp5, `L2.sp6, `L2.sp7]
def Fg : Name -> Bool
 | .str _ s => s.startsWith "sp_"
 | _ => false
end L2
namespace L2
open PySem PyProof.Rows Builtin Builtin.Str
section
variable {X : Cx}
end
end L2
namespace L2
open PySem PyProof.Rows
section
variable {prog : Program} {w : World} {A : Around} {E : Value -> Shared -> Prop} {s : Shared} {it d : Addr} {i ep : Nat} {od : Obj} {es : Array Ye}
theorem DQ {Q : Value -> Shared -> Prop} (lo : (d == ZK) = false) (ho : s.heap.get? d = some od) (ex : od.ExactDict) (hd : od.data = .dict es ep)
 (q : Q (.ref s.heap.objs.size) { s with heap := s.heap.push { cls := .type "dict_keyiterator", data := .fields #[.ref d, .int 0 0, .int es.size 0, .int ep 0] } }) : wpAny (model prog w) A (pyIter (.ref d)) Q E s := by
 have ty : s.TypeIs (.ref d) "dict" := ⟨od, ho, ex.1⟩
 refine wpAny_pyIter_slot ty F.slot_dict_iter (Zc F.slot_dict_iter ty F.entry_dict_iter ?_ (F.args_dict_iter_1 _))
 unfold Builtin.«dict.__iter__» Builtin.Dict.dictSlotNone
 refine zz (zz (wpAny_notOrdered_dict ty ?_)); show wpAny _ _ (pure (vY d)) _ _ s
 refine yZ ?_; show wpAny _ _ (Builtin.Dict.showsAll d >>= _) _ _ s
 unfold Builtin.Dict.showsAll; rw [if_neg (by rw [lo]; exact xh)]
 refine zz (yZ (zz (wpAny_dictEntries ho hd (zz (wpAny_dictEpoch ho hd ?_)))))
 refine zz (Zj (yZ ⟨_, rfl, "dict_keyiterator", _, ⟨_, Heap.get?_push_size _ rfl, rfl⟩, ZD.lookup, by simpa [rawInt] using q⟩))
theorem Ec {e : Ye} {Q : Option Value -> Shared -> Prop} (hi : s.heap.IsKeyIter it d i es.size ep) (hod : s.heap.get? d = some od) (hdd : od.data = .dict es ep) (hx : es[i]? = some e)
 (q : ∀ h', h'.IsKeyIter it d (i + 1) es.size ep -> ZV it s.heap h' -> Q (some e.key) { s with heap := h' }) : wpAny (model prog w) A (pyNext (.ref it)) Q E s := by
 obtain ⟨o, ho, hc, hd⟩ := id hi
 have ty := hi.typeIs
 unfold pyNext
 refine zz (wpAny_attempt (wpAny_callSpecial?_slot (name := wo "__next__") ty ZD (Zc ZD ty F.entry_dict_keyiterator_next ?_ (F.args_dict_keyiterator_next_1 _))))
 refine zz (yZ (zz (zz ?_)))
 first | refine zz (ZH ty (yZ (zz (wpAny_fieldsOf ho hd ?_)))) | refine zz (Ys ty (yZ (zz (wpAny_fieldsOf ho hd ?_))))
 simp only [show Builtin.Dict_items.ownsTuple "dict_keyiterator" = false by decide, nJ, if_false]
 show wpAny _ _ (if (vY d == ZR) = true then _ else _) _ _ s; rw [if_neg (show ¬ ((vY d == ZR) = true) from xh)]
 refine zz (yZ (zz (wpAny_dictEntries hod hdd ?_))); rw [if_neg (by simp)]
 refine zz (yZ (zz (wpAny_dictEpoch hod hdd ?_))); rw [if_neg (by simp)]
 refine yZ ?_
 have lt : i < es.size := (Array.getElem?_eq_some_iff.mp hx).1
 have ee : es[i] = e := (Array.getElem?_eq_some_iff.mp hx).2
 simp only [show ¬ ((i : Int) < 0) from by omega, if_false, ZY, Array.getElem?_eq_getElem lt]; refine zz ?_
 first | refine zz (ZH ty (yZ (zz (wpAny_isOneOf_keyiter ty ?_)))) | refine zz (Ys ty (yZ (zz (wpAny_isOneOf_keyiter ty ?_))))
 show wpAny _ _ (setField (.ref it) 1 (rawInt ((i : Int) + 1)) >>= _) _ _ s; refine zz (wpAny_setField ho hd (by simp) ?_)
 have hi' : (s.heap.update it (Obj.mapFields (·.setIfInBounds 1 (rawInt ((i : Int) + 1))))).IsKeyIter it d (i + 1) es.size ep := ⟨_, Heap.get?_update_self _ ho (YZ (YJ hd _)), (Obj.cls_mapFields ..).trans hc, by rw [YJ hd]; simp [rawInt]⟩
 refine zz (ZA (zz (wpAny_isOneOf_keyiter (s := { s with heap := s.heap.update it (Obj.mapFields (·.setIfInBounds 1 (rawInt ((i : Int) + 1)))) }) hi'.typeIs ?_)))
 show wpAny _ _ (pure es[i].key) _ _ _; rw [ee]
 exact yZ (yZ ⟨_, rfl, yZ (q _ hi' (ZV.update ..))⟩)
theorem Fj {Q : Option Value -> Shared -> Prop} (hh : A.handled = none) (hi : s.heap.IsKeyIter it d i es.size ep) (hod : s.heap.get? d = some od) (hdd : od.data = .dict es ep) (hx : es.size <= i)
 (q : ∀ h', Heap.ExtBut it s.heap h' -> Q none { s with heap := h' }) : wpAny (model prog w) A (pyNext (.ref it)) Q E s := by
 obtain ⟨o, ho, hc, hd⟩ := id hi
 have ty := hi.typeIs
 unfold pyNext
 refine zz (wpAny_attempt (wpAny_callSpecial?_slot (name := wo "__next__") ty ZD (Zc ZD ty F.entry_dict_keyiterator_next ?_ (F.args_dict_keyiterator_next_1 _))))
 refine zz (yZ (zz (zz ?_)))
 first | refine zz (ZH ty (yZ (zz (wpAny_fieldsOf ho hd ?_)))) | refine zz (Ys ty (yZ (zz (wpAny_fieldsOf ho hd ?_))))
 simp only [show Builtin.Dict_items.ownsTuple "dict_keyiterator" = false by decide, nJ, if_false]
 show wpAny _ _ (if (vY d == ZR) = true then _ else _) _ _ s; rw [if_neg (show ¬ ((vY d == ZR) = true) from xh)]
 refine zz (yZ (zz (wpAny_dictEntries hod hdd ?_))); rw [if_neg (by simp)]
 refine zz (yZ (zz (wpAny_dictEpoch hod hdd ?_))); rw [if_neg (by simp)]
 refine yZ ?_
 simp only [show ¬ ((i : Int) < 0) from by omega, if_false, ZY, Array.getElem?_eq_none hx]; refine zz ?_
 first | refine zz (ZH ty (yZ ?_)) | refine zz (Ys ty (yZ ?_))
 show wpAny _ _ (setField (.ref it) 0 .none >>= _) _ _ s; refine zz (wpAny_setField ho hd (by simp) ?_)
 show wpAny _ _ (newExc (.type "StopIteration") [] >>= _) _ _ _; refine zz ?_
 simp only [newExc, newTuple]; refine zz (Zj ?_ (by size_fits))
 refine zz (m := firstArgMember _ _) (wpAny_of_eq (a := ZR) (by first | rfl | (simp only [firstArgMember]; rfl)) (Zj ?_ (by size_fits)))
 simp only [raiseNew]; refine zz (wpAny_handled ?_)
 rw [show A.in1.handled = none from hh]; refine zz (yZ (wpAny_throw ?_))
 refine zz (wpAny_isInstance (T := "StopIteration") (b := true) ⟨_, Heap.get?_push_size _ rfl, rfl⟩ isSubtype_stop (yZ (q _ (((ZV.update ..).extBut.push _).push _))))
end
abbrev Pt := List Nat × List Nat
def ltP (a b : Pt) : Prop := a.1 < b.1 \/ (a.1 = b.1 /\ a.2 < b.2)
instance (a b : Pt) : Decidable (ltP a b) := by unfold ltP; infer_instance
namespace Srt
def HZ (h : Heap) (p : Addr) (e : Pt) : Prop := ∃ (o : Obj) (t u : Tok) (n : Nat), h.get? p = some o /\ o.cls = .type "tuple" /\ o.data = .seq #[.str ⟨⟨e.1⟩⟩ t, .str ⟨⟨e.2⟩⟩ u] n
section
variable {prog : Program} {w : World} {A : Around} {E : Value -> Shared -> Prop} {s : Shared}
end
end Srt
section
variable {X : Cx} {pins : List (Addr × Obj)} {σ : St} {H : Hp} {s : Shared}
end
def CEl (J : It) (n : Nat) (g : TG) (ks : List Nat) (tt : TT) (te : TE) (σ : St) (H1 : Hp) (Q : VK) : Prop := ∀ D, H1 D = none -> ∃ W : Nat -> Nat -> List V -> Hp -> Prop, (∃ m, W 0 m [] (upd H1 D (.lst []))) /\
 ∀ i m ys H2, W i m ys H2 -> H2 D = some (.lst ys) /\ ((J.stop i H2 /\ Q (.ref D) H2) \/ (J.go i H2 /\ ∀ x H3, J.yld i H2 x H3 -> ∀ zs : St, zs.length = n ->
  g x (zs ++ ks.map fun k => (σ[k]?).join) H3 fun σ4 H4 => (∃ zs4 : St, zs4.length = n /\ σ4 = zs4 ++ ks.map fun k => (σ[k]?).join) /\
   tt σ4 H4 fun b H5 => if b = true then te σ4 H5 fun y H6 => H6 D = some (.lst ys) /\ ys.length < sizeLine /\ ∃ m', m' < m /\ W (i + 1) m' (ys ++ [y]) (upd H6 D (.lst (ys ++ [y])))
    else ∃ m', m' < m /\ W (i + 1) m' ys H5))
theorem v6 {K : W.Frag} {tl : TE} {n : Nat} {g : TG} {ks : List Nat} {tt : TT} {te : TE} {σ : St} {H : Hp} {Q : VK} (h : tl σ H fun x H1 => ∃ a, x = .ref a /\ (∃ xs, SqL K H1 a xs) /\ CEl (Itl K a) n g ks tt te σ H1 Q) : gX (rF K tl) n g ks tt te σ H Q := h
theorem CI {K : W.Frag} {n : Nat} {g : TG} {ks : List Nat} {tt : TT} {te : TE} {σ : St} {H1 : Hp} {Q : VK} (a : Addr) (xs : List V) (P : Addr -> Nat -> List V -> Hp -> Prop) (hz : xs.length < sizeLine)
 (h0 : ∀ D, H1 D = none -> P D 0 [] (upd H1 D (.lst []))) (hD : ∀ D i ys H', P D i ys H' -> H' D = some (.lst ys) /\ SqL K H' a xs /\ ys.length <= i)
 (hs : ∀ D i y ys H' (zs : St) (N1 : VK) (N0 : Hp -> Prop), xs[i]? = some y -> P D i ys H' -> zs.length = n -> (∀ v H6, H6 D = some (.lst ys) -> P D (i + 1) (ys ++ [v]) (upd H6 D (.lst (ys ++ [v]))) -> N1 v H6) -> (∀ H6, P D (i + 1) ys H6 -> N0 H6) ->
  g y (zs ++ ks.map fun k => (σ[k]?).join) H' fun σ4 H4 => (∃ zs4 : St, zs4.length = n /\ σ4 = zs4 ++ ks.map fun k => (σ[k]?).join) /\ tt σ4 H4 fun b H5 => if b = true then te σ4 H5 N1 else N0 H5)
 (hd : ∀ D ys H', P D xs.length ys H' -> Q (.ref D) H') : CEl (Itl K a) n g ks tt te σ H1 Q := by
 intro D hDn
 refine ⟨fun i m ys H' => m = xs.length - i /\ i <= xs.length /\ P D i ys H', ⟨_, rfl, o3 _, h0 D hDn⟩, ?_⟩
 rintro i m ys H' ⟨rfl, hi, p⟩
 obtain ⟨d1, d2, d3⟩ := hD D i ys H' p
 refine ⟨d1, ?_⟩
 rcases Nat.lt_or_ge i xs.length with lt | ge
 ·refine .inr ⟨⟨xs, xs[i], d2, by simp [lt]⟩, ?_⟩
  rintro x H3 ⟨rfl, hx⟩ zs hzs
  exact hs D i x ys _ zs _ _ (hx xs d2) p hzs (fun v H6 h6 p6 => ⟨h6, by omega, _, by omega, rfl, lt, p6⟩) fun H6 p6 => ⟨_, by omega, rfl, lt, p6⟩
 ·obtain rfl : i = xs.length := Nat.le_antisymm hi ge
  exact .inl ⟨⟨xs, d2, zM _⟩, hd D ys H' p⟩
section
variable {X : Cx} {pos : Pos}
end
open Lean Meta Simp
def Da : List Name := D_ ++ [`L2.tDNewT, `L2.rExtT, `L2.tPar3]
def DG : List Name := Dk ++ [`L2.gSortDT, `L2.gRp]
def Dt (e : Lean.Expr) : MetaM (Option Lean.Expr) := do
 let .const n us := e.getAppFn | return none
 let fr := Fg n || Da.contains n
 unless fr || DG.contains n do return none
 let some (.defnInfo d) := (<- getEnv).find? n | return none
 let v := d.value.instantiateLevelParams d.levelParams us
 if e.getAppNumArgs < v.getNumHeadLambdas then return none
 let b := v.beta e.getAppArgs
 if fr then return some b
 match <- reduceMatcher? b with
 | .reduced r => return some r
 | .notMatcher => return some b
 | _ => return none
dsimproc_decl Cy (_) := fun e => do
 match <- Dt e with
 | some r => return .visit r
 | none => return .continue
end L2
namespace L2
open PySem PyProof.Rows
theorem Cl {H : Hp} {a : Addr} {o : HO} (h : H a = some o) : upd H a o = H := by
 funext b
 by_cases e : b = a
 ·subst e; rw [aj, h]
 ·rw [ar e]
def isD : HO -> Bool
 | .dK _ => true
 | .dT _ => true
 | _ => false
def qU : HO -> Nat
 | .dK kvs => kvs.length
 | .dT kvs => kvs.length
 | _ => 0
def zC (H : Hp) (u : HO) (i : Nat) (x v : V) : Prop := match u with
 | .dK kvs => ∃ k, kvs[i]? = some (k, v) /\ x = kV k
 | .dT kvs => ∃ k q, kvs[i]? = some (k, v) /\ x = .ref q /\ H q = some (.tup (k.map kV))
 | _ => False
theorem Dl {P : Program} {w : World} {k : Key} {u : Value} (h : (bT P w).is k u = true) : RelV (kV k) u := by
 cases k with
 | inl i => obtain ⟨t, z⟩ := Value.isInt_shape h; exact ⟨t, z⟩
 | inr x => obtain ⟨t, z⟩ := Value.isStrOf_shape h; exact ⟨t, z⟩
theorem EC {α β : Type} {R : α -> β -> Prop} {xs : List α} {ys : List β} (h : Paired R xs ys) : ∀ {i : Nat} {y : β}, ys[i]? = some y -> ∃ x, xs[i]? = some x /\ R x y := by
 induction h with
 | nil => intro i y e; simp at e
 | cons r _ ih =>
  intro i y e
  cases i with
  | zero => cases e; exact ⟨_, rfl, r⟩
  | succ i => exact ih (i := i) (by simpa using e)
section
variable {X : Cx} {pins : List (Addr × Obj)} {σ : St} {H : Hp} {s : Shared} {a : Addr}
theorem zu (I : Inv X pins σ H s) {u : HO} (hu : isD u = true) (x : ObjOk X.prog X.w H s.heap a u) : ∃ (o : Obj) (es : Array Ye) (ep : Nat), s.heap.get? a = some o /\ o.ExactDict /\ o.data = .dict es ep /\ (a == ZK) = false /\ es.size = qU u /\
 ∀ i e, es[i]? = some e -> ∃ x v, zC H u i x v /\ RelV x e.key /\ RelV v e.val := by
 cases u with
 | dK kvs =>
  obtain ⟨z, lo, vs, rel, o, es, ep, ho, ex, hd, hk, hp, hn⟩ := x
  have hl : es.size = vs.length := by rw [<- hp.length]; simp
  refine ⟨o, es, ep, ho, ex, hd, lo, by rw [hl]; exact rel.length.symm, fun i e he => ?_⟩
  have hi : i < vs.length := by rw [<- hl]; exact (Array.getElem?_eq_some_iff.mp he).1
  obtain ⟨p1, p2⟩ := hp.get? (e := e) (k := vs[i].1) (v := vs[i].2) (by rw [Array.getElem?_toList]; exact he) (by simp [hi])
  obtain ⟨⟨k, v⟩, hx, e1, e2⟩ := EC rel (y := vs[i]) (List.getElem?_eq_getElem hi)
  have e1' : k = vs[i].1 := e1
  refine ⟨kV k, v, ⟨k, hx, rfl⟩, by rw [e1']; exact Dl p1, by rw [p2]; exact e2⟩
 | dT kvs =>
  obtain ⟨z, lo, xs, rel, o, es, ep, ho, ex, hd, he, hn⟩ := x
  have hl : es.size = xs.length := size_of_entries he
  refine ⟨o, es, ep, ho, ex, hd, lo, by rw [hl]; exact (Paired.length rel).symm, fun i e h => ?_⟩
  rw [entry_at he i] at h
  obtain ⟨q, hq, rfl⟩ := Zb.mp h
  obtain ⟨⟨k, v⟩, hx, e1, e2, e3⟩ := EC rel hq
  exact ⟨.ref q.2.1, v, ⟨k, q.2.1, hx, rfl, e2⟩, rfl, e3⟩
 | _ => cases hu
theorem Inv.freeze (I : Inv X pins σ H s) {u : HO} (hu : isD u = true) (e : Rd H a u) : ∃ (o : Obj) (es : Array Ye) (ep : Nat), s.heap.get? a = some o /\ o.ExactDict /\ o.data = .dict es ep /\ (a == ZK) = false /\ es.size = qU u /\ (H a = some u \/ H a = some (.frz o u)) /\ Inv X pins σ (upd H a (.frz o u)) s := by
 have x := Bi I.hok e
 obtain ⟨o, es, ep, ho, ex, hd, lo, hz, _⟩ := zu I hu x
 rcases e with e | ⟨o', e⟩
 ·refine ⟨o, es, ep, ho, ex, hd, lo, hz, .inl e, ?_⟩
  have no : ∀ b w, H b = some w -> isD w = false -> b ≠ a := fun b w q n z => by rw [z, e] at q; cases q; rw [hu] at n; cases n
  exact I.write (x := a) (e := a) (t' := s.toks) (h' := s.heap) (by rw [e]; cases u <;> first | exact ZJ | cases hu) (.inl rfl) (fun _ _ _ q => q) ⟨o, ho⟩ ⟨ho, x.stay (fun _ _ _ q => q) (fun c z => by rw [ar (no c _ z rfl)]; exact z) fun c xs z => by rw [ar (no c _ z rfl)]; exact z⟩
 ·have h1 := (show ObjOk X.prog X.w H s.heap a (.frz o' u) from I.hok a _ e).1
  rw [ho] at h1; cases h1
  refine ⟨o, es, ep, ho, ex, hd, lo, hz, .inr e, ?_⟩
  rw [Cl e]; exact I
theorem Inv.thaw (I : Inv X pins σ H s) {o : Obj} {u : HO} (e : H a = some (.frz o u)) (nf : ∀ o' u', X.H₀ a ≠ some (.frz o' u')) : Inv X pins σ (upd H a u) s := by
 have na : ∀ b, H b = none -> b ≠ a := fun b n z => by rw [z, e] at n; cases n
 have no : ∀ b w, H b = some w -> (∀ o x, w ≠ .frz o x) -> b ≠ a := fun b w q n z => by rw [z, e] at q; cases q; exact n _ _ rfl
 have own : ∀ {d : Addr} c, H c = some (.own d) -> upd H a u c = some (.own d) := fun c z => by rw [ar (no c _ z (by intro _ _ y; cases y))]; exact z
 have tup : ∀ c xs, H c = some (.tup xs) -> upd H a u c = some (.tup xs) := fun c xs z => by rw [ar (no c _ z (by intro _ _ y; cases y))]; exact z
 refine ⟨I.ok, I.os, I.bare, ⟨I.base.keep, I.base.slot, fun b ob q n hx => ?_, I.base.there, fun b xs q => tup b xs (I.base.tups b xs q), fun b ob x q => ?_, fun b ps q => ?_⟩, I.loc, I.cell, ?_, fun x c ec => ?_, fun p hp => ?_, fun b ob q => ?_, I.len⟩
 ·have h := I.base.free b ob q n hx
  rw [ar (na b h)]; exact h
 ·have h := I.base.frzs b ob x q
  by_cases eb : b = a
  ·subst eb; exact absurd q (nf _ _)
  ·rw [ar eb]; exact h
 ·obtain ⟨m, h⟩ := I.base.tbls b ps q
  exact ⟨m, by rw [ar (no b _ h (by intro _ _ z; cases z))]; exact h⟩
 ·rw [ar (na _ I.free)]; exact I.free
 ·have h := I.freeC x c ec
  rw [ar (na _ h)]; exact h
 ·obtain ⟨p1, p2, p3⟩ := I.pin p hp
  exact ⟨p1, by rw [ar (na _ p2)]; exact p2, p3⟩
 ·by_cases eb : b = a
  ·subst eb
   rw [aj] at q; cases q
   exact (show ObjOk X.prog X.w H s.heap b (.frz o u) from I.hok _ _ e).2.stay (fun _ _ _ z => z) own tup
  ·rw [ar eb] at q
   exact (I.hok b ob q).stay (fun _ _ _ z => z) own tup
def Th (H H1 : Hp) (P : Hp -> Prop) : Prop := ∃ a o u, H1 a = some (.frz o u) /\ ((H a = some u /\ isD u = true /\ P (upd H1 a u)) \/ (H a = some (.frz o u) /\ P H1))
theorem Inv.th {H1 : Hp} {s1 : Shared} {σ1 : St} {P : Hp -> Prop} (I : Inv X pins σ H s) (I1 : Inv X pins σ1 H1 s1) (h : Th H H1 P) : ∃ H2, Inv X pins σ1 H2 s1 /\ P H2 := by
 obtain ⟨a, o, u, e1, ⟨e2, hu, q⟩ | ⟨e2, q⟩⟩ := h
 ·exact ⟨_, I1.thaw e1 (fun o' u' z => by rw [I.base.frzs _ _ _ z] at e2; cases e2; cases hu), q⟩
 ·exact ⟨_, I1, q⟩
def Er (ts : TS) : TS := fun D σ H => ts { nx := fun σ' H1 => Th H H1 (D.nx σ'), rt := fun v H1 => Th H H1 (D.rt v), bk := fun σ' H1 => Th H H1 (D.bk σ'), ct := fun σ' H1 => Th H H1 (D.ct σ') } σ H
theorem DY {st : Stmt} {ts : TS} (h : PS X st ts) : PS X st (Er ts) := by
 intro pins s σ H D I q
 refine thn (h pins s σ H _ I q) fun f s1 hf => ?_
 cases f with
 | next =>
  obtain ⟨σ', H', I', z⟩ := hf
  obtain ⟨H2, I2, q2⟩ := I.th I' z
  exact ⟨σ', H2, I2, q2⟩
 | brk =>
  obtain ⟨σ', H', I', z⟩ := hf
  obtain ⟨H2, I2, q2⟩ := I.th I' z
  exact ⟨σ', H2, I2, q2⟩
 | cont =>
  obtain ⟨σ', H', I', z⟩ := hf
  obtain ⟨H2, I2, q2⟩ := I.th I' z
  exact ⟨σ', H2, I2, q2⟩
 | ret u =>
  obtain ⟨v, σ', H', I', r, z⟩ := hf
  obtain ⟨H2, I2, q2⟩ := I.th I' z
  exact ⟨v, σ', H2, I2, r, q2⟩
def Itk (a : Addr) (o : Obj) (u : HO) : It :=
 ⟨fun i H => i < qU u /\ H a = some (.frz o u), fun i H x H' => H' = H /\ ∃ v, zC H u i x v, fun i H => qU u <= i /\ H a = some (.frz o u)⟩
theorem BA (I : Inv X pins σ H s) {o : Obj} {es : Array Ye} {ep : Nat} {u : HO} (hu : isD u = true) (hd : o.data = .dict es ep) (e : H a = some (.frz o u)) : s.heap.get? a = some o /\ es.size = qU u /\ ∀ i e, es[i]? = some e -> ∃ x v, zC H u i x v /\ RelV x e.key /\ RelV v e.val := by
 obtain ⟨ho, x⟩ := (show ObjOk X.prog X.w H s.heap a (.frz o u) from I.hok a _ e)
 obtain ⟨o', es', ep', ho', ex, hd', lo, hz, h⟩ := zu I hu x
 rw [ho] at ho'; cases ho'
 rw [hd] at hd'
 injection hd' with h2 h3
 subst h2
 exact ⟨ho, hz, h⟩
theorem Aw {P : Program} {w : World} {K : W.Frag} {tg : Expr} (a it : Addr) (o : Obj) (es : Array Ye) (ep : Nat) (u : HO) (hu : isD u = true) (hd : o.data = .dict es ep) : wK P w K tg (Itk a o u) [it] it (fun i h => h.IsKeyIter it a i es.size ep) where
 mem := by simp
 obj := fun i h st b hb => by
  have e : b = it := by simpa using hb
  subst e
  obtain ⟨o, e, c, d⟩ := st
  exact ⟨o, e, fun v z => by rw [d] at z; cases z⟩
 keep := fun i h h' st k => st.at fun o e => k it (by simp) o e
 item := by
  intro X hP hw hK hc i pins s σ H E I hf st hg
  subst hP hw hK
  obtain ⟨hi, hq⟩ := hg
  obtain ⟨ho, hz, hen⟩ := BA I hu hd hq
  obtain ⟨f0, f1, f2, f3, f4, f5⟩ := hf it (by simp)
  have hx : es[i]? = some es[i] := by simp [show i < es.size by omega]
  obtain ⟨x, v, en, rx, rv⟩ := hen i _ hx
  refine Ec st ho hd hx fun h' st' sb => ?_
  have I1 : Inv X pins σ H { s with heap := h' } := I.turned (t' := s.toks) (fun b o hb e => (sb.2 b hb).trans e) f0 f1 f3 f4 f5
  obtain ⟨oi, e, c, d⟩ := id st'
  exact ⟨_, rfl, rO (s := { s with heap := h' }) e c d (by decide) ⟨x, H, I1, rx, ⟨rfl, v, en⟩, st', fun b hb => (hf b hb).1⟩⟩
 done := by
  intro X hP hw hK hc i pins s σ H E I hf st hg
  subst hP hw hK
  obtain ⟨hi, hq⟩ := hg
  obtain ⟨ho, hz, hen⟩ := BA I hu hd hq
  obtain ⟨f0, f1, f2, f3, f4, f5⟩ := hf it (by simp)
  exact Fj (I.ok.hd hc) st ho hd (by omega) fun h' eb => ⟨rfl, I.turned (t' := s.toks) (fun b o hb e => eb b o hb e) f0 f1 f3 f4 f5⟩
 self := fun _ _ _ _ _ st h => wpAny_pyIter_keyiter st h
def Eu (td : TE) : TI := fun σ H R => td σ H fun x H1 => ∃ b u, x = .ref b /\ isD u = true /\ Rd H1 b u /\ ∀ o, (H1 b = some u \/ H1 b = some (.frz o u)) -> R (Itk b o u) (upd H1 b (.frz o u))
theorem DE {tg l : Expr} {td : TE} (hl : PE X l td) : PI X tg l (Eu td) := by
 intro pins s σ H R I h
 refine thn (hl pins s σ H _ I h) fun v s1 ⟨x, H1, I1, rx, b, u, ex, hu, hr, q⟩ => ?_
 subst ex
 cases (show v = vY b from rx)
 obtain ⟨o, es, ep, ho, ex, hd, lo, hz, hor, I2⟩ := I1.freeze hu hr
 refine DQ lo ho ex hd ?_
 refine ⟨s1.heap.objs.size, [s1.heap.objs.size], _, Itk b o u, _, rfl, I2.kept (t' := s1.toks) (fun c ob e => Heap.get?_push_of_some _ e), Aw b _ o es ep u hu hd, ⟨_, Heap.get?_push_size _ rfl, rfl, rfl⟩, fun c hc => ?_, q o hor⟩
 rw [zr.mp hc]
 exact I2.fpOk (zM _) (I2.hok.fresh (zM _))
end
section
variable {X : Cx} {pos : Pos}
def Bv (K : W.Frag) (n : Nat) (t : TGs) : TG := fun v σ H Q => ∃ a xs, v = .ref a /\ SqL K H a xs /\ xs.length = n /\ t xs σ H Q
theorem DT (K : W.Frag) {es : List Expr} {k : Nat} {t : TGs} {n : Nat} (hc : X.calm = true) (h : PGs X es t) (hK : X.K = K := by rfl)
 (hn : (Yu es X.env).length = n := by rfl) (hst : (Yu es X.env).findIdx? (·.1) = none := by rfl) : PG X (.Tuple es k pos) (Bv K n t) := by
 subst hK
 intro pins s σ H v u Q I r hw
 obtain ⟨a, xs, e1, hq, hl, hw⟩ := hw
 subst e1
 cases r
 obtain ⟨its, rv, pl, hz⟩ := I.list hq
 have hl2 := rv.length
 rw [PyProof.Rows.assign_Tuple]
 refine zz (wpAny_standAt ?_)
 have hs : (Yu es X.env).length = its.toArray.size := by rw [hn, yY]; omega
 unfold unpack
 rw [hs, hst]
 refine zz (ZA (PySem.W.kun_itemsOf (I.ok.hd hc) pl.isList fun h' hx => ?_))
 exact h pins _ σ H xs _ Q (I.kept (t' := s.toks) fun b o e => hx b o (tB (xi e)) e) (by simpa using rv) hw
end
section
variable {X : Cx}
end
end L2
namespace L2
open PySem PyProof.Rows
section
variable {prog : Program} {w : World} {A : Around} {E : Value -> Shared -> Prop} {s : Shared} {it d : Addr} {i ep : Nat} {od : Obj} {es : Array Ye}
end
section
variable {X : Cx} {pins : List (Addr × Obj)} {σ : St} {H : Hp} {s : Shared}
end
section
variable {prog : Program} {w : World} {A : Around} {E : Value -> Shared -> Prop} {s : Shared} {d : Addr}
end
section
variable {X : Cx} {o e f : Expr} {apos cpos : Pos} {td ty tx : TE}
end
end L2
namespace L2
open PySem PyProof.Rows
namespace Srt
section
variable {prog : Program} {w : World} {A : Around} {E : Value -> Shared -> Prop} {s : Shared}
end
end Srt
section
variable {X : Cx} {pins : List (Addr × Obj)} {σ : St} {H : Hp} {s : Shared}
end
end L2
namespace L2
open PySem PyProof.Rows
section
variable {X : Cx}
end
section
variable {prog : Program} {w : World} {A : Around} {E : Value -> Shared -> Prop} {s : Shared}
end
section
variable {X : Cx}
end
open Lean Meta Simp
end L2
namespace L2
section
variable {κ : Type} [DecidableEq κ]
end
structure Qr where
 d : Int
 a : List Nat
 p : Int
 b : List Nat
 q : Int
abbrev Wt := Int × Int
def hit (r : Qr) (x y : List Nat) : Option Wt := if r.a = x /\ r.b = y then some (r.p, r.q) else if r.a = y /\ r.b = x then some (r.q, r.p) else none
def Hr (r : Qr) (x y : List Nat) (D : Int) (o : Option Wt) : Option Wt := if r.d = D then (hit r x y).or o else o
def val (R : List Qr) (x y : List Nat) (D : Int) : Option Wt := R.foldl (fun o r => Hr r x y D o) none
def qG (R : List Qr) : Prop := ∀ r ∈ R, r.a ≠ r.b
end L2
namespace L2
open PySem PyProof.Rows
section
variable {X : Cx} {e c : Expr} {te : TE} {ts : TO} {pos p2 : Pos}
end
section
variable {X : Cx}
end
section
variable {X : Cx}
end
open Lean Meta Simp
end L2
namespace L2
section
variable {N : Type} {A : N -> N -> Prop} {g : N}
def Wk (A : N -> N -> Prop) (g : N) : Nat -> N -> Prop
 | 0, x => x = g
 | k + 1, x => ∃ y, Wk A g k y /\ A y x
def Far (A : N -> N -> Prop) (g : N) (k : Nat) (x : N) : Prop := Wk A g k x /\ ∀ j, j < k -> ¬ Wk A g j x
end
section
variable {A : List Nat -> List Nat -> Prop} {g : List Nat}
def Nx (A : List Nat -> List Nat -> Prop) (g x y : List Nat) : Prop := ∃ k, Far A g (k + 1) x /\ Far A g k y /\ A x y /\ ∀ z, Far A g k z -> A x z -> ¬ z < y
def Chn (A : List Nat -> List Nat -> Prop) (g : List Nat) : List (List Nat) -> Prop
 | [] => False
 | [x] => x = g
 | x :: y :: r => Nx A g x y /\ Chn A g (y :: r)
end
section
variable {N : Type} {A : N -> N -> Prop} {g : N}
def Up (A : N -> N -> Prop) (g : N) (k : Nat) (F : List N) (x : N) (n : Nat) : Prop := (n <= k /\ Far A g n x) \/ (n = k + 1 /\ x ∈ F)
end
end L2
namespace L2
def pr (r : Qr) (x y : List Nat) : Prop := (r.a = x /\ r.b = y) \/ (r.a = y /\ r.b = x)
def Lk (R : List Qr) (d : Int) (x y : List Nat) : Prop := ∃ r ∈ R, r.d <= d /\ pr r x y
def Cov (R : List Qr) (C : List (List Nat)) : Prop := ∀ r ∈ R, r.a ∈ C /\ r.b ∈ C
structure SD (m : List (Key × V)) (P : List Nat -> Nat -> Prop) : Prop where
 nd : (m.map (·.1)).Nodup
 to : ∀ k v, (k, v) ∈ m -> ∃ (x : List Nat) (n : Nat), k = .inr ⟨⟨x⟩⟩ /\ v = .int n /\ P x n
 fr : ∀ x (n : Nat), P x n -> ((.inr ⟨⟨x⟩⟩ : Key), V.int n) ∈ m
def nms (R : List Qr) : List (List Nat) := R.flatMap fun r => [r.a, r.b]
def Rows (R : List Qr) (C : List (List Nat)) : Prop := ∀ r ∈ R, (0 <= r.d /\ r.d <= 146096) /\ r.a ∈ C /\ r.b ∈ C /\ r.a ≠ r.b /\ (1 <= r.p /\ r.p <= 1000000000) /\ 1 <= r.q /\ r.q <= 1000000000
end L2
namespace L2
open PySem PyProof.Rows
section
variable {P : Program} {w : World} {A : Around} {E : Value -> Shared -> Prop} {s : Shared}
abbrev skd (P : Program) (w : World) := PySem.strKind P w
def HS (P : Program) (w : World) (h : Heap) (a : Addr) (ls : List (List Nat)) (ld : Bool) : Prop := ∃ o es ep t, h.get? a = some o /\ o.ExactSet /\ o.data = .set es ep t /\ ElemsOf (skd P w) es.toList /\ es.size < scanBound /\ t.fits es.size = true /\ t.led = ld /\ (0 < es.size -> t.plain = false) /\ (es.toList.map fun e => oF e.2).Nodup /\ ∀ l, l ∈ es.toList.map (fun e => oF e.2) ↔ l ∈ ls
end
end L2
namespace L2
open PySem PyProof.Rows
section
variable {P : Program} {w : World} {A : Around} {E : Value -> Shared -> Prop} {s : Shared}
end
end L2
namespace L2
open PySem PyProof.Rows
end L2
namespace L2
open PySem PyProof.Rows
section
variable {P : Program} {w : World} {A : Around} {E : Value -> Shared -> Prop} {s : Shared} {a I : Addr} {o : Obj} {es : Array (Int × Value)} {ep i n : Nat} {t : SetTable}
end
end L2
namespace L2
open PySem PyProof.Rows
section
variable {P : Program} {w : World} {A : Around} {E : Value -> Shared -> Prop} {s : Shared} {a I : Addr} {o : Obj} {es : Array (Int × Value)} {ep i n : Nat} {t : SetTable}
end
end L2
namespace L2
open PySem PyProof.Rows
section
variable {P : Program} {w : World} {A : Around} {E : Value -> Shared -> Prop} {s : Shared} {a I : Addr} {o : Obj} {es : Array (Int × Value)} {ep i n : Nat} {t : SetTable}
end
end L2
namespace L2
open PySem PyProof.Rows
section
variable {P : Program} {w : World} {A : Around} {E : Value -> Shared -> Prop} {s : Shared} {a : Addr} {ls : List (List Nat)}
def HY (ls : List (List Nat)) (vs : List Value) : Prop := (∀ v ∈ vs, IsS v) /\ (vs.map oF).Nodup /\ (∀ l, l ∈ vs.map oF ↔ l ∈ ls) /\ vs.length < scanBound
end
end L2
namespace L2
open PySem PyProof.Rows
section
variable {P : Program} {w : World} {A : Around} {E : Value -> Shared -> Prop} {s : Shared} {a : Addr} {ls : List (List Nat)}
end
end L2
namespace L2
open PySem PySem.Spec PyProof.Rows
section
variable {X : Cx} {x y : Str} {p p2 pos pos2 : Pos} {e : Expr} {te : TE} {pins : List (Addr × Obj)} {σ : St} {H : Hp} {s : Shared}
end
end L2
namespace L2
open PySem PyProof.Rows
section
variable {X : Cx}
end
end L2
namespace L2
open PySem
def kI : Key -> Int
 | .inl i => i
 | .inr _ => 0
def vI : V -> Int
 | .int i => i
 | _ => 0
def sE (P : Int -> Bool) : List (Key × V) -> Int
 | [] => 0
 | e :: m => (if P (kI e.1) = true then vI e.2 else 0) + sE P m
def gM (m : List (Key × V)) (d : Int) : Int := match dS m (.inl d) with
 | some v => vI v
 | none => 0
def HD (m : List (Key × V)) : Prop := ∀ k v, (k, v) ∈ m -> ∃ D a, k = .inl D /\ v = .int a
abbrev PR := Int × List Nat × List Nat × Int
def sR (x y : List Nat) (P : Int -> Bool) : List PR -> Int
 | [] => 0
 | z :: R => (if z.2.1 = x /\ z.2.2.1 = y /\ P z.1 = true then z.2.2.2 else 0) + sR x y P R
structure MM (m : List (Key × V)) (x y : List Nat) (R : List PR) : Prop where
 nd : (m.map (·.1)).Nodup
 it : HD m
 sm : ∀ P, sE P m = sR x y P R
end L2
namespace L2
open PySem
end L2
namespace L2
open PySem
def y4 : R2
 | .ref x, .ref y, H, Q => ∃ xs ys, H x = some (.tup xs) /\ H y = some (.tup ys) /\ xs ≠ [] /\ ys ≠ [] /\ xs.length + ys.length <= sizeLine /\ ∀ p, H p = none -> Q (.ref p) (upd H p (.tup (xs ++ ys)))
 | _, _, _, _ => False
section
variable {X : Cx}
theorem CT : OpR X (binaryOp .Add) y4 := Dj.imp fun x y H Q h => by
 unfold y4 at h; split at h
 ·obtain ⟨xs, zs, h1, h2, h3, h4, h5, q⟩ := h
  exact ⟨_, _, xs, zs, rfl, rfl, SqT.of h1, SqT.of h2, h3, h5, fun z => absurd z h4, fun _ => q⟩
 ·exact h.elim
end
def Ia {β : Type} (mk : β -> List V) (H : Hp) (v : V) (b : β) : Prop := ∃ t, v = .ref t /\ H t = some (.tup (mk b))
end L2
namespace L2
open PySem
theorem Fz {td : TE} {g : TG} {tb : TS} {D : fI} {σ : St} {H : Hp} (h : td σ H fun x H1 => ∃ b u, x = .ref b /\ isD u = true /\ Rd H1 b u /\ ∀ o, (H1 b = some u \/ H1 b = some (.frz o u)) -> FE (Itk b o u) g tb { nx := fun σ' H2 => Th H H2 (D.nx σ'), rt := fun v H2 => Th H H2 (D.rt v), bk := fun σ' H2 => Th H H2 (D.bk σ'), ct := fun σ' H2 => Th H H2 (D.ct σ') } σ (upd H1 b (.frz o u))) : Er (v7 (Eu td) g tb) D σ H := h
theorem Fq {b : Addr} {o : Obj} {u : HO} {g : TG} {tb : TS} {D : fI} {σ : St} {H : Hp} (Pv : Nat -> St -> Hp -> Prop) (h0 : Pv 0 σ H) (hl : ∀ i σ H, Pv i σ H -> H b = some (.frz o u))
 (hs : ∀ i x v σ H, i < qU u -> zC H u i x v -> Pv i σ H -> g x σ H fun σ2 H2 => tb { D with nx := Pv (i + 1), ct := Pv (i + 1), bk := D.nx } σ2 H2) (hd : ∀ σ H, Pv (qU u) σ H -> D.nx σ H) : FE (Itk b o u) g tb D σ H := by
 refine ⟨fun i m σ H => m = qU u - i /\ i <= qU u /\ Pv i σ H, ⟨_, rfl, o3 _, h0⟩, ?_⟩
 rintro i m σ H ⟨rfl, hi, p⟩
 have q := hl i σ H p
 rcases Nat.lt_or_ge i (qU u) with lt | ge
 ·refine .inr ⟨⟨lt, q⟩, Pv (i + 1), fun σ' H' p' => ⟨_, by omega, rfl, lt, p'⟩, ?_⟩
  rintro y H' ⟨rfl, v, en⟩
  exact hs i y v σ _ lt en p
 ·obtain rfl : i = qU u := Nat.le_antisymm hi ge
  exact .inl ⟨⟨zM _, q⟩, hd σ H p⟩
end L2
namespace L2
open PySem PySem.Spec PyProof.Rows
section
variable {X : Cx}
end
end L2
namespace L2
open PySem PyProof.Rows
section
variable {prog : Program} {w : World} {A : Around} {E : Value -> Shared -> Prop} {s : Shared} {it d : Addr} {i ep : Nat} {od : Obj} {es : Array Ye}
end
section
variable {X : Cx} {pins : List (Addr × Obj)} {σ : St} {H : Hp} {s : Shared}
end
end L2
namespace L2
open PySem PyProof.Rows Builtin Builtin.Str
section
variable {X : Cx}
end
end L2
namespace L2
open PySem PyProof.Rows
section
variable {prog : Program} {w : World} {A : Around} {E : Value -> Shared -> Prop} {s : Shared} {d : Addr} {od : Obj}
end
section
variable {X : Cx}
def HF (K : W.Frag) : List V -> Hp -> VK -> Prop
 | [.ref p], H, Q => ∃ ns : List Int, SqL K H p (ns.map V.int) /\ ns.length < 64 /\ ∀ out : List Int, out.Perm ns -> out.Pairwise (· <= ·) -> ∀ l, H l = none -> Q (.ref l) (upd H l (.lst (out.map V.int)))
 | _, _, _ => False
end
def sp8 (f : V -> V -> V -> V -> V -> V -> V -> V -> Hp -> VK -> XK -> Prop) : Sp := fun vs H Q E => match vs with
 | [x, y, z, u, v, a, b, c] => f x y z u v a b c H Q E
 | _ => False
theorem sp8.inv {vs : List V} {H : Hp} {Q : VK} {E : XK} {f} (h : sp8 f vs H Q E) : ∃ x y z u v a b c, vs = [x, y, z, u, v, a, b, c] /\ f x y z u v a b c H Q E := by
 unfold sp8 at h
 split at h
 ·exact ⟨_, _, _, _, _, _, _, _, rfl, h⟩
 ·exact h.elim
theorem sp8.len {vs : List V} {H : Hp} {Q : VK} {E : XK} {f} (h : sp8 f vs H Q E) : vs.length = 8 := by obtain ⟨_, _, _, _, _, _, _, _, rfl, _⟩ := sp8.inv h; rfl
theorem ex8 {α : Type} {us : List α} (hl : us.length = 8) : ∃ a0 a1 a2 a3 a4 a5 a6 a7, us = [a0, a1, a2, a3, a4, a5, a6, a7] := by
 match us, hl with
 | [a0, a1, a2, a3, a4, a5, a6, a7], _ => exact ⟨_, _, _, _, _, _, _, _, rfl⟩
end L2
set_option maxHeartbeats 4000000
namespace K5
def rk (κ : Nat -> Int) (n i : Nat) : Nat := (xp n).countP fun j => decide (κ j < κ i)
theorem BL {κ : Nat -> Int} {pre post : List Nat} {n i : Nat} (hp : (pre ++ i :: post).Perm (xp n)) (hs : (pre ++ i :: post).Pairwise fun a b => κ a < κ b) : rk κ n i = pre.length := by
 unfold rk
 rw [<- hp.countP_eq, List.countP_append, List.countP_cons_of_neg (by simp)]
 obtain ⟨h1, h2, h3⟩ := List.pairwise_append.mp hs
 have e1 : pre.countP (fun j => decide (κ j < κ i)) = pre.length := List.countP_eq_length.mpr fun a ha => by
  have := h3 a ha i (Zm ..)
  simpa using this
 have e2 : post.countP (fun j => decide (κ j < κ i)) = 0 := List.countP_eq_zero.mpr fun a ha => by
  have := (Yl.mp h2).1 a ha
  simp; omega
 rw [e1, e2]; rfl
theorem Cm {κ : Nat -> Int} {pi : List Nat} {n k i : Nat} (hp : pi.Perm (xp n)) (hs : pi.Pairwise fun a b => κ a < κ b) (hi : i < n) : i ∈ pi.take k ↔ rk κ n i < k := by
 obtain ⟨pre, post, rfl⟩ := List.append_of_mem (hp.mem_iff.mpr (ZW.mpr hi))
 have nd : (pre ++ i :: post).Nodup := hp.nodup_iff.mpr Yp
 rw [BL hp hs]
 constructor
 ·intro h
  apply Z8
  intro g
  rw [List.take_append_of_le_length (by omega)] at h
  exact (List.nodup_append.mp nd).2.2 i (ZI h) i (Zm ..) rfl
 ·intro h
  rw [List.take_append, tD]
  right
  obtain ⟨m, e⟩ : ∃ m, k - pre.length = m + 1 := ⟨k - pre.length - 1, by omega⟩
  rw [e]
  exact Zm ..
theorem yt (κ : Nat -> Int) (n : Nat) (inj : ∀ i j, i < n -> j < n -> κ i = κ j -> i = j) : ∃ pi : List Nat, pi.Perm (xp n) /\ pi.Pairwise fun a b => κ a < κ b := by
 refine ⟨(xp n).mergeSort fun a b => decide (κ a <= κ b), List.mergeSort_perm _ _, ?_⟩
 have hp := List.mergeSort_perm (xp n) fun a b => decide (κ a <= κ b)
 have s := List.pairwise_mergeSort (le := fun a b => decide (κ a <= κ b)) (fun a b c h1 h2 => by simp at *; omega) (fun a b => by simp; omega) (xp n)
 have nd : ((xp n).mergeSort fun a b => decide (κ a <= κ b)).Nodup := hp.nodup_iff.mpr Yp
 refine (List.Pairwise.and_mem.mp (s.and nd)).imp fun {a b} q => ?_
 obtain ⟨ma, mb, l, ne⟩ := q
 simp at l
 rcases Int.lt_or_eq_of_le l with h | h
 ·exact h
 ·exact absurd (inj a b (ZW.mp (hp.mem_iff.mp ma)) (ZW.mp (hp.mem_iff.mp mb)) h) ne
theorem oY {α : Type} (f g : α -> Int) : ∀ l : List α, (l.map fun i => f i + g i).sum = (l.map f).sum + (l.map g).sum
 | [] => rfl
 | a :: l => by simp only [wW, Zn, oY f g l]; omega
theorem yP {p : Nat -> Bool} : ∀ l : List Nat, (l.map fun i => if p i then (1 : Int) else 0).sum = l.countP p
 | [] => rfl
 | a :: l => by
  rw [wW, Zn, yP l, List.countP_cons]
  cases p a <;> simp <;> omega
theorem many (κ : Nat -> Int) (n k : Nat) (inj : ∀ i j, i < n -> j < n -> κ i = κ j -> i = j) (hk : k <= n) : (xp n).countP (fun i => decide (rk κ n i < k)) = k := by
 obtain ⟨pi, hp, hs⟩ := yt κ n inj
 rw [<- hp.countP_eq]
 have nd : pi.Nodup := hp.nodup_iff.mpr Yp
 have e : ∀ i ∈ pi, (decide (rk κ n i < k) = true ↔ i ∈ pi.take k) := fun i hi => by
  rw [decide_eq_true_eq, Cm hp hs (ZW.mp (hp.mem_iff.mp hi))]
 conv => lhs; rw [<- List.take_append_drop k pi]
 rw [List.countP_append]
 have e1 : (pi.take k).countP (fun i => decide (rk κ n i < k)) = (pi.take k).length := List.countP_eq_length.mpr fun a ha => (e a (ZI ha)).mpr ha
 have e2 : (pi.drop k).countP (fun i => decide (rk κ n i < k)) = 0 := List.countP_eq_zero.mpr fun a ha q => by
  have q' := (e a (List.mem_of_mem_drop ha)).mp q
  rw [<- List.take_append_drop k pi] at nd
  exact (List.nodup_append.mp nd).2.2 a q' a ha rfl
 have l : pi.length = n := by rw [hp.length_eq, Yv]
 rw [e1, e2, qK]; omega
def pt (a W w : Int) : Int := a * w / W
def rs (a W w : Int) : Int := a * w % W
def wn (a : Int) (ws : List Int) : Int := a - (ws.map (pt a ws.sum)).sum
def cod (a : Int) (ws : List Int) (i : Nat) : Int := -(rs a ws.sum (ws.getD i 0)) * 64 + i
def kt (a : Int) (ws : List Int) : List Int := (xp ws.length).map fun i => pt a ws.sum (ws.getD i 0) + if rk (cod a ws) ws.length i < (wn a ws).toNat then 1 else 0
theorem jj (f : Int -> Int) : ∀ ws : List Int, (xp ws.length).map (fun i => f (ws.getD i 0)) = ws.map f := fun ws => by
 apply List.ext_getElem
 ·simp
 ·intro i h1 h2
  simp at h1
  simp [h1]
theorem vS (a W : Int) : ∀ ws : List Int, (ws.map (rs a W)).sum = a * ws.sum - W * (ws.map (pt a W)).sum
 | [] => by simp
 | w :: ws => by
  rw [wW, Zn, vS a W ws, wW, Zn, Zn, Int.mul_add, Int.mul_add]
  have := Int.mul_ediv_add_emod (a * w) W
  unfold rs pt
  omega
theorem zE (a W : Int) (hW : 0 < W) : ∀ ws : List Int, 0 <= (ws.map (rs a W)).sum /\ (ws.map (rs a W)).sum <= (W - 1) * ws.length
 | [] => by simp
 | w :: ws => by
  obtain ⟨h1, h2⟩ := zE a W hW ws
  rw [wW, Zn, sX]
  have p0 := ZE (a * w) (Int.ne_of_gt hW)
  have p1 := ZU (a * w) hW
  have e : (W - 1) * ((ws.length + 1 : Nat) : Int) = (W - 1) * ws.length + (W - 1) := by rw [Int.natCast_add, Int.mul_add]; simp
  rw [e]
  unfold rs at *
  omega
theorem EF (a : Int) (ws : List Int) (hW : 0 < ws.sum) : 0 <= wn a ws /\ wn a ws <= ws.length := by
 have s := vS a ws.sum ws
 obtain ⟨l, u⟩ := zE a ws.sum hW ws
 have e : (ws.map (rs a ws.sum)).sum = ws.sum * wn a ws := by
  rw [s]; unfold wn; rw [Int.mul_sub, Int.mul_comm a]
 rw [e] at l u
 constructor
 ·exact Int.nonneg_of_mul_nonneg_right l hW
 ·apply Z8
  intro g
  have g1 : (ws.length : Int) + 1 <= wn a ws := by omega
  have g2 := Int.mul_le_mul_of_nonneg_left g1 (Int.le_of_lt hW)
  have g3 : ws.sum * ((ws.length : Int) + 1) = ws.sum * ws.length + ws.sum := by rw [Int.mul_add]; simp
  have g4 : (ws.sum - 1) * (ws.length : Int) = ws.sum * ws.length - ws.length := by rw [Int.sub_mul]; simp
  omega
theorem zH {a : Int} {ws : List Int} (h : ws.length <= 60) (i j : Nat) (hi : i < ws.length) (hj : j < ws.length) (e : cod a ws i = cod a ws j) : i = j := by
 unfold cod at e; omega
theorem Ah (a : Int) (ws : List Int) (hW : 0 < ws.sum) (h : ws.length <= 60) : (kt a ws).sum = a := by
 obtain ⟨l, u⟩ := EF a ws hW
 have m := many (cod a ws) ws.length (wn a ws).toNat (zH h) (by omega)
 unfold kt
 rw [oY (fun i => pt a ws.sum (ws.getD i 0)), jj]
 have i := yP (p := fun i => decide (rk (cod a ws) ws.length i < (wn a ws).toNat)) (xp ws.length)
 simp only [decide_eq_true_eq] at i
 rw [i, m]
 unfold wn at *
 omega
theorem tI (a : Int) (ws : List Int) : (kt a ws).length = ws.length := by unfold kt; simp
end K5
set_option maxHeartbeats 4000000
namespace K3
def S (a : Int) : Int :=
 if a <= 0 then 0 else if a = 1 then 31 else if a = 2 then 59 else if a = 3 then 90 else if a = 4 then 120
 else if a = 5 then 151 else if a = 6 then 181 else if a = 7 then 212 else if a = 8 then 243 else if a = 9 then 273
 else if a = 10 then 304 else 334
def LD (y : Int) : Int := (y + 3) / 4 - (y + 99) / 100 + (y + 399) / 400
def FD (m : Int) : Int := 365 * (m / 12) + (if m % 12 > 1 then LD (m / 12 + 1) else LD (m / 12)) + S (m % 12)
def LG (y m : Int) : Int :=
 if m = 2 then (if (y % 4 = 0 /\ y % 100 ≠ 0) \/ y % 400 = 0 then 29 else 28)
 else if m = 4 \/ m = 6 \/ m = 9 \/ m = 11 then 30 else 31
theorem zi {m y a : Int} (h : m = 12 * y + a) (h0 : 0 <= a) (h1 : a < 12) :
 FD m = 365 * y + (if a > 1 then LD (y + 1) else LD y) + S a := by
 have e1 : m / 12 = y := by omega
 have e2 : m % 12 = a := by omega
 unfold FD; rw [e1, e2]
theorem q4 (y : Int) : (y + 4) / 4 = (y + 3) / 4 + if y % 4 = 0 then 1 else 0 := by split <;> omega
theorem HB (y : Int) : (y + 100) / 100 = (y + 99) / 100 + if y % 100 = 0 then 1 else 0 := by split <;> omega
theorem HC (y : Int) : (y + 400) / 400 = (y + 399) / 400 + if y % 400 = 0 then 1 else 0 := by split <;> omega
theorem yL (y : Int) : LD (y + 1) = LD y + (if (y % 4 = 0 /\ y % 100 ≠ 0) \/ y % 400 = 0 then 1 else 0) := by
 unfold LD
 rw [Yt, Yt, Yt]
 show (y + 4) / 4 - (y + 100) / 100 + (y + 400) / 400 = _
 rw [q4, HB, HC]
 generalize (y + 3) / 4 = A
 generalize (y + 99) / 100 = B
 generalize (y + 399) / 400 = C
 by_cases a : y % 400 = 0
 ·have b : y % 100 = 0 := by omega
  have c : y % 4 = 0 := by clear b; omega
  rw [if_pos a, if_pos b, if_pos c, if_pos (.inr a)]
  clear a b c; omega
 ·by_cases b : y % 100 = 0
  ·have c : y % 4 = 0 := by clear a; omega
   rw [if_neg a, if_pos b, if_pos c, if_neg (fun z => z.elim (fun w => w.2 b) a)]
   clear a b c; omega
  ·by_cases c : y % 4 = 0
   ·rw [if_neg a, if_neg b, if_pos c, if_pos (.inl ⟨c, b⟩)]
    clear a b c; omega
   ·rw [if_neg a, if_neg b, if_neg c, if_neg (fun z => z.elim (fun w => c w.1) a)]
    clear a b c; omega
theorem Fa : ∀ a : Nat, a < 11 -> a ≠ 1 -> S (a + 1) = S a + LG 1 (1 + a) := by decide
theorem ET (y z m : Int) (h : m ≠ 2) : LG y m = LG z m := by unfold LG; rw [if_neg h, if_neg h]
theorem Fl (y : Int) : LG (2000 + y) 2 = 28 + (LD (y + 1) - LD y) := by
 have h : (((2000 + y) % 4 = 0 /\ (2000 + y) % 100 ≠ 0) \/ (2000 + y) % 400 = 0) ↔ ((y % 4 = 0 /\ y % 100 ≠ 0) \/ y % 400 = 0) := by
  have e (k : Int) (d : 2000 = k * (2000 / k)) : (2000 + y) % k = y % k := by rw [Int.add_comm, d, Int.add_mul_emod_self_left]
  rw [e 4 rfl, e 100 rfl, e 400 rfl]
 rw [yL, LG, if_pos rfl]
 by_cases c : (y % 4 = 0 /\ y % 100 ≠ 0) \/ y % 400 = 0
 ·rw [if_pos c, if_pos (h.mpr c)]; omega
 ·rw [if_neg c, if_neg (fun q => c (h.mp q))]; omega
theorem El (m : Int) : FD (m + 1) = FD m + LG (2000 + m / 12) (1 + m % 12) := by
 have b0 : 0 <= m % 12 := ZE _ (by decide)
 have b1 : m % 12 < 12 := ZU _ (by decide)
 have e : m = 12 * (m / 12) + m % 12 := (Int.mul_ediv_add_emod m 12).symm
 have a1 := zi e b0 b1
 generalize m / 12 = y at *
 generalize m % 12 = z at *
 obtain ⟨a, rfl⟩ := mW b0
 by_cases c : a = 11
 ·subst c
  rw [a1, zi (m := m + 1) (y := y + 1) (a := 0) (by omega) (by decide) (by decide)]
  show _ + LD (y + 1) + 0 = _ + LD (y + 1) + 334 + 31
  omega
 ·have a2 := zi (m := m + 1) (y := y) (a := a + 1) (by omega) (by omega) (by omega)
  by_cases c1 : a = 1
  ·subst c1
   rw [a1, a2]
   show _ + LD (y + 1) + 59 = _ + LD y + 31 + LG (2000 + y) 2
   rw [Fl]; omega
  ·have s := Fa a (by omega) c1
   rw [a1, a2, ET _ 1 _ (by omega), s]
   by_cases c2 : a = 0
   ·subst c2; exact (Yt _ _ _).symm
   ·rw [if_pos (by omega), if_pos (by omega)]; omega
theorem Gx (y m : Int) : 28 <= LG y m /\ LG y m <= 31 := by
 unfold LG; repeat' split
 all_goals omega
theorem EB (m : Int) : FD m + 28 <= FD (m + 1) /\ FD (m + 1) <= FD m + 31 := by
 have h := El m
 have g := Gx (2000 + m / 12) (1 + m % 12)
 omega
theorem wA (m : Int) (k : Nat) : FD m + 28 * k <= FD (m + k) := by
 induction k with
 | zero => simp
 | succ k ih =>
  have h := EB (m + k)
  have e : m + ((k + 1 : Nat) : Int) = m + k + 1 := by omega
  rw [e]; omega
theorem FD_mono {m n : Int} (h : m <= n) : FD m + 28 * (n - m) <= FD n := by
 have g := wA m (n - m).toNat
 have e : m + ((n - m).toNat : Int) = n := by omega
 rw [e] at g; omega
def R10 : List Int := [31, 30, 31, 30, 31, 31, 30, 31, 30, 31]
theorem CP : ∀ a : Nat, a < 10 -> (R10.take a).sum + 59 = S ((a : Int) + 2) := by decide
theorem Hn (m : Int) : 365 * (m / 12) + LD (m / 12) + ((31 :: (28 + (LD (m / 12 + 1) - LD (m / 12))) :: R10).take (m % 12).toNat).sum = FD m := by
 have b0 : 0 <= m % 12 := ZE _ (by decide)
 have b1 : m % 12 < 12 := ZU _ (by decide)
 have a1 := zi (Int.mul_ediv_add_emod m 12).symm b0 b1
 generalize m / 12 = y at *
 generalize m % 12 = z at *
 obtain ⟨a, rfl⟩ := mW b0
 rw [a1]
 match a, b1 with
 | 0, _ => rfl
 | 1, _ => rfl
 | a + 2, b1 =>
  have s := CP a (by omega)
  rw [if_pos (by omega)]
  show _ + _ + (31 + (_ + (R10.take a).sum)) = _ + S ((a : Int) + 2)
  rw [<- s]; omega
end K3
namespace K3
end K3
namespace K17
open PySem L2
def wi (l o : List Nat) : Bool := decide (l = o) || sd l (o ++ [58])
theorem DD (l o : List Nat) : wi l o = decide ((l ++ [58]).take (o.length + 1) = o ++ [58]) := by
 unfold wi
 by_cases h : l = o
 ·subst h
  rw [decide_eq_true rfl, qa (by simp), decide_eq_true rfl]; rfl
 ·rw [decide_eq_false h, Bool.false_or]
  have e := rh l (o ++ [58])
  rw [wz, t8] at e
  by_cases g : l.length <= o.length
  ·have n1 : ¬ sd l (o ++ [58]) = true := fun z => by
    have := congrArg ZN (e.mp z)
    rw [qK, wz, t8] at this
    omega
   have n2 : ¬ (l ++ [58]).take (o.length + 1) = o ++ [58] := fun z => by
    rw [qa (by simp; omega)] at z
    exact h (List.append_cancel_right z)
   rw [decide_eq_false n2]
   exact Bool.eq_false_iff.mpr n1
  ·rw [List.take_append_of_le_length (by omega)]
   cases hp : sd l (o ++ [58]) with
   | true => rw [decide_eq_true (e.mp hp)]
   | false => rw [decide_eq_false fun z => by rw [e.mpr z] at hp; cases hp]
structure Row where
 pa : List Nat
 cu : List Nat
 am : Int
structure Bk where
 k : Int
 d : Int
 rs : List Row
def amt (rs : List Row) (l c : List Nat) : List Int := (rs.filter fun r => decide (r.cu = c) && wi r.pa l).map (·.am)
abbrev cod (e : Int × Int × Int) : Int := e.1 * 64 + e.2.1
def Num (bs : List Bk) : Prop := bs.map (·.k) = (xp bs.length).map fun i : Nat => (i : Int)
def sg (a s : Int) (k : Nat) : Nat := 97 + ((a + s * k) % 26).toNat
def wd (a s : Int) (n : Nat) : List Nat := (xp n).map fun k => sg a s k
def nms (c : Int) (k : Nat) : List Nat :=
 if k < 6 then (wd (c / 250) (1 + c / 10 % 25) (1 + c % 10).toNat).take (c / 6500 % (1 + c % 10 + 1)).toNat ++ [97 + ((c / 71500 + 3 * k) % 26).toNat] ++ (wd (c / 250) (1 + c / 10 % 25) (1 + c % 10).toNat).drop (c / 6500 % (1 + c % 10 + 1)).toNat
 else wd (c / 250) (1 + c / 10 % 25) (1 + c % 10).toNat
theorem GB (a s : Int) (k : Nat) : 97 <= sg a s k /\ sg a s k <= 122 := by unfold sg; omega
theorem mh {c : Int} {k : Nat} : 1 <= (nms c k).length /\ (nms c k).length <= 11 /\ ∀ x ∈ nms c k, 97 <= x /\ x <= 122 := by
 have hw : (wd (c / 250) (1 + c / 10 % 25) (1 + c % 10).toNat).length = (1 + c % 10).toNat := by simp [wd]
 have hx : ∀ x ∈ wd (c / 250) (1 + c / 10 % 25) (1 + c % 10).toNat, 97 <= x /\ x <= 122 := fun x hx => by
  obtain ⟨k, _, rfl⟩ := rf.mp hx; exact GB _ _ _
 unfold nms
 generalize wd (c / 250) (1 + c / 10 % 25) (1 + c % 10).toNat = w at hw hx
 split
 ·refine ⟨by simp; omega, by simp [qK, YS]; omega, fun x hm => ?_⟩
  rcases tD.mp hm with h | h
  ·rcases tD.mp h with h | h
   ·exact hx x (ZI h)
   ·rw [zr.mp h]; omega
  ·exact hx x (List.mem_of_mem_drop h)
 ·exact ⟨by omega, by omega, hx⟩
inductive Pths (c : Int) : List (List Nat) -> Prop
 | two : Pths c [nms c 0, nms c 6]
 | more {ps : List (List Nat)} {u : List Nat} {k : Nat} : Pths c ps -> u ∈ ps -> u ++ 58 :: nms c k ∉ ps -> (spN 58 u).length <= 5 -> Pths c (ps ++ [u ++ 58 :: nms c k])
end K17
namespace L2
open PySem PyProof.Rows
section
variable {prog : Program} {w : World} {A : Around} {E : Value -> Shared -> Prop} {s : Shared} {it t e : Addr} {i : Nat} {its : Array Value} {x old : Value}
theorem zX {Q : Value -> Shared -> Prop} (hi : s.heap.IsTupleIter it t i) (ht : s.heap.IsTuple t its) (hx : its[i]? = some x)
 (q : ∀ h', h'.IsTupleIter it t (i + 1) -> ZV it s.heap h' -> Q x { s with heap := h' }) : wpAny (model prog w) A (ZM (.ref it)) Q E s := by
 obtain ⟨o, ho, hc, hd⟩ := id hi
 obtain ⟨ol, hol, _, nl, hdl⟩ := ht
 unfold ZM
 refine zz (wpAny_callSpecial?_slot (name := wo "__next__") hi.typeIs Z4 (Zc Z4 hi.typeIs F.entry_tuple_iterator_next ?_ (F.args_tuple_iterator_next_1 _)))
 show wpAny _ _ (field (.ref it) 0 >>= _) _ _ s
 refine zz (ZO ho hd (x := .ref t) rfl ?_)
 show wpAny _ _ (if (vY t == ZR) = true then _ else _) _ _ s
 rw [if_neg (show ¬ ((vY t == ZR) = true) from xh)]
 show wpAny _ _ (field (.ref it) 1 >>= _) _ _ s
 refine zz (ZO ho hd (x := .int i 0) rfl ?_)
 show wpAny _ _ (seqItems? (.ref t) >>= _) _ _ s
 refine zz (wpAny_seqItems hol hdl ?_)
 simp only [ZY, hx]
 refine zz (wpAny_setField ho hd (by simp) (yZ ⟨x, rfl, yZ (q _ ?_ (ZV.update ..))⟩))
 exact ⟨_, Heap.get?_update_self _ ho (YZ (YJ hd _)), (Obj.cls_mapFields ..).trans hc, by
  rw [YJ hd]; simp [rawInt]⟩
theorem A6 {Q : Value -> Shared -> Prop} (hh : A.handled = none) (hi : s.heap.IsTupleIter it t i) (ht : s.heap.IsTuple t its) (hx : its[i]? = none)
 (q : ∀ h' e, Heap.ExtBut it s.heap h' -> (∃ o, h'.get? e = some o /\ o.cls = .type "StopIteration") -> E (.ref e) { s with heap := h' }) : wpAny (model prog w) A (ZM (.ref it)) Q E s := by
 obtain ⟨o, ho, hc, hd⟩ := id hi
 obtain ⟨ol, hol, _, nl, hdl⟩ := ht
 unfold ZM
 refine zz (wpAny_callSpecial?_slot (name := wo "__next__") hi.typeIs Z4 (Zc Z4 hi.typeIs F.entry_tuple_iterator_next ?_ (F.args_tuple_iterator_next_1 _)))
 show wpAny _ _ (field (.ref it) 0 >>= _) _ _ s
 refine zz (ZO ho hd (x := .ref t) rfl ?_)
 show wpAny _ _ (if (vY t == ZR) = true then _ else _) _ _ s
 rw [if_neg (show ¬ ((vY t == ZR) = true) from xh)]
 show wpAny _ _ (field (.ref it) 1 >>= _) _ _ s
 refine zz (ZO ho hd (x := .int i 0) rfl ?_)
 show wpAny _ _ (seqItems? (.ref t) >>= _) _ _ s
 refine zz (wpAny_seqItems hol hdl ?_)
 simp only [ZY, hx]
 refine zz (wpAny_rule (zz (wpAny_setField ho hd (by simp) ?_)))
 show wpAny _ _ (newExc (.type "StopIteration") [] >>= _) _ _ _
 refine zz ?_
 simp only [newExc, newTuple]
 refine zz (Zj ?_ (by size_fits))
 refine zz (m := firstArgMember _ _) (wpAny_of_eq (a := ZR) (by first | rfl | (simp only [firstArgMember]; rfl)) ?_)
 refine Zj ?_ (by size_fits)
 simp only [raiseNew]
 refine zz (wpAny_handled ?_)
 first | rw [show A.in1.handled = none from hh] | rw [hh]
 refine zz (yZ (wpAny_throw ?_))
 exact q _ _ (((ZV.update ..).extBut.push _).push _) ⟨_, Heap.get?_push_size _ rfl, rfl⟩
theorem yq {Q : Option Value -> Shared -> Prop} (en : IsEnum s.heap e it i old) (hi : s.heap.IsTupleIter it t i) (ht : s.heap.IsTuple t its) (hx : its[i]? = some x) (ne : e ≠ it)
 (k : ∀ h', IsEnumOut h' e it ((i : Int) + 1) x s.heap.objs.size -> h'.IsTupleIter it t (i + 1) -> h'.get? s.heap.objs.size = some { cls := .type "tuple", data := .seq #[.int i s.toks, x] } -> h'.objs.size = s.heap.objs.size + 1 ->
  (∀ b o, b ≠ e -> b ≠ it -> s.heap.get? b = some o -> h'.get? b = some o) -> Q (some (.ref s.heap.objs.size)) { s with heap := h', toks := s.toks + 1 }) :
 wpAny (model prog w) A (pyNext (.ref e)) Q E s := by
 have ty : s.TypeIs (.ref e) "enumerate" := ⟨_, en, rfl⟩
 unfold pyNext
 refine zz (wpAny_attempt (wpAny_callSpecial?_slot (name := wo "__next__") ty YY (Zc YY ty F.entry_enumerate_next ?_ (F.args_enumerate_next_1 _))))
 exact Rv.enum_item (T := fun h => h.IsTupleIter it t (i + 1)) en ne (fun h h' y sb => y.at fun o q => (sb.2 it (Ne.symm ne)).trans q) (fun h o y => y.at fun o q => Heap.get?_push_of_some _ q) (fun Q' q => zX hi ht hx q) fun h' a b c d f => yZ (k h' a b c d f)
theorem qR {Q : Option Value -> Shared -> Prop} (hh : A.handled = none) (en : IsEnum s.heap e it i old) (hi : s.heap.IsTupleIter it t i) (ht : s.heap.IsTuple t its) (hx : its[i]? = none)
 (k : ∀ h', Heap.ExtBut it s.heap h' -> Q none { s with heap := h' }) : wpAny (model prog w) A (pyNext (.ref e)) Q E s := by
 have ty : s.TypeIs (.ref e) "enumerate" := ⟨_, en, rfl⟩
 unfold pyNext
 refine zz (wpAny_attempt (wpAny_callSpecial?_slot (name := wo "__next__") ty YY (Zc YY ty F.entry_enumerate_next ?_ (F.args_enumerate_next_1 _))))
 show wpAny (model prog w) _ (field (.ref e) 2 >>= _) _ _ s
 refine zz (ZO en rfl (x := .ref it) rfl (zz (A6 hh hi ht hx fun h' b eb hb => ?_)))
 obtain ⟨o, q1, q2⟩ := hb
 exact zz (wpAny_isInstance (T := "StopIteration") (b := true) ⟨o, q1, q2⟩ isSubtype_stop (yZ (k _ eb)))
theorem zS {od : Obj} (hc : od.cls = .type "tuple") {n : Nat} (hd : od.data = .seq its n) :
 Meets (Builtin.«enumerate.__new__» ⟨[.type "enumerate", .ref t], []⟩) (fun _ R s => s.heap.get? t = some od /\ R (.ok (.ret (.ref (s.heap.push { cls := .type "tuple_iterator", data := .fields #[.ref t, .int 0 0] }).objs.size))) { s with heap := (s.heap.push { cls := .type "tuple_iterator", data := .fields #[.ref t, .int 0 0] }).push { cls := .type "enumerate", data := .fields #[.none, .bool false, .ref s.heap.objs.size, rawInt 0, .none, .none] } }) :=
 .of_wp fun prog w A R s ⟨hl, h⟩ => by
  obtain ⟨hp, g, d', tn, os⟩ := s
  have sub := sub_enumerate
  have hT : Heap.IsTuple (Shared.heap ⟨hp, g, d', tn, os⟩) t its := ⟨_, hl, hc, n, hd⟩
  wp_walk using YM hl
  refine wpAny_stack_any fun st => yZ ?_
  split
  ·rename_i c _ _ _ _ _
   cases (c == Value.type "enumerate") <;> (wp_walk using YM hl, wpAny_pyIter_tuple hT; exact ⟨_, rfl, h⟩)
  ·wp_walk using YM hl, wpAny_pyIter_tuple hT
   exact ⟨_, rfl, h⟩
theorem yD {Q : Value -> Shared -> Prop} (ht : s.heap.IsTuple t its)
 (h : ∀ h' e, e = s.heap.objs.size + 1 -> IsEnum h' e s.heap.objs.size 0 .none -> h'.IsTupleIter s.heap.objs.size t 0 -> (∀ b o, s.heap.get? b = some o -> h'.get? b = some o) -> Q (.ref e) { s with heap := h' }) :
 wpAny (model prog w) A (call (.type "enumerate") [.ref t]) Q E s := by
 obtain ⟨od, ho, hc, n, hd⟩ := ht
 refine callType_new F.called_enumerate (by decide) (F.typeCall_enumerate_1 _) (F.newCall_enumerate_1 _) (fun obj => F.args_object_init_2 obj _) F.entry_enumerate_new (zS hc hd) ⟨ho, ?_⟩
 have gk : (s.heap.push { cls := .type "tuple_iterator", data := .fields #[.ref t, .int 0 0] }).get? s.heap.objs.size = some { cls := .type "tuple_iterator", data := .fields #[.ref t, .int 0 0] } := Heap.get?_push_size _ rfl
 have zk : (s.heap.push { cls := .type "tuple_iterator", data := .fields #[.ref t, .int 0 0] }).objs.size = s.heap.objs.size + 1 := Heap.size_push ..
 have kk : ∀ b o, s.heap.get? b = some o -> (s.heap.push { cls := .type "tuple_iterator", data := .fields #[.ref t, .int 0 0] }).get? b = some o := fun b o q => Heap.get?_push_of_some _ q
 generalize s.heap.push { cls := .type "tuple_iterator", data := .fields #[.ref t, .int 0 0] } = hp at gk zk kk |-
 have en : IsEnum (hp.push { cls := .type "enumerate", data := .fields #[.none, .bool false, .ref s.heap.objs.size, rawInt 0, .none, .none] }) hp.objs.size s.heap.objs.size 0 .none := Heap.get?_push_size _ rfl
 exact ⟨⟨_, en, rfl⟩, h _ _ zk en ⟨_, Heap.get?_push_of_some _ gk, rfl, rfl⟩ fun b o q => Heap.get?_push_of_some _ (kk b o q)⟩
end
section
variable {X : Cx} {pins : List (Addr × Obj)} {σ : St} {H : Hp} {s : Shared}
def Itg (K : W.Frag) (a : Addr) : It :=
 ⟨fun i H => ∃ xs x, SqT K H a xs /\ xs[i]? = some x, fun i H x H' => ∃ p y, H p = none /\ x = .ref p /\ H' = upd H p (.tup [.int i, y]) /\ ∀ xs, SqT K H a xs -> xs[i]? = some y, fun i H => ∃ xs, SqT K H a xs /\ xs.length <= i⟩
theorem xJ {P : Program} {w : World} {K : W.Frag} {elts : List Expr} {cx : _} {pos : Pos} (a e it : Addr) (ne : e ≠ it) :
 wK P w K (.Tuple elts cx pos) (Itg K a) [e, it] e (fun i h => ∃ old, IsEnum h e it (i : Nat) old /\ h.IsTupleIter it a i) where
 mem := by simp
 obj := fun i h st b hb => by
  obtain ⟨old, h1, o, h2, c, d⟩ := st
  rcases ze.mp hb with rfl | hb
  ·exact ⟨_, h1, fun v z => by
    have z' : YH _ = Data.cell v := z
    cases z'⟩
  ·have z := zr.mp hb
   subst z
   exact ⟨o, h2, fun v z => by rw [d] at z; cases z⟩
 keep := fun i h h' st k => by
  obtain ⟨old, h1, h2⟩ := st
  exact ⟨old, k e (by simp) _ h1, h2.at fun o q => k it (by simp) o q⟩
 item := by
  intro X hP hw hK hc i pins s σ H E I hf st hg
  subst hP hw hK
  obtain ⟨xs, x, hq, hx⟩ := hg
  obtain ⟨its, rv, p, hz⟩ := I.tuple hq
  obtain ⟨u, hu, ru⟩ := rv.get hx
  have fe := hf e (by simp)
  have fi := hf it (by simp)
  obtain ⟨old, h1, h2⟩ := st
  obtain ⟨oi, gi, ci, di⟩ := id h2
  refine yq h1 h2 (show s.heap.IsTuple a its.toArray from p) (x := u) (by simpa using hu) ne fun h' e1 i1 t1 z1 k1 => ?_
  obtain ⟨oi', gi', ci', di'⟩ := id i1
  obtain ⟨h3, z3, I3, k3⟩ := I.turned2 (t' := s.toks + 1) (h' := h') h1 gi ne ⟨_, e1, rfl⟩ ⟨_, gi', YZ di'⟩ k1 fe fi
  have hn := I.hok.fresh (zM s.heap.objs.size)
  have I4 : Inv X pins σ (upd H s.heap.objs.size (.tup [.int i, x])) { s with heap := h', toks := s.toks + 1 } :=
   I3.laid (t' := s.toks + 1) k3 (Nat.le_of_eq z3) (show ObjOk X.prog X.w _ h' _ (.tup [.int i, x]) from ⟨by show 2 <= sizeLine; rw [ue]; decide, [.int i s.toks, u], .cons ⟨_, rfl⟩ (.cons ru .nil), ⟨_, t1, rfl, 0, rfl⟩⟩)
  have le : e < s.heap.objs.size := xi h1
  have li : it < s.heap.objs.size := xi gi
  have nH : ∀ b, b < s.heap.objs.size -> upd H s.heap.objs.size (.tup [.int i, x]) b = H b := fun b l => ar (tB l)
  refine ⟨_, rfl, wpAny_letOwnedTupleGo_enum (s := { s with heap := h', toks := s.toks + 1 }) e1 fun h5 e5 s5 => ?_⟩
  have I5 : Inv X pins σ (upd H s.heap.objs.size (.tup [.int i, x])) { s with heap := h5, toks := s.toks + 1 } :=
   I4.turned (t' := s.toks + 1) (fun b o hb q => (s5.2 b hb).trans q) ((nH e le).trans fe.1) fe.2.1 fe.2.2.2.1 fe.2.2.2.2.1 fe.2.2.2.2.2
  refine ⟨.ref s.heap.objs.size, _, I5, rfl, ⟨_, x, hn, rfl, rfl, fun ys hy => by rw [I.tuple_inj hy hq]; exact hx⟩, ⟨_, e5, i1.at fun o q => (s5.2 it (Ne.symm ne)).trans q⟩, fun b hb => ?_⟩
  rcases ze.mp hb with rfl | hb
  ·exact (nH _ le).trans fe.1
  ·rw [zr.mp hb]; exact (nH _ li).trans fi.1
 done := by
  intro X hP hw hK hc i pins s σ H E I hf st hg
  subst hP hw hK
  obtain ⟨xs, hq, hx⟩ := hg
  obtain ⟨its, rv, p, hz⟩ := I.tuple hq
  have fi := hf it (by simp)
  have hl := rv.length
  obtain ⟨old, h1, h2⟩ := st
  exact qR (I.ok.hd hc) h1 h2 (show s.heap.IsTuple a its.toArray from p) (by simp; omega) fun h' eb => ⟨rfl, I.turned (t' := s.toks) (fun b o hb q => eb b o hb q) fi.1 fi.2.1 fi.2.2.2.1 fi.2.2.2.2.1 fi.2.2.2.2.2⟩
 self := fun _ _ _ _ _ ⟨_, st, _⟩ h => wpAny_pyIter_enum st h
def B1 (K : W.Frag) (ta : TE) : TI := fun σ H R => ta σ H fun x H1 => ∃ a, x = .ref a /\ (∃ xs, SqT K H1 a xs) /\ R (Itg K a) H1
theorem A9 {arg : Expr} {ta : TE} {p pos : Pos} {elts : List Expr} {cx : _} {tp : Pos} (K : W.Frag) (hg : Gl X "enumerate") (hm : X.mg "enumerate" = none) (ha : PE X arg ta) (hs : starEach [arg] X.env = [(false, eval arg X.env)] := by rfl) (hK : X.K = K := by rfl) :
 PI X (.Tuple elts cx tp) (.Call (.Name "enumerate" p) [arg] [] pos) (B1 K ta) := by
 subst hK
 intro pins s σ H R I h
 refine Call_ (mt I hg hm PyProof.Rows.boot_enumerate (ZS ?_ hs rfl))
 rw [hs]
 refine Calls.spliced_cons (thn (ha pins s σ H _ I h) fun v s1 ⟨x, H1, I1, rx, b, ex, ⟨xs, hq⟩, q⟩ => ?_)
 subst ex
 cases (show v = vY b from rx)
 obtain ⟨its, rv, pt, hz⟩ := I1.tuple hq
 refine Calls.spliced_nil (yD (show s1.heap.IsTuple b its.toArray from pt) fun h' e he en ki k => wpAny_pyIter_enum (s := { s1 with heap := h' }) en ?_)
 have ne : e ≠ s1.heap.objs.size := by rw [he]; exact Nat.succ_ne_self _
 refine ⟨_, [e, s1.heap.objs.size], _, _, _, rfl, I1.kept (t' := s1.toks) k, xJ b _ _ ne, ⟨_, en, ki⟩, fun c hc => ?_, q⟩
 rcases ze.mp hc with rfl | hc
 ·exact I1.fpOk (by rw [he]; exact YI _) (I1.hok.fresh (by rw [he]; exact YI _))
 ·rw [zr.mp hc]; exact I1.fpOk (zM _) (I1.hok.fresh (zM _))
theorem D6 {K : W.Frag} {ta : TE} {g : TG} {tb : TS} {D : fI} {σ : St} {H : Hp} (h : ta σ H fun x H1 => ∃ a, x = .ref a /\ (∃ xs, SqT K H1 a xs) /\ FE (Itg K a) g tb D σ H1) : v7 (B1 K ta) g tb D σ H := h
theorem Ei {K : W.Frag} {a : Addr} {xs : List V} {g : TG} {tb : TS} {D : fI} {σ : St} {H : Hp} (Pv : Nat -> St -> Hp -> Prop) (h0 : Pv 0 σ H) (hl : ∀ i σ H, Pv i σ H -> SqT K H a xs)
 (hs : ∀ i x σ H p, xs[i]? = some x -> H p = none -> Pv i σ H -> g (.ref p) σ (upd H p (.tup [.int i, x])) fun σ2 H2 => tb { D with nx := Pv (i + 1), ct := Pv (i + 1), bk := D.nx } σ2 H2) (hd : ∀ σ H, Pv xs.length σ H -> D.nx σ H) : FE (Itg K a) g tb D σ H := by
 refine ⟨fun i m σ H => m = xs.length - i /\ i <= xs.length /\ Pv i σ H, ⟨_, rfl, o3 _, h0⟩, ?_⟩
 rintro i m σ H ⟨rfl, hi, p⟩
 have q := hl i σ H p
 rcases Nat.lt_or_ge i xs.length with lt | ge
 ·refine .inr ⟨⟨xs, xs[i], q, by simp [lt]⟩, Pv (i + 1), fun σ' H' p' => ⟨_, by omega, rfl, lt, p'⟩, ?_⟩
  rintro x H' ⟨r, y, hr, rfl, rfl, hy⟩
  exact hs i y σ H r (hy xs q) hr p
 ·obtain rfl : i = xs.length := Nat.le_antisymm hi ge
  exact .inl ⟨⟨xs, q, zM _⟩, hd σ H p⟩
end
end L2
set_option maxHeartbeats 400000
namespace K26
open PySem L2
structure Adr where
 mi : Addr
 pC : FuncData
 lL : Addr
 o_ : FuncData
 jM : Addr
 mI : FuncData
 oG : Addr
 qo : FuncData
 l_ : Addr
 px : FuncData
 jV : Addr
 m_ : FuncData
 jF : Addr
 mM : FuncData
 lU : Addr
 py : FuncData
 jH : Addr
 nh : FuncData
 oq : Addr
 rD : FuncData
 jE : Addr
 nR : FuncData
 eN : Addr
 gO : FuncData
 iw : Addr
 kJ : FuncData
 oU : Addr
 qC : FuncData
 xL : Addr
 zd : FuncData
 yw : Addr
 y6 : FuncData
 jz : Addr
 ny : FuncData
 hR : Addr
 jn : FuncData
 gZ : Addr
 jB : FuncData
 qA : Addr
 tR : FuncData
 iE : Addr
 lg : FuncData
 fP : Addr
 iZ : FuncData
 iA : Addr
 kG : FuncData
 iy : Addr
 kr : FuncData
 iK : Addr
 kP : FuncData
 iO : Addr
 ky : FuncData
 d_ : Addr
 gg : FuncData
 fF : Addr
 k_ : FuncData
 lR : Addr
 pB : FuncData
 gU : Addr
 je : FuncData
 jy : Addr
 nA : FuncData
 bK : Addr
 i4 : FuncData
 mB : Addr
 o5 : FuncData
 dA : Addr
 eY : FuncData
 jg : Addr
 mP : FuncData
 f_ : Addr
 iS : FuncData
 jK : Addr
 mG : FuncData
 gP : Addr
 mU : FuncData
 iD : Addr
 kW : FuncData
 dE : Addr
 jv : FuncData
 ed : Addr
 fX : FuncData
 jQ : Addr
 B5 : FuncData
 cY : Addr
 fU : FuncData
 cN : Addr
 fA : FuncData
 gT : Addr
 i_ : FuncData
 eL : Addr
 gK : FuncData
 fm : Addr
 ib : FuncData
 fo : Addr
 iu : FuncData
 eC : Addr
 fO : FuncData
 c_ : Addr
 eD : FuncData
 cM : Addr
 fu : FuncData
 hX : Addr
 jt : FuncData
 gh : Addr
 lP : FuncData
 fk : Addr
 ir : FuncData
 m5 : Addr
 oM : Addr
 mE : Addr
 jd : Addr
 hV : Addr
 iB : Addr
 oh : Addr
 js : Addr
 vc : Addr
 rj : Addr
 gG : Addr
 aT : Addr
 oA : Addr
 aw : Addr
 au : Addr
 av : Addr
 d6 : Addr
abbrev zzK (K : W.Frag) (a b : Addr) (c : Bool) : Prop := Zp K (.ref a) (.ref b) = some c
abbrev zzX (K : W.Frag) (a : Addr) : Prop := PySem.W.excIn K a [.type "ValueError", .type "Exception", .type "BaseException", .type "object"] "ValueError.__new__" = true
structure Txt (K : W.Frag) (mg : Str -> Option Value) (a : Adr) : Prop where
 lC : Fun K "is_whole" "is_whole" dY a.mi a.pC
 yE : mg "is_whole" = some (.ref a.mi)
 dX : Fun K "is_among" "is_among" dZ a.lL a.o_
 mD : mg "is_among" = some (.ref a.lL)
 fb : Fun K "signs_lie" "signs_lie" c9 a.jM a.mI
 pA : mg "signs_lie" = some (.ref a.jM)
 ik : Fun K "is_name" "is_name" eF a.oG a.qo
 tW : mg "is_name" = some (.ref a.oG)
 iP : Fun K "is_month" "is_month" dP a.l_ a.px
 qm : mg "is_month" = some (.ref a.l_)
 gm : Fun K "leap_days" "leap_days" de a.jV a.m_
 pd : mg "leap_days" = some (.ref a.jV)
 e_ : Fun K "first_day" "first_day" dh a.jF a.mM
 o6 : mg "first_day" = some (.ref a.jF)
 mm : Fun K "last_day" "last_day" dR a.lU a.py
 xB : mg "last_day" = some (.ref a.lU)
 jN : Fun K "are_names" "are_names" dg a.jH a.nh
 wC : mg "are_names" = some (.ref a.jH)
 oV : Fun K "is_path" "is_path" eO a.oq a.rD
 Au : mg "is_path" = some (.ref a.oq)
 jX : Fun K "is_within" "is_within" c6 a.jE a.nR
 xn : mg "is_within" = some (.ref a.jE)
 eM : Fun K "amounts_within" "amounts_within" bH a.eN a.gO
 nX : mg "amounts_within" = some (.ref a.eN)
 iL : Fun K "sum_within" "sum_within" cO a.iw a.kJ
 uR : mg "sum_within" = some (.ref a.iw)
 eP : Fun K "done_by" "done_by" eK a.oU a.qC
 nZ : mg "done_by" = some (.ref a.oU)
 lD : Fun K "left" "left" lA a.xL a.zd
 xw : mg "left" = some (.ref a.xL)
 vj : Fun K "over" "over" lI a.yw a.y6
 Cs : mg "over" = some (.ref a.yw)
 jc : Fun K "is_amount" "is_amount" c8 a.jz a.ny
 v5 : mg "is_amount" = some (.ref a.jz)
 hE : Fun K "is_currency" "is_currency" cr a.hR a.jn
 sO : mg "is_currency" = some (.ref a.hR)
 hG : Fun K "are_weights" "are_weights" cn a.gZ a.jB
 sT : mg "are_weights" = some (.ref a.gZ)
 qQ : Fun K "shared" "shared" fR a.qA a.tR
 BJ : mg "shared" = some (.ref a.qA)
 iH : Fun K "are_months" "are_months" cJ a.iE a.lg
 uQ : mg "are_months" = some (.ref a.iE)
 aU : Fun K "_law_cell_at" "_law_cell_at" bX a.fP a.iZ
 bi : mg "_law_cell_at" = some (.ref a.fP)
 aQ : Fun K "_law_mixed" "_law_mixed" cL a.iA a.kG
 bc : mg "_law_mixed" = some (.ref a.iA)
 dw : Fun K "_law_whole" "_law_whole" cQ a.iy a.kr
 iN : mg "_law_whole" = some (.ref a.iy)
 d9 : Fun K "_law_names" "_law_names" cR a.iK a.kP
 mJ : mg "_law_names" = some (.ref a.iK)
 iC : Fun K "_law_paths" "_law_paths" cS a.iO a.ky
 uD : mg "_law_paths" = some (.ref a.iO)
 eg : Fun K "_law_currencies" "_law_currencies" bD a.d_ a.gg
 nv : mg "_law_currencies" = some (.ref a.d_)
 eB : Fun K "_law_first" "_law_first" bR a.fF a.k_
 iF : mg "_law_first" = some (.ref a.fF)
 mq : Fun K "_law_day" "_law_day" dW a.lR a.pB
 xS : mg "_law_day" = some (.ref a.lR)
 g_ : Fun K "_law_amount" "_law_amount" cy a.gU a.je
 sk : mg "_law_amount" = some (.ref a.gU)
 jS : Fun K "_law_rows" "_law_rows" db a.jy a.nA
 vT : mg "_law_rows" = some (.ref a.jy)
 fY : Fun K "_law_budgets" "_law_budgets" a8 a.bK a.i4
 qy : mg "_law_budgets" = some (.ref a.bK)
 gf : Fun K "_law_due" "_law_due" dU a.mB a.o5
 qh : mg "_law_due" = some (.ref a.mB)
 cz : Fun K "_law_planned_well" "_law_planned_well" bh a.dA a.eY
 fB : mg "_law_planned_well" = some (.ref a.dA)
 jr : Fun K "_law_none" "_law_none" cZ a.jg a.mP
 w4 : mg "_law_none" = some (.ref a.jg)
 fS : Fun K "_law_answers" "_law_answers" bZ a.f_ a.iS
 rp : mg "_law_answers" = some (.ref a.f_)
 d5 : Fun K "_law_told" "_law_told" df a.jK a.mG
 jA : mg "_law_told" = some (.ref a.jK)
 dt : Fun K "_law_over" "_law_over" ce a.gP a.mU
 gE : mg "_law_over" = some (.ref a.gP)
 fE : Fun K "_law_month" "_law_month" cK a.iD a.kW
 m9 : mg "_law_month" = some (.ref a.iD)
 gW : Fun K "_law_looked" "_law_looked" bp a.dE a.jv
 sH : mg "_law_looked" = some (.ref a.dE)
 eA : Fun K "_law_comes_then" "_law_comes_then" bC a.ed a.fX
 nQ : mg "_law_comes_then" = some (.ref a.ed)
 GV : Fun K "law" "law" dy a.jQ a.B5
 HR : mg "law" = some (.ref a.jQ)
 gw : Fun K "__init__" "Budget.__init__" bB a.cY a.fU
 yo : mx K a.aw "__init__" a.cY
 fN : Fun K "__init__" "Budgets.__init__" bv a.cN a.fA
 xt : mx K a.au "__init__" a.cN
 gY : Fun K "put" "Budgets.put" cp a.gT a.i_
 ja : mx K a.au "put" a.gT
 eG : Fun K "budget" "Budgets.budget" bI a.eL a.gK
 gQ : mx K a.au "budget" a.eL
 iY : Fun K "names" "Budgets.names" bO a.fm a.ib
 oP : mx K a.au "names" a.fm
 iX : Fun K "terms" "Budgets.terms" bP a.fo a.iu
 oO : mx K a.au "terms" a.fo
 gL : Fun K "planned" "Budgets.planned" bA a.eC a.fO
 lE : mx K a.au "planned" a.eC
 bx : Fun K "planned_by" "Budgets.planned_by" bd a.c_ a.eD
 aZ : mx K a.au "planned_by" a.c_
 fT : Fun K "__init__" "Journal.__init__" bt a.cM a.fu
 xu : mx K a.av "__init__" a.cM
 kA : Fun K "put" "Journal.put" cv a.hX a.jt
 qj : mx K a.av "put" a.hX
 zy : Fun K "booking" "Journal.booking" cf a.gh a.lP
 ye : mx K a.av "booking" a.gh
 i5 : Fun K "every" "Journal.every" bN a.fk a.ir
 nY : mx K a.av "every" a.fk
 vq : mg "HouseError" = some (.ref a.m5)
 AK : mg "BadName" = some (.ref a.oM)
 yn : mg "BadMonth" = some (.ref a.mE)
 xc : mg "BadAmount" = some (.ref a.jd)
 sj : mg "BadCurrency" = some (.ref a.hV)
 qX : mg "BadShare" = some (.ref a.iB)
 Ar : mg "BadPath" = some (.ref a.oh)
 vM : mg "NoAccount" = some (.ref a.js)
 DR : mg "Twice" = some (.ref a.vc)
 BU : mg "NoRate" = some (.ref a.rj)
 xa : mg "NoBooking" = some (.ref a.gG)
 rE : mg "NoBudget" = some (.ref a.aT)
 zO : mg "NoOrder" = some (.ref a.oA)
 BF : mg "Budget" = some (.ref a.aw)
 zW : mg "Budgets" = some (.ref a.au)
 s_ : mg "Journal" = some (.ref a.av)
 fK : Cls K a.aw
 iR : NoAttr K a.aw "agreed"
 jI : NoAttr K a.aw "first"
 jh : NoAttr K a.aw "parts"
 zU : Mk K a.aw a.cY
 aY : Cls K a.au
 bM : NoAttr K a.au "by_name"
 ym : Mk K a.au a.cN
 dO : Cls K a.av
 cH : NoAttr K a.av "bookings"
 lZ : NoAttr K a.av "undoings"
 qd : Mk K a.av a.cM
 vE : zzX K a.jd
 rV : zzX K a.hV
 xR : zzX K a.mE
 zP : zzX K a.oM
 Ay : zzX K a.oh
 rR : zzX K a.iB
 Et : zzX K a.gG
 yF : zzX K a.aT
 eJ : hJ K a.aT
 i6 : PySem.W.exmOne K (.ref a.aT) (.ref a.m5) = some true
 jR : zzK K a.aT a.js false
 jm : zzK K a.aT a.gG false
 kj : zzK K a.aT a.aT true
 lS : zzK K a.aT a.oA false
 m6 : zzK K a.aT a.rj false
 i8 : Zp K (.ref a.aT) (.type "ValueError") = some true
 CS : zzX K a.vc
 Ag : mg "LENGTHS" = some (.ref a.d6)
 d6 : ∃ (o : Obj) (its : Array Value) (n : Nat), K.lookup a.d6 = some o /\ o.cls = .type "tuple" /\ o.data = .seq its n /\ its.size <= sizeLine /\ Vals (([31, 28, 31, 30, 31, 30, 31, 31, 30, 31, 30, 31] : List Int).map V.int) its.toList
 ui : mg "ValueError" = none
 zq : mg "all" = none
 AO : mg "bool" = none
 pw : mg "enumerate" = none
 yI : mg "int" = none
 aW : mg "isinstance" = none
 iQ : mg "len" = none
 vB : mg "list" = none
 Gr : mg "max" = none
 AL : mg "min" = none
 dI : mg "range" = none
 qN : mg "sorted" = none
 yW : mg "str" = none
 ph : mg "sum" = none
 vm : mg "tuple" = none
theorem sy : nC "ValueError" = some (.type "ValueError") := by decide +kernel
theorem uZ : nC "all" = some (.builtin "all") := by decide +kernel
theorem zw : nC "bool" = some (.type "bool") := by decide +kernel
theorem uH : nC "int" = some (.type "int") := by decide +kernel
theorem aS : nC "isinstance" = some (.builtin "isinstance") := by decide +kernel
theorem fh : nC "len" = some (.builtin "len") := by decide +kernel
theorem pN : nC "list" = some (.type "list") := by decide +kernel
theorem Ff : nC "max" = some (.builtin "max") := by decide +kernel
theorem xP : nC "min" = some (.builtin "min") := by decide +kernel
theorem oJ : nC "sorted" = some (.builtin "sorted") := by decide +kernel
theorem uW : nC "str" = some (.type "str") := by decide +kernel
theorem jf : nC "sum" = some (.builtin "sum") := by decide +kernel
theorem qf : nC "tuple" = some (.type "tuple") := by decide +kernel
local macro_rules | `(tactic| walk_at "cq") => `(tactic| exact ⟨rfl, by decide +kernel, rfl, by decide +kernel, rfl, bU rfl, rfl, aL rfl, aL (k := fun y => nj y _) rfl, bS rfl⟩)
local macro_rules | `(tactic| walk_at "sc") => `(tactic| exact ⟨rfl, rfl, rfl, by decide +kernel, rfl, by decide +kernel, by decide +kernel⟩)
section
variable {K : W.Frag} {f : Addr} {fd : FuncData}
theorem xg : aF ["thing"] ["thing"] (ae dY) := by walk_at "sc"
theorem w6 (F : Fun K "is_whole" "is_whole" dY f fd) : Binds K fd ["thing"] [] := F.binds fun _ _ _ _ _ _ us hl => by obtain ⟨_, rfl⟩ := ex1 hl; rfl
theorem vV : aF ["thing", "least", "most"] ["thing", "least", "most"] (ae dZ) := by walk_at "sc"
theorem jD (F : Fun K "is_among" "is_among" dZ f fd) : Binds K fd ["thing", "least", "most"] [] := F.binds fun _ _ _ _ _ _ us hl => by obtain ⟨_, _, _, rfl⟩ := ex3 hl; rfl
theorem ut : aF ["text", "least", "most"] ["text", "least", "most"] (ae c9) := by walk_at "sc"
theorem nz (F : Fun K "signs_lie" "signs_lie" c9 f fd) : Binds K fd ["text", "least", "most"] [] := F.binds fun _ _ _ _ _ _ us hl => by obtain ⟨_, _, _, rfl⟩ := ex3 hl; rfl
theorem xT : aF ["thing"] ["thing"] (ae eF) := by walk_at "sc"
theorem p_ (F : Fun K "is_name" "is_name" eF f fd) : Binds K fd ["thing"] [] := F.binds fun _ _ _ _ _ _ us hl => by obtain ⟨_, rfl⟩ := ex1 hl; rfl
theorem wP : aF ["thing"] ["thing"] (ae dP) := by walk_at "sc"
theorem wM (F : Fun K "is_month" "is_month" dP f fd) : Binds K fd ["thing"] [] := F.binds fun _ _ _ _ _ _ us hl => by obtain ⟨_, rfl⟩ := ex1 hl; rfl
theorem uU : aF ["years"] ["years"] (ae de) := by walk_at "sc"
theorem uB (F : Fun K "leap_days" "leap_days" de f fd) : Binds K fd ["years"] [] := F.binds fun _ _ _ _ _ _ us hl => by obtain ⟨_, rfl⟩ := ex1 hl; rfl
theorem nB : aF ["month", "years", "ahead", "leaps"] ["month"] (ae dh) := by walk_at "sc"
theorem mR (F : Fun K "first_day" "first_day" dh f fd) : Binds K fd ["month"] [] := F.binds fun _ _ _ _ _ _ us hl => by obtain ⟨_, rfl⟩ := ex1 hl; rfl
theorem vX : aF ["month"] ["month"] (ae dR) := by walk_at "sc"
theorem xb (F : Fun K "last_day" "last_day" dR f fd) : Binds K fd ["month"] [] := F.binds fun _ _ _ _ _ _ us hl => by obtain ⟨_, rfl⟩ := ex1 hl; rfl
theorem ve : aF ["names"] ["names"] (ae dg) := by walk_at "sc"
theorem vf (F : Fun K "are_names" "are_names" dg f fd) : Binds K fd ["names"] [] := F.binds fun _ _ _ _ _ _ us hl => by obtain ⟨_, rfl⟩ := ex1 hl; rfl
theorem yB : aF ["thing"] ["thing"] (ae eO) := by walk_at "sc"
theorem xK (F : Fun K "is_path" "is_path" eO f fd) : Binds K fd ["thing"] [] := F.binds fun _ _ _ _ _ _ us hl => by obtain ⟨_, rfl⟩ := ex1 hl; rfl
theorem uw : aF ["path", "other"] ["path", "other"] (ae c6) := by walk_at "sc"
theorem uO (F : Fun K "is_within" "is_within" c6 f fd) : Binds K fd ["path", "other"] [] := F.binds fun _ _ _ _ _ _ us hl => by obtain ⟨_, _, rfl⟩ := ex2 hl; rfl
theorem mY : aF ["booking", "path", "currency"] ["booking", "path", "currency"] (ae bH) := by walk_at "sc"
theorem mV (F : Fun K "amounts_within" "amounts_within" bH f fd) : Binds K fd ["booking", "path", "currency"] [] := F.binds fun _ _ _ _ _ _ us hl => by obtain ⟨_, _, _, rfl⟩ := ex3 hl; rfl
theorem kQ : aF ["journal", "path", "currency", "first", "last", "bookings"] ["journal", "path", "currency", "first", "last"] (ae cO) := by walk_at "sc"
theorem sB (F : Fun K "sum_within" "sum_within" cO f fd) : Binds K fd ["journal", "path", "currency", "first", "last"] [] := F.binds fun _ _ _ _ _ _ us hl => by obtain ⟨_, _, _, _, _, rfl⟩ := ex5 hl; rfl
theorem pY : aF ["budgets", "journal", "name", "month", "terms", "last"] ["budgets", "journal", "name", "month"] (ae eK) := by walk_at "sc"
theorem lG (F : Fun K "done_by" "done_by" eK f fd) : Binds K fd ["budgets", "journal", "name", "month"] [] := F.binds fun _ _ _ _ _ _ us hl => by obtain ⟨_, _, _, _, rfl⟩ := ex4 hl; rfl
theorem DN : aF ["budgets", "journal", "name", "month"] ["budgets", "journal", "name", "month"] (ae lA) := by walk_at "sc"
theorem uo (F : Fun K "left" "left" lA f fd) : Binds K fd ["budgets", "journal", "name", "month"] [] := F.binds fun _ _ _ _ _ _ us hl => by obtain ⟨_, _, _, _, rfl⟩ := ex4 hl; rfl
theorem zt : aF ["budgets", "journal", "month", "rests"] ["budgets", "journal", "month"] (ae lI) := by walk_at "sc"
theorem Eh (F : Fun K "over" "over" lI f fd) : Binds K fd ["budgets", "journal", "month"] [] := F.binds fun _ _ _ _ _ _ us hl => by obtain ⟨_, _, _, rfl⟩ := ex3 hl; rfl
theorem vi : aF ["thing"] ["thing"] (ae c8) := by walk_at "sc"
theorem uS (F : Fun K "is_amount" "is_amount" c8 f fd) : Binds K fd ["thing"] [] := F.binds fun _ _ _ _ _ _ us hl => by obtain ⟨_, rfl⟩ := ex1 hl; rfl
theorem qI : aF ["thing"] ["thing"] (ae cr) := by walk_at "sc"
theorem qO (F : Fun K "is_currency" "is_currency" cr f fd) : Binds K fd ["thing"] [] := F.binds fun _ _ _ _ _ _ us hl => by obtain ⟨_, rfl⟩ := ex1 hl; rfl
theorem qH : aF ["thing"] ["thing"] (ae cn) := by walk_at "sc"
theorem rP (F : Fun K "are_weights" "are_weights" cn f fd) : Binds K fd ["thing"] [] := F.binds fun _ _ _ _ _ _ us hl => by obtain ⟨_, rfl⟩ := ex1 hl; rfl
theorem ua : aF ["amount", "weights", "whole", "parts", "rests", "wanted", "served", "rest", "place"] ["amount", "weights"] (ae fR) := by walk_at "sc"
theorem An (F : Fun K "shared" "shared" fR f fd) : Binds K fd ["amount", "weights"] [] := F.binds fun _ _ _ _ _ _ us hl => by obtain ⟨_, _, rfl⟩ := ex2 hl; rfl
theorem su : aF ["first", "last"] ["first", "last"] (ae cJ) := by walk_at "sc"
theorem sP (F : Fun K "are_months" "are_months" cJ f fd) : Binds K fd ["first", "last"] [] := F.binds fun _ _ _ _ _ _ us hl => by obtain ⟨_, _, rfl⟩ := ex2 hl; rfl
theorem pJ : aF ["_law_script", "_law_k"] ["_law_script", "_law_k"] (ae bX) := by walk_at "sc"
theorem dJ (F : Fun K "_law_cell_at" "_law_cell_at" bX f fd) : Binds K fd ["_law_script", "_law_k"] [] := F.binds fun _ _ _ _ _ _ us hl => by obtain ⟨_, _, rfl⟩ := ex2 hl; rfl
theorem sJ : aF ["_law_cell", "_law_k"] ["_law_cell", "_law_k"] (ae cL) := by walk_at "sc"
theorem eT (F : Fun K "_law_mixed" "_law_mixed" cL f fd) : Binds K fd ["_law_cell", "_law_k"] [] := F.binds fun _ _ _ _ _ _ us hl => by obtain ⟨_, _, rfl⟩ := ex2 hl; rfl
theorem sC : aF ["_law_found"] ["_law_found"] (ae cQ) := by walk_at "sc"
theorem km (F : Fun K "_law_whole" "_law_whole" cQ f fd) : Binds K fd ["_law_found"] [] := F.binds fun _ _ _ _ _ _ us hl => by obtain ⟨_, rfl⟩ := ex1 hl; rfl
theorem kM : aF ["_law_cell", "_law_letters", "_law_size", "_law_step", "_law_word", "_law_at", "_law_names_here", "_law_k", "_law_sign"] ["_law_cell"] (ae cR) := by walk_at "sc"
theorem ko (F : Fun K "_law_names" "_law_names" cR f fd) : Binds K fd ["_law_cell"] [] := F.binds fun _ _ _ _ _ _ us hl => by obtain ⟨_, rfl⟩ := ex1 hl; rfl
theorem kH : aF ["_law_script", "_law_many", "_law_names_here", "_law_paths_here", "_law_k", "_law_cell", "_law_ahead", "_law_path"] ["_law_script", "_law_many"] (ae cS) := by walk_at "sc"
theorem sS (F : Fun K "_law_paths" "_law_paths" cS f fd) : Binds K fd ["_law_script", "_law_many"] [] := F.binds fun _ _ _ _ _ _ us hl => by obtain ⟨_, _, rfl⟩ := ex2 hl; rfl
theorem fZ : aF ["_law_cell", "_law_letters", "_law_word", "_law_at"] ["_law_cell"] (ae bD) := by walk_at "sc"
theorem lM (F : Fun K "_law_currencies" "_law_currencies" bD f fd) : Binds K fd ["_law_cell"] [] := F.binds fun _ _ _ _ _ _ us hl => by obtain ⟨_, rfl⟩ := ex1 hl; rfl
theorem kL : aF ["_law_month_here", "_law_year", "_law_day_here", "_law_long_year", "_law_place"] ["_law_month_here"] (ae bR) := by walk_at "sc"
theorem sw (F : Fun K "_law_first" "_law_first" bR f fd) : Binds K fd ["_law_month_here"] [] := F.binds fun _ _ _ _ _ _ us hl => by obtain ⟨_, rfl⟩ := ex1 hl; rfl
theorem wg : aF ["_law_cell", "_law_month_here"] ["_law_cell", "_law_month_here"] (ae dW) := by walk_at "sc"
theorem wj (F : Fun K "_law_day" "_law_day" dW f fd) : Binds K fd ["_law_cell", "_law_month_here"] [] := F.binds fun _ _ _ _ _ _ us hl => by obtain ⟨_, _, rfl⟩ := ex2 hl; rfl
theorem jY : aF ["_law_cell", "_law_some"] ["_law_cell"] (ae cy) := by walk_at "sc"
theorem rd (F : Fun K "_law_amount" "_law_amount" cy f fd) : Binds K fd ["_law_cell"] [] := F.binds fun _ _ _ _ _ _ us hl => by obtain ⟨_, rfl⟩ := ex1 hl; rfl
theorem nM : aF ["_law_cell", "_law_paths_here", "_law_currencies_here", "_law_rows_here", "_law_k", "_law_path", "_law_currency"] ["_law_cell", "_law_paths_here", "_law_currencies_here"] (ae db) := by walk_at "sc"
theorem uL (F : Fun K "_law_rows" "_law_rows" db f fd) : Binds K fd ["_law_cell", "_law_paths_here", "_law_currencies_here"] [] := F.binds fun _ _ _ _ _ _ us hl => by obtain ⟨_, _, _, rfl⟩ := ex3 hl; rfl
theorem iV : aF ["_law_script", "_law_made", "_law_k", "_law_cell", "_law_name", "_law_many", "_law_first_here", "_law_total", "_law_weights", "_law_path", "_law_currency"] ["_law_script", "_law_made"] (ae a8) := by walk_at "sc"
theorem pF (F : Fun K "_law_budgets" "_law_budgets" a8 f fd) : Binds K fd ["_law_script", "_law_made"] [] := F.binds fun _ _ _ _ _ _ us hl => by obtain ⟨_, _, rfl⟩ := ex2 hl; rfl
theorem o4 : aF ["_law_made", "_law_at", "_law_name", "_law_month_here", "_law_path", "_law_currency", "_law_first_here", "_law_last", "_law_total", "_law_found", "_law_one", "_law_where", "_law_other", "_law_amount_here"] ["_law_made", "_law_at", "_law_name", "_law_month_here"] (ae dU) := by walk_at "sc"
theorem pz (F : Fun K "_law_due" "_law_due" dU f fd) : Binds K fd ["_law_made", "_law_at", "_law_name", "_law_month_here"] [] := F.binds fun _ _ _ _ _ _ us hl => by obtain ⟨_, _, _, _, rfl⟩ := ex4 hl; rfl
theorem ff : aF ["_law_made", "_law_name", "_law_path", "_law_currency", "_law_first_here", "_law_last", "_law_total", "_law_parts"] ["_law_made"] (ae bh) := by walk_at "sc"
theorem ji (F : Fun K "_law_planned_well" "_law_planned_well" bh f fd) : Binds K fd ["_law_made"] [] := F.binds fun _ _ _ _ _ _ us hl => by obtain ⟨_, rfl⟩ := ex1 hl; rfl
theorem nP : aF ["_law_made", "_law_name", "_law_many", "_law_way", "e", "_law_others"] ["_law_made", "_law_name"] (ae cZ) := by walk_at "sc"
theorem uA (F : Fun K "_law_none" "_law_none" cZ f fd) : Binds K fd ["_law_made", "_law_name"] [] := F.binds fun _ _ _ _ _ _ us hl => by obtain ⟨_, _, rfl⟩ := ex2 hl; rfl
theorem iT : aF ["_law_made", "_law_at", "_law_name", "_law_month_here", "_law_turn", "_law_answers_here", "_law_way"] ["_law_made", "_law_at", "_law_name", "_law_month_here", "_law_turn"] (ae bZ) := by walk_at "sc"
theorem pM (F : Fun K "_law_answers" "_law_answers" bZ f fd) : Binds K fd ["_law_made", "_law_at", "_law_name", "_law_month_here", "_law_turn"] [] := F.binds fun _ _ _ _ _ _ us hl => by obtain ⟨_, _, _, _, _, rfl⟩ := ex5 hl; rfl
theorem mH : aF ["_law_made", "_law_at", "_law_name", "_law_month_here", "_law_turn", "_law_due_here", "_law_found", "_law_rest", "_law_planned"] ["_law_made", "_law_at", "_law_name", "_law_month_here", "_law_turn"] (ae df) := by walk_at "sc"
theorem nU (F : Fun K "_law_told" "_law_told" df f fd) : Binds K fd ["_law_made", "_law_at", "_law_name", "_law_month_here", "_law_turn"] [] := F.binds fun _ _ _ _ _ _ us hl => by obtain ⟨_, _, _, _, _, rfl⟩ := ex5 hl; rfl
theorem mK : aF ["_law_made", "_law_at", "_law_month_here", "_law_due_here", "_law_name", "_law_rest", "_law_found", "_law_pair"] ["_law_made", "_law_at", "_law_month_here"] (ae ce) := by walk_at "sc"
theorem nD (F : Fun K "_law_over" "_law_over" ce f fd) : Binds K fd ["_law_made", "_law_at", "_law_month_here"] [] := F.binds fun _ _ _ _ _ _ us hl => by obtain ⟨_, _, _, rfl⟩ := ex3 hl; rfl
theorem sL : aF ["_law_cell", "_law_base"] ["_law_cell", "_law_base"] (ae cK) := by walk_at "sc"
theorem si (F : Fun K "_law_month" "_law_month" cK f fd) : Binds K fd ["_law_cell", "_law_base"] [] := F.binds fun _ _ _ _ _ _ us hl => by obtain ⟨_, _, rfl⟩ := ex2 hl; rfl
theorem jk : aF ["_law_made", "_law_at", "_law_one", "_law_other", "_law_turn", "_law_k", "_law_query"] ["_law_made", "_law_at", "_law_one", "_law_other", "_law_turn"] (ae bp) := by walk_at "sc"
theorem rN (F : Fun K "_law_looked" "_law_looked" bp f fd) : Binds K fd ["_law_made", "_law_at", "_law_one", "_law_other", "_law_turn"] [] := F.binds fun _ _ _ _ _ _ us hl => by obtain ⟨_, _, _, _, _, rfl⟩ := ex5 hl; rfl
theorem fQ : aF ["_law_made", "_law_absent", "_law_path", "_law_currency"] ["_law_made"] (ae bC) := by walk_at "sc"
theorem lT (F : Fun K "_law_comes_then" "_law_comes_then" bC f fd) : Binds K fd ["_law_made"] [] := F.binds fun _ _ _ _ _ _ us hl => by obtain ⟨_, rfl⟩ := ex1 hl; rfl
theorem Bp : aF ["_law_script", "_law_made", "_law_whole_here", "_law_k", "_law_at", "_law_rows_here", "_law_month_here", "_law_one", "_law_other"] ["_law_script"] (ae dy) := by walk_at "sc"
theorem lH : aF ["self", "agreed", "parts"] ["self", "agreed", "parts"] (ae bB) := by walk_at "sc"
theorem lY (F : Fun K "__init__" "Budget.__init__" bB f fd) : Binds K fd ["self", "agreed", "parts"] [] := F.binds fun _ _ _ _ _ _ us hl => by obtain ⟨_, _, _, rfl⟩ := ex3 hl; rfl
theorem kl : aF ["self"] ["self"] (ae bv) := by walk_at "sc"
theorem kg (F : Fun K "__init__" "Budgets.__init__" bv f fd) : Binds K fd ["self"] [] := F.binds fun _ _ _ _ _ _ us hl => by obtain ⟨_, rfl⟩ := ex1 hl; rfl
theorem jW : aF ["self", "name", "path", "currency", "first", "last", "total", "weights", "parts"] ["self", "name", "path", "currency", "first", "last", "total", "weights"] (ae cp) := by walk_at "sc"
theorem jC (F : Fun K "put" "Budgets.put" cp f fd) : Binds K fd ["self", "name", "path", "currency", "first", "last", "total", "weights"] [] := F.binds fun _ _ _ _ _ _ us hl => by obtain ⟨_, _, _, _, _, _, _, _, rfl⟩ := ex8 hl; rfl
theorem nF : aF ["self", "name"] ["self", "name"] (ae bI) := by walk_at "sc"
theorem gF (F : Fun K "budget" "Budgets.budget" bI f fd) : Binds K fd ["self", "name"] [] := F.binds fun _ _ _ _ _ _ us hl => by obtain ⟨_, _, rfl⟩ := ex2 hl; rfl
theorem ow : aF ["self"] ["self"] (ae bO) := by walk_at "sc"
theorem og (F : Fun K "names" "Budgets.names" bO f fd) : Binds K fd ["self"] [] := F.binds fun _ _ _ _ _ _ us hl => by obtain ⟨_, rfl⟩ := ex1 hl; rfl
theorem oR : aF ["self", "name"] ["self", "name"] (ae bP) := by walk_at "sc"
theorem oE (F : Fun K "terms" "Budgets.terms" bP f fd) : Binds K fd ["self", "name"] [] := F.binds fun _ _ _ _ _ _ us hl => by obtain ⟨_, _, rfl⟩ := ex2 hl; rfl
theorem lW : aF ["self", "name", "month"] ["self", "name", "month"] (ae bA) := by walk_at "sc"
theorem lV (F : Fun K "planned" "Budgets.planned" bA f fd) : Binds K fd ["self", "name", "month"] [] := F.binds fun _ _ _ _ _ _ us hl => by obtain ⟨_, _, _, rfl⟩ := ex3 hl; rfl
theorem eE : aF ["self", "name", "month", "budget"] ["self", "name", "month"] (ae bd) := by walk_at "sc"
theorem bG (F : Fun K "planned_by" "Budgets.planned_by" bd f fd) : Binds K fd ["self", "name", "month"] [] := F.binds fun _ _ _ _ _ _ us hl => by obtain ⟨_, _, _, rfl⟩ := ex3 hl; rfl
theorem kc : aF ["self"] ["self"] (ae bt) := by walk_at "sc"
theorem kf (F : Fun K "__init__" "Journal.__init__" bt f fd) : Binds K fd ["self"] [] := F.binds fun _ _ _ _ _ _ us hl => by obtain ⟨_, rfl⟩ := ex1 hl; rfl
theorem i9 : aF ["self", "day", "note", "rows", "undoes", "number"] ["self", "day", "note", "rows", "undoes"] (ae cv) := by walk_at "sc"
theorem q_ (F : Fun K "put" "Journal.put" cv f fd) : Binds K fd ["self", "day", "note", "rows", "undoes"] [] := F.binds fun _ _ _ _ _ _ us hl => by obtain ⟨_, _, _, _, _, rfl⟩ := ex5 hl; rfl
theorem oj : aF ["self"] ["self"] (ae bN) := by walk_at "sc"
theorem oI (F : Fun K "every" "Journal.every" bN f fd) : Binds K fd ["self"] [] := F.binds fun _ _ _ _ _ _ us hl => by obtain ⟨_, rfl⟩ := ex1 hl; rfl
end
seal L2.PE L2.PT L2.PW L2.PA L2.PS L2.PSs L2.PI L2.PG L2.PGs L2.PO
local macro_rules | `(tactic| walk_at "rd") => `(tactic| try simp only [Cy, rdI, V.int.injEq, V.ref.injEq, yV, CK, yS, zA, AX, Cg, CB, Cz, AM, L2.iW, wW, YT, Z2, List.nil_append, ZF, sX, Yi, List.replicate, List.getElem?_cons_zero, List.getElem?_cons_succ, List.set_cons_zero, List.set_cons_succ, Nat.reduceSub, Nat.reduceAdd, Int.reduceLT, Int.reduceLE, Int.reducePow, Int.reduceNeg, Nat.reducePow, List.cons.injEq, exists_eq_left', exists_eq_left, eq_self, if_false, if_true, ↓reduceIte, ite_not, forall_const, Option.bind_some, id_eq, Bv, sp8, y4])
local macro_rules | `(tactic| walk_at "om") => `(tactic| first | exact qM (by decide) (by assumption : 1000 <= sizeLine) | omega)
section
variable {pS : Addr} {ns : List Int} {P : Program} {w : World} {K : W.Frag} {mg : Str -> Option Value} {base : Heap} {a : Adr}
theorem szl : 1000 <= sizeLine := by rw [ue]; decide
theorem H_ : 1000 < sizeLine := by rw [ue]; decide
theorem itp {c : Prop} [Decidable c] {t e : Prop} (h : c) (x : t) : ite c t e := by rw [if_pos h]; exact x
theorem itn {c : Prop} [Decidable c] {t e : Prop} (h : ¬ c) (x : e) : ite c t e := by rw [if_neg h]; exact x
def sp_gS : Sp := sp1 fun x H Q _ => NoT H /\ asK H x fun _ => Q (.bl (isI x)) H
theorem v8 (T : Txt K mg a) : bg P w K mg base (XE P w) 1 a.mi a.pC ["thing"] sp_gS := by
 refine T.lC.okG xg (fun vs H Q E h => sp1.len h) (fun cdv A outer s H vs Q E hr h => ?_)
 obtain ⟨x0, rfl, h⟩ := sp1.inv h
 try dsimp only [sp_gS, sp1] at h
 obtain ⟨hN, h1⟩ := h
 obtain ⟨t, ht, hb, k⟩ := asK.inv h1
 refine ⟨hN, _, (ak (aG (dl (aE (cb K) rfl T.aW aS (FA.pa (aa (fv 0) (aa (dH (v := .ty "int") rfl T.yI uH rfl) ad)))) (cV (xC (aE (cb K) rfl T.aW aS (FA.pa (aa (fv 0) (aa (dH (v := .ty "bool") rfl T.AO zw rfl) ad))))))))), ?_⟩
 walk_at "rd"
 simp only [ht]
 rw [<- vG ht] at k
 rcases hb with rfl | rfl | rfl | rfl | rfl | rfl | rfl
 all_goals first
  | exact BO k
  | exact vQ k
theorem kX (T : Txt K mg a) : bg P w K mg base (XE P w) 1 a.iy a.kr ["_law_found"] sp_gS := by
 refine T.dw.okG sC (fun vs H Q E h => sp1.len h) (fun cdv A outer s H vs Q E hr h => ?_)
 obtain ⟨x0, rfl, h⟩ := sp1.inv h
 try dsimp only [sp_gS, sp1] at h
 obtain ⟨hN, h1⟩ := h
 obtain ⟨t, ht, hb, k⟩ := asK.inv h1
 refine ⟨hN, _, (ak (aG (dl (aE (cb K) rfl T.aW aS (FA.pa (aa (fv 0) (aa (dH (v := .ty "int") rfl T.yI uH rfl) ad)))) (cV (xC (aE (cb K) rfl T.aW aS (FA.pa (aa (fv 0) (aa (dH (v := .ty "bool") rfl T.AO zw rfl) ad))))))))), ?_⟩
 walk_at "rd"
 simp only [ht]
 rw [<- vG ht] at k
 rcases hb with rfl | rfl | rfl | rfl | rfl | rfl | rfl
 all_goals first
  | exact BO k
  | exact vQ k
def amg (x : V) (lo hi : Int) : Bool := match x with
 | .int i => decide (lo <= i) && decide (i <= hi)
 | _ => false
theorem C_ {x : V} {lo hi : Int} (h : isI x = false) : amg x lo hi = false := by
 unfold amg
 split
 ·cases h
 ·rfl
def sp_pe : Sp := sp3 fun x y z H Q _ => NoT H /\ asI y fun lo => asI z fun hi => asK H x fun _ => Q (.bl (amg x lo hi)) H
theorem jw (T : Txt K mg a) : bg P w K mg base (XE P w) 2 a.lL a.o_ ["thing", "least", "most"] sp_pe := by
 refine T.dX.okG vV (fun vs H Q E h => sp3.len h) (fun cdv A outer s H vs Q E hr h => ?_)
 obtain ⟨x0, x1, x2, rfl, h⟩ := sp3.inv h
 try dsimp only [sp_pe, sp3] at h
 obtain ⟨hN, h1⟩ := h
 obtain ⟨lo, rfl, h2⟩ := asI.inv h1
 obtain ⟨hi, rfl, h3⟩ := asI.inv h2
 obtain ⟨t, ht, hb, k⟩ := asK.inv h3
 have G_is_whole := @v8 P w K mg base a T
 have b_is_whole := w6 T.lC
 refine ⟨hN, _, (ak (aG (dl (ao G_is_whole (hr.mono (by decide)) rfl T.yE T.lC.kp b_is_whole .nil aC (FA.pa (aa (fv 0) ad))) (cV (jU fw fw (fv 1) (fv 0) (fv 2)))))), ?_⟩
 walk_at "rd"
 refine ⟨hN, asK.of ht ?_⟩
 cases e : isI x0 with
 | false =>
  rw [C_ e] at k
  exact vQ k
 | true =>
  cases x0 with
  | int i =>
   refine BO ?_
   walk_at "rd"
   split
   ·rename_i h1
    have e : amg (.int i) lo hi = decide (i <= hi) := by simp [amg, h1]
    rw [e] at k; exact k
   ·rename_i h1
    have e : amg (.int i) lo hi = false := by simp [amg, h1]
    rw [e] at k; exact k
  | _ => cases e
theorem mO {x : V} {lo hi : Int} (h : amg x lo hi = true) : ∃ i, x = .int i /\ lo <= i /\ i <= hi := by
 unfold amg at h
 split at h
 ·rename_i i; simp at h; exact ⟨i, rfl, h.1, h.2⟩
 ·cases h
theorem EU (a b : Nat) : leN [a] [b] = decide (a <= b) := by
 unfold leN
 have h : ([b] < [a]) ↔ b < a := by
  rw [List.cons_lt_cons_iff]; simp
 rw [decide_eq_decide.mpr h]
 by_cases h2 : b < a
 ·rw [decide_eq_true h2, decide_eq_false (by walk_at "om")]; rfl
 ·rw [decide_eq_false h2, decide_eq_true (by walk_at "om")]; rfl
local macro_rules | `(tactic| walk_at "rd") => `(tactic| try simp only [Cy, rdI, V.int.injEq, V.ref.injEq, yV, CK, yS, zA, AX, Cg, CB, Cz, AM, L2.iW, wW, YT, Z2, List.nil_append, ZF, sX, Yi, List.replicate, List.getElem?_cons_zero, List.getElem?_cons_succ, List.set_cons_zero, List.set_cons_succ, Nat.reduceSub, Nat.reduceAdd, Int.reduceLT, Int.reduceLE, Int.reducePow, Int.reduceNeg, Nat.reducePow, List.cons.injEq, exists_eq_left', exists_eq_left, eq_self, if_false, if_true, ↓reduceIte, ite_not, forall_const, Option.bind_some, id_eq, Bv, sp8, y4, EU])
def ok (l : List Nat) : Prop := (∀ c ∈ l, c < 128) /\ l.length <= 1000
theorem uh {l : List Nat} (h : ok l) : l.length <= sizeLine := qM h.2 (by rw [ue]; decide)
def lie (l : List Nat) (a b : Nat) : Bool := l.all fun c => decide (a <= c) && decide (c <= b)
def sp_mW : Sp := sp3 fun x y z H Q _ => NoT H /\ asT x fun l => asT y fun lo => asT z fun hi => ok l /\ ∃ a b, lo = [a] /\ hi = [b] /\ Q (.bl (lie l a b)) H
theorem mT (T : Txt K mg a) : bg P w K mg base (XE P w) 1 a.jM a.mI ["text", "least", "most"] sp_mW := by
 refine T.fb.okG ut (fun vs H Q E h => sp3.len h) (fun cdv A outer s H vs Q E hr h => ?_)
 obtain ⟨x0, x1, x2, rfl, h⟩ := sp3.inv h
 try dsimp only [sp_mW, sp3] at h
 obtain ⟨hN, h1⟩ := h
 obtain ⟨l, rfl, h2⟩ := asT.inv h1
 obtain ⟨lo, rfl, h3⟩ := asT.inv h2
 obtain ⟨hi, rfl, hl, a, b, rfl, rfl, k⟩ := asT.inv h3
 refine ⟨hN, _, (ak (aG (aE (pO K rfl) rfl T.zq uZ (FA.pa (aa (cB rfl (cl := _) (x := "sign") (xs := ["sign"]) (fr := ["least", "most"]) (ks := [1, 2]) (by walk_at "cq") rfl (Fr (fv 0)) (fun _ _ _ _ _ => (aI (i := 0) (dD (l := ["sign", "least", "most"]) (by decide)) rfl (Or.inl rfl))) (fun _ _ _ _ _ => cF) (fun _ _ _ _ _ => (jU fw fw (fv 1) (fv 0) (fv 2)))) ad))))), ?_⟩
 walk_at "rd"
 refine cmS (fun _ => True) (fun _ _ _ => trivial) l (fun _ => true) (fun c => .bl (decide (a <= c) && decide (c <= b))) (fun R r => r) hl.1 (uh hl) (fun c _ H R _ r => r) (fun c _ _ H R _ r => ?_) (fun D hD => ?_)
 ·walk_at "rd"
  by_cases h1 : a <= c
  ·simp only [h1, decide_true, Z0] at r |-
   exact r
  ·simp only [h1, decide_false, Bool.false_and] at r |-
   exact r
 ·refine ⟨l.map fun c => decide (a <= c) && decide (c <= b), SqL.of (by rw [aj, pb.mpr (by simp), vD]; rfl), H, Gc.none (az _ hD), ?_⟩
  have e : (l.map fun c => decide (a <= c) && decide (c <= b)).all id = lie l a b := by
   rw [List.all_map]; rfl
  rw [e]; exact k
theorem pR {H : Hp} {x : V} {t : String} (ht : bJ H x = some t) (h : ¬ ∃ l, x = .str ⟨⟨l⟩⟩) : bW t "str" = false := by
 unfold bJ at ht
 split at ht
 case h_4 y => exact absurd ⟨y.cps.toList, rfl⟩ h
 case h_5 => split at ht <;> cases ht <;> decide
 all_goals (cases ht <;> decide)
def okV (x : V) : Prop := ∀ l, x = .str ⟨⟨l⟩⟩ -> ok l
def nm (l : List Nat) : Bool := decide (1 <= l.length) && decide (l.length <= 12) && lie l 97 122
def nameV : V -> Bool
 | .str y => nm (cs y)
 | _ => false
def sp_pZ : Sp := sp1 fun x H Q _ => NoT H /\ okV x /\ asK H x fun _ => Q (.bl (nameV x)) H
theorem rn (T : Txt K mg a) : bg P w K mg base (XE P w) 2 a.oG a.qo ["thing"] sp_pZ := by
 refine T.ik.okG xT (fun vs H Q E h => sp1.len h) (fun cdv A outer s H vs Q E hr h => ?_)
 obtain ⟨x0, rfl, h⟩ := sp1.inv h
 try dsimp only [sp_pZ, sp1] at h
 obtain ⟨hN, ho, h1⟩ := h
 obtain ⟨t, ht, hb, k⟩ := asK.inv h1
 have G_signs_lie := @mT P w K mg base a T
 have b_signs_lie := nz T.fb
 refine ⟨hN, _, (ak (aG (dl (aE (cb K) rfl T.aW aS (FA.pa (aa (fv 0) (aa (dH (v := .ty "str") rfl T.yW uW rfl) ad)))) (dl (jU fw fw ac (aE (dM K) rfl T.iQ fh (FA.pa (aa (fv 0) ad))) ac) (cV (ao G_signs_lie (hr.mono (by decide)) rfl T.pA T.fb.kp b_signs_lie .nil aC (FA.pa (aa (fv 0) (aa (aq [97]) (aa (aq [122]) ad)))))))))), ?_⟩
 by_cases hx : ∃ l, x0 = .str ⟨⟨l⟩⟩
 ·obtain ⟨l, rfl⟩ := hx
  have hl := ho l rfl
  have k' : Q (.bl (nm l)) H := k
  cases ht
  walk_at "rd"
  refine ⟨uh hl, ?_⟩
  split
  ·rename_i h1
   split
   ·rename_i h2
    have e : nm l = lie l 97 122 := by
     unfold nm; rw [decide_eq_true (by walk_at "om"), decide_eq_true (by walk_at "om")]; rfl
    rw [e] at k'
    exact ⟨hN, hl, 97, 122, rfl, rfl, k'⟩
   ·rename_i h2
    have e : nm l = false := by
     unfold nm; rw [decide_eq_false (by walk_at "om" : ¬ l.length <= 12)]; simp
    rw [e] at k'; exact k'
  ·rename_i h1
   have e : nm l = false := by
    unfold nm; rw [decide_eq_false (by walk_at "om" : ¬ 1 <= l.length)]; simp
   rw [e] at k'; exact k'
 ·have e := pR ht hx
  have e2 : nameV x0 = false := by
   cases x0 with
   | str y => exact absurd ⟨y.cps.toList, rfl⟩ hx
   | _ => rfl
  rw [e2] at k
  walk_at "rd"
  simp only [ht]
  rw [e]
  exact vQ k
def cur (l : List Nat) : Bool := decide (l.length = 3) && lie l 65 90
def zY : V -> Bool
 | .str y => cur (cs y)
 | _ => false
theorem Bl {x : V} (h : ¬ ∃ l, x = .str ⟨⟨l⟩⟩) : zY x = false := by
 cases x with
 | str y => exact absurd ⟨y.cps.toList, rfl⟩ h
 | _ => rfl
theorem Cw {x : V} (h : zY x = true) : ∃ l, x = L2.T l /\ cur l = true := by
 cases x with
 | str y => exact ⟨y.cps.toList, rfl, h⟩
 | _ => cases h
def sp_tM : Sp := sp1 fun x H Q _ => NoT H /\ okV x /\ asK H x fun _ => Q (.bl (zY x)) H
theorem rB (T : Txt K mg a) : bg P w K mg base (XE P w) 2 a.hR a.jn ["thing"] sp_tM := by
 refine T.hE.okG qI (fun vs H Q E h => sp1.len h) (fun cdv A outer s H vs Q E hr h => ?_)
 obtain ⟨x0, rfl, h⟩ := sp1.inv h
 try dsimp only [sp_tM, sp1] at h
 have HU := bj hr
 obtain ⟨hN, ho, h1⟩ := h
 obtain ⟨t, ht, hb, k⟩ := asK.inv h1
 have G_signs_lie := @mT P w K mg base a T
 have b_signs_lie := nz T.fb
 refine ⟨hN, _, (ak (aG (dl (aE (cb K) rfl T.aW aS (FA.pa (aa (fv 0) (aa (dH (v := .ty "str") rfl T.yW uW rfl) ad)))) (dl (dF (bV K HU) (aE (dM K) rfl T.iQ fh (FA.pa (aa (fv 0) ad))) ac (a_ _)) (cV (ao G_signs_lie (hr.mono (by decide)) rfl T.pA T.fb.kp b_signs_lie .nil aC (FA.pa (aa (fv 0) (aa (aq [65]) (aa (aq [90]) ad)))))))))), ?_⟩
 by_cases hs : ∃ l, x0 = .str ⟨⟨l⟩⟩
 ·obtain ⟨l, rfl⟩ := hs
  have hl := ho l rfl
  have k' : Q (.bl (cur l)) H := k
  unfold cur at k'
  walk_at "rd"
  refine ⟨uh hl, ?_⟩
  split
  ·rename_i h1
   rw [decide_eq_true (by omega : l.length = 3)] at k'
   exact ⟨hN, hl, 65, 90, rfl, rfl, k'⟩
  ·rename_i h1
   rw [decide_eq_false (by omega : ¬ l.length = 3)] at k'
   exact k'
 ·rw [Bl hs] at k
  walk_at "rd"
  simp only [ht, pR ht hs]
  first | exact k | exact vQ k
def sp_nJ : Sp := sp1 fun x H Q _ => NoT H /\ asK H x fun _ => Q (.bl (amg x (-1000000000000000) 1000000000000000)) H
theorem uP (T : Txt K mg a) : bg P w K mg base (XE P w) 3 a.jz a.ny ["thing"] sp_nJ := by
 refine T.jc.okG vi (fun vs H Q E h => sp1.len h) (fun cdv A outer s H vs Q E hr h => ?_)
 obtain ⟨x0, rfl, h⟩ := sp1.inv h
 try dsimp only [sp_nJ, sp1] at h
 obtain ⟨hN, h1⟩ := h
 have G_is_among := @jw P w K mg base a T
 have b_is_among := jD T.dX
 refine ⟨hN, _, (ak (aG (ao G_is_among (hr.mono (by decide)) rfl T.mD T.dX.kp b_is_among .nil aC (FA.pa (aa (fv 0) (aa (zG ur (ah ju ac ac)) (aa (ah ju ac ac) ad))))))), ?_⟩
 walk_at "rd"
 have e15 : (10 : Int) ^ Z1 15 = 1000000000000000 := by decide +kernel
 rw [e15]
 exact ⟨by decide, by decide, hN, h1⟩
def sp_pf : Sp := sp1 fun x H Q _ => NoT H /\ asK H x fun _ => Q (.bl (amg x 0 4799)) H
theorem wv (T : Txt K mg a) : bg P w K mg base (XE P w) 3 a.l_ a.px ["thing"] sp_pf := by
 refine T.iP.okG wP (fun vs H Q E h => sp1.len h) (fun cdv A outer s H vs Q E hr h => ?_)
 obtain ⟨x0, rfl, h⟩ := sp1.inv h
 try dsimp only [sp_pf, sp1] at h
 obtain ⟨hN, h1⟩ := h
 have G_is_among := @jw P w K mg base a T
 have b_is_among := jD T.dX
 refine ⟨hN, _, (ak (aG (ao G_is_among (hr.mono (by decide)) rfl T.mD T.dX.kp b_is_among .nil aC (FA.pa (aa (fv 0) (aa ac (aa ac ad))))))), ?_⟩
 walk_at "rd"
 exact ⟨hN, h1⟩
def mns (x y : V) : Bool := amg x 0 4799 && amg y 0 4799 && match x, y with
 | .int i, .int j => decide (i <= j) && decide (j < i + 60)
 | _, _ => false
def sp_sY : Sp := sp2 fun x y H Q _ => NoT H /\ asK H x fun _ => asK H y fun _ => Q (.bl (mns x y)) H
theorem rX (T : Txt K mg a) : bg P w K mg base (XE P w) 4 a.iE a.lg ["first", "last"] sp_sY := by
 refine T.iH.okG su (fun vs H Q E h => sp2.len h) (fun cdv A outer s H vs Q E hr h => ?_)
 obtain ⟨x0, x1, rfl, h⟩ := sp2.inv h
 try dsimp only [sp_sY, sp2] at h
 obtain ⟨hN, h1⟩ := h
 obtain ⟨t, ht, hb, h2⟩ := asK.inv h1
 obtain ⟨u, hu, hc, k⟩ := asK.inv h2
 have G_is_month := @wv P w K mg base a T
 have b_is_month := wM T.iP
 refine ⟨hN, _, (ak (aG (dl (ao G_is_month (hr.mono (by decide)) rfl T.qm T.iP.kp b_is_month .nil aC (FA.pa (aa (fv 0) ad))) (dl (ao G_is_month (hr.mono (by decide)) rfl T.qm T.iP.kp b_is_month .nil aC (FA.pa (aa (fv 1) ad))) (cV (jU fw wH (fv 0) (fv 1) (ah aH (fv 0) ac))))))), ?_⟩
 walk_at "rd"
 refine ⟨hN, asK.of ht ?_⟩
 unfold mns at k
 cases e1 : amg x0 0 4799 with
 | false => rw [e1] at k; exact vQ k
 | true =>
 refine BO ⟨hN, asK.of hu ?_⟩
 rw [e1] at k
 cases e2 : amg x1 0 4799 with
 | false => rw [e2] at k; exact vQ k
 | true =>
 rw [e2] at k
 obtain ⟨i, rfl, i0, i1⟩ := mO e1
 obtain ⟨j, rfl, j0, j1⟩ := mO e2
 have k : Q (.bl (decide (i <= j) && decide (j < i + 60))) H := k
 refine BO ?_
 walk_at "rd"
 by_cases h1 : i <= j
 ·rw [decide_eq_true h1] at k
  exact itp h1 k
 ·rw [decide_eq_false h1] at k
  exact itn h1 k
def sp_nc (K : W.Frag) : Sp := sp1 fun x H Q _ => asR x fun p => NoT H /\ ∃ xs, SqL K H p xs /\ xs.length <= 300 /\ (∀ y ∈ xs, okV y /\ ∃ t, bJ H y = some t) /\ Q (.bl (decide (1 <= xs.length) && decide (xs.length <= 6) && xs.all nameV)) H
theorem vv (T : Txt K mg a) : bg P w K mg base (XE P w) 3 a.jH a.nh ["names"] (sp_nc K) := by
 refine T.jN.okG ve (fun vs H Q E h => sp1.len h) (fun cdv A outer s H vs Q E hr h => ?_)
 obtain ⟨x0, rfl, h⟩ := sp1.inv h
 try dsimp only [sp_nc, sp1] at h
 obtain ⟨p, rfl, hN, xs, hS, hl, hx, k⟩ := asR.inv h
 have G_is_name := @rn P w K mg base a T
 have b_is_name := p_ T.ik
 refine ⟨hN, _, (ak (aG (dl (jU fw fw ac (aE (dM K) rfl T.iQ fh (FA.pa (aa (fv 0) ad))) ac) (cV (aE (pO K rfl) rfl T.zq uZ (FA.pa (aa (cB rfl (cl := _) (x := "name") (xs := ["name"]) (fr := []) (ks := []) (by walk_at "cq") rfl (bQ K (fv 0)) (fun _ _ _ _ _ => (aI (i := 0) (dD (l := ["name"]) (by decide)) rfl (Or.inl rfl))) (fun _ _ _ _ _ => cF) (fun _ _ _ _ _ => (ao G_is_name (hr.mono (by decide)) rfl T.tW T.ik.kp b_is_name .nil rS (FA.pa (aa (fv 0) ad))))) ad))))))), ?_⟩
 walk_at "rd"
 refine ⟨xs, .inl hS, ?_⟩
 have sz := szl
 split
 ·rename_i h1
  split
  ·rename_i h2
   have e : (decide (1 <= xs.length) && decide (xs.length <= 6) && xs.all nameV) = xs.all nameV := by
    rw [decide_eq_true (by walk_at "om"), decide_eq_true (by walk_at "om")]; rfl
   rw [e] at k
   refine cmL p xs (fun H' => NoT H' /\ SqL K H' p xs /\ Same H H') (fun D ys hD => ⟨aJ hN rfl, hS.same (az _ hD), az _ hD⟩) (fun H' c => c.2.1) (fun _ => true) (fun x => .bl (nameV x)) (fun R r => r) hS (by walk_at "om") (fun x _ H' R _ r => r) (fun x hx' _ H' R c r => ?_) (fun D hD => ?_)
   ·obtain ⟨o1, t, o2⟩ := hx x hx'
    walk_at "rd"
    exact ⟨c.1, o1, asK.of (ud c.2.2 o2) r⟩
   ·refine ⟨xs.map nameV, SqL.of (by rw [aj, pb.mpr (by simp), vD]; rfl), H, Gc.none (az _ hD), ?_⟩
    rw [List.all_map]; exact k
  ·rename_i h2
   have e : (decide (1 <= xs.length) && decide (xs.length <= 6) && xs.all nameV) = false := by
    rw [decide_eq_false (by walk_at "om" : ¬ xs.length <= 6)]; simp
   rw [e] at k; exact k
 ·rename_i h1
  have e : (decide (1 <= xs.length) && decide (xs.length <= 6) && xs.all nameV) = false := by
   rw [decide_eq_false (by walk_at "om" : ¬ 1 <= xs.length)]; simp
  rw [e] at k; exact k
def qE (l : List Nat) : Bool := decide (1 <= (spN 58 l).length) && decide ((spN 58 l).length <= 6) && (spN 58 l).all nm
def t6 : V -> Bool
 | .str y => qE (cs y)
 | _ => false
def okP (x : V) : Prop := ∀ l, x = .str ⟨⟨l⟩⟩ -> (∀ c ∈ l, c < 128) /\ l.length <= 199
def sp_rf : Sp := sp1 fun x H Q _ => NoT H /\ okP x /\ asK H x fun _ => Q (.bl (t6 x)) H
theorem xY (T : Txt K mg a) : bg P w K mg base (XE P w) 4 a.oq a.rD ["thing"] sp_rf := by
 refine T.oV.okG yB (fun vs H Q E h => sp1.len h) (fun cdv A outer s H vs Q E hr h => ?_)
 obtain ⟨x0, rfl, h⟩ := sp1.inv h
 try dsimp only [sp_rf, sp1] at h
 obtain ⟨hN, ho, h1⟩ := h
 obtain ⟨t, ht, hb, k⟩ := asK.inv h1
 have G_are_names := @vv P w K mg base a T
 have b_are_names := vf T.jN
 refine ⟨hN, _, (ak (aG (dl (aE (cb K) rfl T.aW aS (FA.pa (aa (fv 0) (aa (dH (v := .ty "str") rfl T.yW uW rfl) ad)))) (cV (ao G_are_names (hr.mono (by decide)) rfl T.wC T.jN.kp b_are_names .nil aC (FA.pa (aa (fM K Yj PySem.F.slot_str_split PySem.F.type_str_split AN (fv 0) (FA.pa (aa (aq [58]) ad))) ad))))))), ?_⟩
 by_cases hx : ∃ l, x0 = .str ⟨⟨l⟩⟩
 ·obtain ⟨l, rfl⟩ := hx
  have hl := ho l rfl
  have k' : Q (.bl (qE l)) H := k
  cases ht
  walk_at "rd"
  have sz := szl
  have sl := uy 58 l
  refine ⟨by walk_at "om", fun p hp => ⟨aJ hN rfl, _, SqL.of aj, by rw [zc]; omega, fun y hy => ?_, H, Gc.none (az _ hp), ?_⟩⟩
  ·obtain ⟨q, hq, rfl⟩ := rf.mp hy
   obtain ⟨m1, m2⟩ := pP 58 l q hq
   exact ⟨fun l' e => by cases e; exact ⟨fun c hc => hl.1 c (m2 c hc), by walk_at "om"⟩, _, rfl⟩
  ·have e : (List.map L2.T (spN 58 l)).all nameV = (spN 58 l).all nm := by rw [List.all_map]; rfl
   rw [zc, e]; exact k'
 ·have e := pR ht hx
  have e2 : t6 x0 = false := by
   cases x0 with
   | str y => exact absurd ⟨y.cps.toList, rfl⟩ hx
   | _ => rfl
  rw [e2] at k
  walk_at "rd"
  simp only [ht]
  rw [e]
  exact vQ k
open K17 K3
def sp_nW : Sp := sp2 fun x y H Q _ => NoT H /\ asT x fun l => asT y fun o => o.length <= 1000 /\ Q (.bl (wi l o)) H
theorem uv (T : Txt K mg a) : bg P w K mg base (XE P w) 1 a.jE a.nR ["path", "other"] sp_nW := by
 refine T.jX.okG uw (fun vs H Q E h => sp2.len h) (fun cdv A outer s H vs Q E hr h => ?_)
 obtain ⟨x0, x1, rfl, h⟩ := sp2.inv h
 try dsimp only [sp_nW, sp2] at h
 have HU := bj hr
 obtain ⟨hN, h1⟩ := h
 obtain ⟨l, rfl, h2⟩ := asT.inv h1
 obtain ⟨o, rfl, ho, k⟩ := asT.inv h2
 refine ⟨hN, _, (ak (aG (tY (dF (bV K HU) (fv 0) (fv 1) (a_ _)) (cV (fM K Yj PySem.F.slot_str_startswith PySem.F.type_str_startswith rQ (fv 0) (FA.pa (aa (ah aH (fv 1) (aq [58])) ad))))))), ?_⟩
 walk_at "rd"
 unfold wi at k
 split
 ·rename_i h
  rw [decide_eq_true h] at k; exact k
 ·rename_i h
  rw [decide_eq_false h] at k
  exact ⟨by rw [ue]; omega, k⟩
def sp_nC : Sp := sp1 fun x H Q _ => asI x fun y => NoT H /\ Q (.int (LD y)) H
theorem vk (T : Txt K mg a) : bg P w K mg base (XE P w) 1 a.jV a.m_ ["years"] sp_nC := by
 refine T.gm.okG uU (fun vs H Q E h => sp1.len h) (fun cdv A outer s H vs Q E hr h => ?_)
 obtain ⟨x0, rfl, h⟩ := sp1.inv h
 try dsimp only [sp_nC, sp1] at h
 obtain ⟨y, rfl, hN, k⟩ := asI.inv h
 refine ⟨hN, _, (ak (aG (ah aH (ah cE (ah aP (ah aH (fv 0) ac) ac) (ah aP (ah aH (fv 0) ac) ac)) (ah aP (ah aH (fv 0) ac) ac)))), ?_⟩
 walk_at "rd"
 exact k
theorem qw (xs : List V) {i : Int} (h : 0 <= i) : um xs none (some i) = xs.take i.toNat := by
 unfold um
 have e : i = ((i.toNat : Nat) : Int) := by omega
 rw [e, HT.sIx_none, HT.sIx_nat, List.drop_zero, Nat.sub_zero]
 by_cases hl : i.toNat <= xs.length
 ·rw [Nat.min_eq_left hl]; rfl
 ·rw [Nat.min_eq_right (by omega), qa (by omega), qa (by simp; omega)]
def LEN : List Int := [31, 28, 31, 30, 31, 30, 31, 31, 30, 31, 30, 31]
theorem Bu {i : Int} (h0 : 0 <= i) (h1 : i < 12) : (LEN.take i.toNat).sum = S i := by
 have hc : i = 0 \/ i = 1 \/ i = 2 \/ i = 3 \/ i = 4 \/ i = 5 \/ i = 6 \/ i = 7 \/ i = 8 \/ i = 9 \/ i = 10 \/ i = 11 := by omega
 rcases hc with h | h | h | h | h | h | h | h | h | h | h | h <;> subst h <;> decide
theorem GI (T : Txt K mg a) (H : Hp) : SqT K H a.d6 (LEN.map V.int) := .inr T.d6
def sp_nj : Sp := sp1 fun x H Q _ => asI x fun m => NoT H /\ Q (.int (FD m)) H
theorem m7 (T : Txt K mg a) : bg P w K mg base (XE P w) 2 a.jF a.mM ["month"] sp_nj := by
 refine T.e_.okG nB (fun vs H Q E h => sp1.len h) (fun cdv A outer s H vs Q E hr h => ?_)
 obtain ⟨x0, rfl, h⟩ := sp1.inv h
 try dsimp only [sp_nj, sp1] at h
 have ND := nB.nd
 obtain ⟨m, rfl, hN, k⟩ := asI.inv h
 have G_leap_days := @vk P w K mg base a T
 have b_leap_days := uB T.gm
 refine ⟨hN, _, (af (aK (i := 1) ND rfl (Or.inl rfl) (ah aP (fv 0) ac))
  (af (aK (i := 2) ND rfl (Or.inl rfl) (ah aO (fv 0) ac))
  (af (aK (i := 3) ND rfl (Or.inl rfl) (BR (bE EG (fv 2) ac (a_ _)) (ao G_leap_days (hr.mono (by decide)) rfl T.pd T.gm.kp b_leap_days .nil aC (FA.pa (aa (ah aH (fv 1) ac) ad))) (ao G_leap_days (hr.mono (by decide)) rfl T.pd T.gm.kp b_leap_days .nil aC (FA.pa (aa (fv 1) ad)))))
  (ak (aG (ah aH (ah aH (ah cC ac (fv 1)) (fv 3)) (aE (gJ K rfl) rfl T.ph jf (FA.pa (aa (dC (Eg K) (j9 (v := .ref a.d6) rfl T.Ag rfl) eV (eU (fv 2))) ad))))))))), ?_⟩
 walk_at "rd"
 have b0 : 0 <= m % 12 := ZE _ (by decide)
 have b1 : m % 12 < 12 := ZU _ (by decide)
 have nw : ¬ (HT.sIx (LEN.map V.int).length 0 none = 0 /\ HT.sIx (LEN.map V.int).length (LEN.map V.int).length (some (m % 12)) = (LEN.map V.int).length) := fun ⟨_, z⟩ => by
  have e : m % 12 = (((m % 12).toNat : Nat) : Int) := by omega
  rw [e, HT.sIx_nat] at z
  have l : (LEN.map V.int).length = 12 := rfl
  rw [l] at z
  omega
 have fin : ∀ (p : Addr), (upd H p (.tup (um (LEN.map V.int) none (some (m % 12))))) p = some (.tup ((LEN.take (m % 12).toNat).map V.int)) := fun p => by
  rw [aj, qw _ b0, YO]
 split
 ·rename_i h1
  refine ⟨hN, a.d6, _, rfl, GI T _, nw, fun p hp => ⟨LEN.take (m % 12).toNat, .inr (SqT.of (fin p)), H, Gc.none (az _ hp), ?_⟩⟩
  have e : 365 * (m / 12) + LD (m / 12 + 1) + (LEN.take (m % 12).toNat).sum = FD m := by
   rw [Bu b0 b1]; unfold FD; rw [if_pos h1]
  rw [e]; exact k
 ·rename_i h1
  refine ⟨hN, a.d6, _, rfl, GI T _, nw, fun p hp => ⟨LEN.take (m % 12).toNat, .inr (SqT.of (fin p)), H, Gc.none (az _ hp), ?_⟩⟩
  have e : 365 * (m / 12) + LD (m / 12) + (LEN.take (m % 12).toNat).sum = FD m := by
   rw [Bu b0 b1]; unfold FD; rw [if_neg h1]
  rw [e]; exact k
def sp_pb : Sp := sp1 fun x H Q _ => asI x fun m => NoT H /\ Q (.int (FD (m + 1) - 1)) H
theorem vR (T : Txt K mg a) : bg P w K mg base (XE P w) 3 a.lU a.py ["month"] sp_pb := by
 refine T.mm.okG vX (fun vs H Q E h => sp1.len h) (fun cdv A outer s H vs Q E hr h => ?_)
 obtain ⟨x0, rfl, h⟩ := sp1.inv h
 try dsimp only [sp_pb, sp1] at h
 obtain ⟨m, rfl, hN, k⟩ := asI.inv h
 have G_first_day := @m7 P w K mg base a T
 have b_first_day := mR T.e_
 refine ⟨hN, _, (ak (aG (ah cE (ao G_first_day (hr.mono (by decide)) rfl T.o6 T.e_.kp b_first_day .nil aC (FA.pa (aa (ah aH (fv 0) ac) ad))) ac))), ?_⟩
 walk_at "rd"
 exact ⟨hN, k⟩
open K5
theorem Fx {b : Int} (h0 : 0 < b) (h : b < 10 ^ 60) : b.natAbs.log2 < 1000 := by
 have h1 : b.natAbs ≠ 0 := by omega
 refine (Nat.log2_lt h1).mpr (tN (show b.natAbs < 10 ^ 60 by omega) (by decide))
def wOk (xs : List V) : Bool := decide (1 <= xs.length) && decide (xs.length <= 60) && xs.all (fun x => amg x 0 1000000000) && decide (0 < (xs.map fun x => match x with | .int i => i | _ => 0).sum)
def sp_qK : Sp := sp1 fun x H Q _ => NoT H /\ ((∃ p xs, x = .ref p /\ H p = some (.lst xs) /\ xs.length <= 4000 /\ (∀ y ∈ xs, ∃ t, bJ H y = some t) /\ Q (.bl (wOk xs)) H) \/ (∃ t, bJ H x = some t /\ bW t "list" = false /\ Q (.bl false) H))
theorem yK {xs : List V} (h : xs.all (fun x => amg x 0 1000000000) = true) : ∃ ws : List Int, xs = ws.map V.int /\ ∀ w ∈ ws, 0 <= w /\ w <= 1000000000 := by
 induction xs with
 | nil => exact ⟨[], rfl, by simp⟩
 | cons x xs ih =>
  rw [List.all_cons, sW] at h
  obtain ⟨ws, e, b⟩ := ih h.2
  have h1 := h.1
  unfold amg at h1
  split at h1
  ·rename_i i
   simp at h1
   refine ⟨i :: ws, by rw [e]; rfl, fun w m => ?_⟩
   rcases ze.mp m with rfl | m
   ·exact h1
   ·exact b w m
  ·cases h1
theorem u0 (ws : List Int) : ((ws.map V.int).map fun x => match x with | .int i => i | _ => 0).sum = ws.sum := by
 rw [vD]
 congr 1
 exact List.map_id' ws
theorem qV (T : Txt K mg a) : bg P w K mg base (XE P w) 3 a.gZ a.jB ["thing"] sp_qK := by
 refine T.hG.okG qH (fun vs H Q E h => sp1.len h) (fun cdv A outer s H vs Q E hr h => ?_)
 obtain ⟨x0, rfl, h⟩ := sp1.inv h
 try dsimp only [sp_qK, sp1] at h
 obtain ⟨hN, h1⟩ := h
 have G_is_among := @jw P w K mg base a T
 have b_is_among := jD T.dX
 refine ⟨hN, _, (af (bz (L2.PW.pt (pv (b8 (b_ (aE (cb K) rfl T.aW aS (FA.pa (aa (fv 0) (aa (dH (v := .ty "list") rfl T.vB pN rfl) ad)))))) (lq (b8 (qB fw fw ac (aE (dM K) rfl T.iQ fh (FA.pa (aa (fv 0) ad))) ac))))) (ak (aG fW)) aV)
  (ak (aG (dl (aE (pO K rfl) rfl T.zq uZ (FA.pa (aa (cB rfl (cl := _) (x := "weight") (xs := ["weight"]) (fr := []) (ks := []) (by walk_at "cq") rfl (bQ K (fv 0)) (fun _ _ _ _ _ => (aI (i := 0) (dD (l := ["weight"]) (by decide)) rfl (Or.inl rfl))) (fun _ _ _ _ _ => cF) (fun _ _ _ _ _ => (ao G_is_among (hr.mono (by decide)) rfl T.mD T.dX.kp b_is_among .nil rS (FA.pa (aa (fv 0) (aa ac (aa (ah ju ac ac) ad))))))) ad))) (cV (dF EG (aE (gJ K rfl) rfl T.ph jf (FA.pa (aa (fv 0) ad))) ac (a_ _))))))), ?_⟩
 walk_at "rd"
 rcases h1 with ⟨p, xs, rfl, hp, hz, hk, k⟩ | ⟨t, ht, hl, k⟩
 ·have ht : bJ H (.ref p) = some "list" := by simp [bJ, hp]
  simp only [ht]
  rw [if_neg (by decide)]
  refine ⟨xs, .inl (.inl (.inl hp)), ?_⟩
  have sz : xs.length <= sizeLine := qM hz (by rw [ue]; decide)
  walk_at "rd"
  have no : (decide (1 <= xs.length) && decide (xs.length <= 60)) = false -> Q (.bl false) H := fun z => by unfold wOk at k; rw [z] at k; exact k
  split
  ·rename_i c1
   split
   ·rename_i c2
    refine cmL p xs (fun H2 => Same H H2 /\ NoT H2) (fun D ys hD => ⟨az _ hD, aJ hN rfl⟩) (fun H2 c => .inl (.inl (c.1 _ _ hp))) (fun _ => true) (fun x => .bl (amg x 0 1000000000)) (fun R r => r) (.inl (.inl hp)) sz (fun x _ H2 R _ r => r) (fun x hx _ H2 R c r => ?_) (fun D hD => ?_)
    ·walk_at "rd"
     obtain ⟨t, ht⟩ := hk x hx
     exact ⟨by decide, c.2, asK.of (ud c.1 ht) r⟩
    ·rw [pb.mpr (fun _ _ => rfl)]
     refine ⟨xs.map fun x => amg x 0 1000000000, .inl (.inl (by rw [aj, vD]; rfl)), ?_⟩
     have sm := az (.lst (xs.map fun x => V.bl (amg x 0 1000000000))) hD
     have el : (decide (1 <= xs.length) && decide (xs.length <= 60)) = true := by simp; omega
     walk_at "rd"
     unfold wOk at k
     rw [el, Z0] at k
     rw [show ((xs.map fun x => amg x 0 1000000000).all id) = xs.all (fun x => amg x 0 1000000000) by rw [List.all_map]; rfl]
     split
     ·rename_i c3
      rw [c3, Z0] at k
      obtain ⟨ws, rfl, _⟩ := yK c3
      rw [u0] at k
      exact ⟨ws, .inl (.inl (.inl (sm _ _ hp))), H, Gc.none sm, k⟩
     ·rename_i c3
      rw [Bool.eq_false_iff.mpr c3, Bool.false_and] at k
      exact ⟨H, Gc.none sm, k⟩
   ·rename_i c2
    exact no (by simp; omega)
  ·rename_i c1
   exact no (by simp; omega)
 ·simp only [ht, hl]
  exact k
theorem AY {K : W.Frag} {b : Addr} {rs : List Int} {σ : St} {H H1 : Hp} {Q : VK} {ta : TA} (hl : ∀ R : List V -> Hp -> Prop, R [.ref b] H1 -> ta σ H R) (hb : H1 b = some (.lst (rs.map V.int))) (hz : rs.length <= 60)
 (q : ∀ D H' (ps : List Pr), H1 D = none -> (∀ c o, H1 c = some o -> H' c = some o) -> H' D = some (.lst (ps.map fun e => .ref e.1)) -> (∀ e ∈ ps, H' e.1 = some (.tup [.int e.2.1, .int e.2.2])) ->
  ps.map (·.2) = rs.zipIdx.map (fun z => (-z.1, (z.2 : Int))) -> Q (.ref D) H') :
 gX (EH K ta) 2 (Dg K 2 (yR (ii 0) (yR (ii 1) Gm))) [] (fun _ H Q => Q true H) (E7 (wG (tUn Dx (Ct 1)) (wG (Ct 0) zR))) σ H Q := by
 refine hl _ ⟨b, rfl, ⟨_, .inl (.inl hb)⟩, fun D hD => ⟨fun i m ys H2 => i <= rs.length /\ m = rs.length - i /\ H2 D = some (.lst ys) /\ (∀ c o, H1 c = some o -> H2 c = some o) /\
  ∃ ps : List Pr, ys = ps.map (fun e => .ref e.1) /\ ps.length = i /\ (∀ e ∈ ps, H2 e.1 = some (.tup [.int e.2.1, .int e.2.2])) /\ ps.map (·.2) = (rs.zipIdx.take i).map (fun z => (-z.1, (z.2 : Int))), ⟨_, o3 _, rfl, aj, fun c o e => (ar (fun z => by rw [z, hD] at e; cases e)).trans e, [], rfl, rfl, (fun _ m => nomatch m), rfl⟩, ?_⟩⟩
 rintro i m ys H2 ⟨hi, rfl, hD2, kp, ps, rfl, hp, ht, hv⟩
 refine ⟨hD2, ?_⟩
 have hb2 := kp _ _ hb
 by_cases lt : i < rs.length
 ·refine .inr ⟨⟨_, .int rs[i], .inl (.inl hb2), by simp [lt]⟩, fun x H3 hy zs hzs => ?_⟩
  obtain ⟨p, y, p0, rfl, rfl, hy⟩ := hy
  have ey : y = .int rs[i] := by
   have := hy _ (.inl (.inl hb2))
   simp [lt] at this
   exact this.symm
  subst ey
  refine ⟨p, _, rfl, .inl (.inl aj), rfl, ?_⟩
  match zs, hzs with
  | [z0, z1], _ =>
   refine ⟨_, _, rfl, _, _, rfl, rfl, ⟨[some (.int i), some (.int rs[i])], rfl, rfl⟩, ?_⟩
   dsimp only
   rw [if_pos rfl]
   walk_at "rd"
   refine ⟨by rw [ue]; decide, fun p2 hp2 => ?_⟩
   have n1 : D ≠ p := fun z => by rw [<- z, hD2] at p0; cases p0
   have n2 : p2 ≠ p := fun z => by rw [z, aj] at hp2; cases hp2
   rw [ar n2] at hp2
   have n3 : D ≠ p2 := fun z => by rw [<- z, hD2] at hp2; cases hp2
   have at2 : ∀ c o, H2 c = some o -> upd (upd H2 p (.tup [.int i, .int rs[i]])) p2 (.tup [.int (-rs[i]), .int i]) c = some o := fun c o e => by
    rw [ar (fun z => by rw [z, hp2] at e; cases e), ar (fun z => by rw [z, p0] at e; cases e)]; exact e
   refine ⟨at2 _ _ hD2, by rw [zc, ue]; omega, rs.length - (i + 1), by omega, by omega, rfl, aj, fun c o e => ?_, ps ++ [((p2, -rs[i], (i : Int)) : Pr)], by simp, by simp [hp], fun e m => ?_, ?_⟩
   ·rw [ar (fun z => by rw [z, hD] at e; cases e)]
    exact at2 c o (kp c o e)
   ·rcases tD.mp m with m | m
    ·have h := ht e m
     rw [ar (fun z => by rw [z, hD2] at h; cases h)]
     exact at2 _ _ h
    ·rw [zr.mp m, ar (Ne.symm n3)]
     exact aj
   ·rw [sY, hv, ZQ, sY]
    congr 1
    simp [lt]
 ·have e : i = rs.length := by omega
  subst e
  refine .inl ⟨⟨_, .inl (.inl hb2), by simp⟩, q D H2 ps hD kp hD2 ht ?_⟩
  rw [hv, qa (by simp)]
def prI : V -> Int
 | .int i => i
 | _ => 0
theorem zo (g : Int -> Int) (ws : List Int) : ((ws.map V.int).filter fun _ => true).map (fun x => V.int (g (prI x))) = (ws.map g).map V.int := by
 rw [pb.mpr (fun _ _ => rfl), vD, vD]
 rfl
theorem zL {xs : List V} (h : wOk xs = true) : ∃ ws : List Int, xs = ws.map V.int /\ (∀ w ∈ ws, 0 <= w /\ w <= 1000000000) /\ 1 <= ws.length /\ ws.length <= 60 /\ 0 < ws.sum := by
 unfold wOk at h
 simp only [sW, decide_eq_true_eq] at h
 obtain ⟨⟨⟨h1, h2⟩, h3⟩, h4⟩ := h
 obtain ⟨ws, rfl, b⟩ := yK h3
 rw [u0] at h4
 rw [zc] at h1 h2
 exact ⟨ws, rfl, b, h1, h2, h4⟩
theorem Cc : ∀ {ws : List Int}, (∀ w ∈ ws, 0 <= w /\ w <= 1000000000) -> ws.sum <= 1000000000 * ws.length
 | [], _ => by simp
 | w :: ws, h => by
  have := Cc (ws := ws) fun z m => h z (tj _ m)
  have := (h w (Zm ..)).2
  rw [Zn, sX]; omega
def pl (e : Pr) : Nat := e.2.2.toNat
structure PsOk (am : Int) (ws : List Int) (ps : List Pr) : Prop where
 val : ∀ e ∈ ps, e.2 = (-rs am ws.sum (ws.getD (pl e) 0), (pl e : Int)) /\ pl e < ws.length
 pls : ps.map pl = xp ws.length
theorem De {am : Int} {ws : List Int} {ps : List Pr} (h : ps.map (·.2) = (ws.map (rs am ws.sum)).zipIdx.map (fun z => (-z.1, (z.2 : Int)))) : PsOk am ws ps := by
 have len : ps.length = ws.length := by have := congrArg ZN h; simpa using this
 have at_ : ∀ i (h1 : i < ps.length) (h2 : i < ws.length), ps[i].2 = (-rs am ws.sum ws[i], (i : Int)) := fun i h1 h2 => by
  have := congrArg (fun l => l[i]?) h
  simp [h1, h2] at this
  rw [this]
 constructor
 ·intro e m
  obtain ⟨i, hi, rfl⟩ := List.getElem_of_mem m
  have h2 : i < ws.length := by omega
  have e1 := at_ i hi h2
  have e2 : pl ps[i] = i := by unfold pl; rw [e1]; simp
  rw [e2, e1]
  exact ⟨by simp [h2], h2⟩
 ·apply List.ext_getElem
  ·simp [len]
  ·intro i h1 h2
   have h1' : i < ps.length := by simpa using h1
   simp
   unfold pl; rw [at_ i h1' (by omega)]; simp
theorem PsOk.cod {am : Int} {ws : List Int} {ps : List Pr} (h : PsOk am ws ps) {e : Pr} (m : e ∈ ps) : L2.cod e = K5.cod am ws (pl e) := by
 have := (h.val e m).1
 show e.2.1 * 64 + e.2.2 = _
 rw [this]; rfl
theorem PsOk.nodup {am : Int} {ws : List Int} {ps : List Pr} (h : PsOk am ws ps) (h60 : ws.length <= 60) : (ps.map L2.cod).Nodup := by
 have e : ps.map L2.cod = (xp ws.length).map (K5.cod am ws) := by
  rw [<- h.pls, vD]
  exact Zr fun e m => h.cod m
 rw [e]
 exact List.pairwise_map.mpr ((List.Pairwise.and_mem.mp Yp).imp fun ⟨ma, mb, ne⟩ z => ne (zH h60 _ _ (ZW.mp ma) (ZW.mp mb) z))
def F (am : Int) (ws : List Int) (sv : List Nat) : List Int := (xp ws.length).map fun j => pt am ws.sum (ws.getD j 0) + if j ∈ sv then 1 else 0
theorem He (am : Int) (ws : List Int) : F am ws [] = ws.map (pt am ws.sum) := by
 unfold F
 simp only [yU, if_false, Int.add_zero]
 exact jj _ ws
theorem CJ (am : Int) (ws : List Int) (sv : List Nat) : (F am ws sv).length = ws.length := by unfold F; simp
theorem HA {am : Int} {ws : List Int} {sv : List Nat} {j : Nat} (h : j < ws.length) (h2 : j ∉ sv) : (F am ws sv)[j]? = some (pt am ws.sum (ws.getD j 0)) := by
 unfold F; simp [h, h2]
theorem GT {am : Int} {ws : List Int} {sv : List Nat} {j : Nat} (h : j < ws.length) (h2 : j ∉ sv) : (F am ws sv).set j (pt am ws.sum (ws.getD j 0) + 1) = F am ws (sv ++ [j]) := by
 apply List.ext_getElem
 ·simp [CJ]
 ·intro i h1 h3
  have hi : i < ws.length := by simpa [CJ] using h1
  rw [List.getElem_set]
  unfold F
  by_cases e : j = i
  ·subst e; simp
  ·simp [e, Ne.symm e]
def sp_ue (c : Addr) : Sp := sp2 fun x y H Q E => NoT H /\ asI x fun am => (-(10 : Int) ^ 31 < am /\ am < 10 ^ 31) /\ ((∃ p xs, y = .ref p /\ H p = some (.lst xs) /\ xs.length <= 4000 /\ (∀ z ∈ xs, ∃ t, bJ H z = some t) /\
 (if wOk xs = true then ∀ ws, xs = ws.map V.int -> ∀ q, H q = none -> Q (.ref q) (upd H q (.lst ((kt am ws).map V.int))) else E (.ref c) none H)) \/ (∃ t, bJ H y = some t /\ bW t "list" = false /\ E (.ref c) none H))
theorem zZ (T : Txt K mg a) : bg P w K mg base (XE P w) 4 a.qA a.tR ["amount", "weights"] (sp_ue a.iB) := by
 refine T.qQ.okG ua (fun vs H Q E h => sp2.len h) (fun cdv A outer s H vs Q E hr h => ?_)
 obtain ⟨x0, x1, rfl, h⟩ := sp2.inv h
 try dsimp only [sp_ue, sp2] at h
 have ND := ua.nd
 obtain ⟨hN, h1⟩ := h
 obtain ⟨am, rfl, ⟨am0, am1⟩, h2⟩ := asI.inv h1
 have one : 1 <= sizeLine := by rw [ue]; decide
 have G_are_weights := @qV P w K mg base a T
 have b_are_weights := rP T.hG
 refine ⟨hN, _, (af (bz (b8 (b_ (ao G_are_weights (hr.mono (by decide)) rfl T.sT T.hG.kp b_are_weights .nil aC (FA.pa (aa (fv 1) ad))))) (ak (d8 T.rR pf rfl rfl T.qX fJ (FA.pa (aa (aq [116, 104, 101, 115, 101, 32, 97, 114, 101, 32, 110, 111, 32, 119, 101, 105, 103, 104, 116, 115]) ad)))) aV)
  (af (aK (i := 2) ND rfl (Or.inr rfl) (aE (gJ K rfl) rfl T.ph jf (FA.pa (aa (fv 1) ad))))
  (af (ic (i0 := 3) ND rfl (Or.inl rfl) rfl (cl := _) (x := "weight") (xs := ["weight"]) (fr := ["whole", "amount"]) (ks := [2, 0]) (by walk_at "cq") rfl (bQ K (fv 1)) (fun _ _ _ _ _ => (aI (i := 0) (dD (l := ["weight", "whole", "amount"]) (by decide)) rfl (Or.inl rfl))) (fun _ _ _ _ _ => cF) (fun _ _ _ _ _ => (ah CA (ah cC (fv 2) (fv 0)) (fv 1))))
  (af (ic (i0 := 4) ND rfl (Or.inl rfl) rfl (cl := _) (x := "weight") (xs := ["weight"]) (fr := ["whole", "amount"]) (ks := [2, 0]) (by walk_at "cq") rfl (bQ K (fv 1)) (fun _ _ _ _ _ => (aI (i := 0) (dD (l := ["weight", "whole", "amount"]) (by decide)) rfl (Or.inl rfl))) (fun _ _ _ _ _ => cF) (fun _ _ _ _ _ => (ah aO (ah cC (fv 2) (fv 0)) (fv 1))))
  (af (aK (i := 5) ND rfl (Or.inl rfl) (ah cE (fv 0) (aE (gJ K rfl) rfl T.ph jf (FA.pa (aa (fv 3) ad)))))
  (af (aK (i := 6) ND rfl (Or.inl rfl) (dC (xm K) (aE (BW K) rfl T.qN oJ (FA.pa (aa (cB rfl (cl := _) (x := "place") (xs := ["place", "rest"]) (fr := []) (ks := []) (by walk_at "cq") rfl (Df K rfl T.pw (FA.pa (aa (fv 4) ad))) (fun _ _ _ _ _ => (iM K (n := 2) rfl (ba (aI (i := 0) (dD (l := ["place", "rest"]) (by decide)) rfl (Or.inl rfl)) (ba (aI (i := 1) (dD (l := ["place", "rest"]) (by decide)) rfl (Or.inl rfl)) gR)))) (fun _ _ _ _ _ => cF) (fun _ _ _ _ _ => (dQ (FA.pa (aa (zG ur (fv 1)) (aa (fv 0) ad)))))) ad))) eV (eU (fv 5))))
  (af (eh (by passes_own) rfl (bQ K (fv 6)) (iM K (n := 2) rfl (ba (aI (i := 7) ND rfl (Or.inl rfl)) (ba (aI (i := 8) ND rfl (Or.inl rfl)) gR))) (ak (iz (ah aH (aX (aD K) (fv 3) (fv 8) (fun _ _ => rfl)) ac) (n9 (fv 3) (fv 8) il))))
  (ak (aG (fv 3)))))))))), ?_⟩
 walk_at "rd"
 rcases h2 with ⟨p, xs, rfl, hp, hz, hk, k⟩ | ⟨t, ht, hl, k⟩
 ·refine ⟨hN, .inl ⟨p, xs, rfl, hp, hz, hk, ?_⟩⟩
  split
  ·rename_i c
   rw [if_neg (by rw [c]; decide)] at k
   exact ⟨one, k⟩
  ·rename_i c
   have c : wOk xs = true := by simpa using c
   rw [if_pos c] at k
   obtain ⟨ws, rfl, wb, w1, w60, wS⟩ := zL c
   replace k := k ws rfl
   have wL := Cc wb
   have sz : (ws.map V.int).length <= sizeLine := by rw [zc, ue]; omega
   refine ⟨ws, .inl (.inl (.inl hp)), ?_⟩
   refine cmL p (ws.map V.int) (fun H2 => Same H H2) (fun D ys hD => az _ hD) (fun H2 c => .inl (.inl (c _ _ hp))) (fun _ => true) (fun x => .int (pt am ws.sum (prI x))) (fun R r => r) (.inl (.inl hp)) sz (fun x _ H2 R _ r => r) (fun x hx _ H2 R c r => ?_) (fun D1 hD1 => ?_)
   ·obtain ⟨w, mw, rfl⟩ := rf.mp hx
    have := wb w mw
    walk_at "rd"
    exact ⟨.inr ⟨by omega, by omega⟩, ⟨wS, Fx wS (by omega)⟩, r⟩
   rw [zo (pt am ws.sum)]
   have s1 := az (.lst ((ws.map (pt am ws.sum)).map V.int)) hD1
   have e1 : upd H D1 (.lst ((ws.map (pt am ws.sum)).map V.int)) D1 = some (.lst ((ws.map (pt am ws.sum)).map V.int)) := aj
   generalize upd H D1 (.lst ((ws.map (pt am ws.sum)).map V.int)) = H1 at s1 e1
   refine cmL p (ws.map V.int) (fun H2 => Same H1 H2) (fun D ys hD => az _ hD) (fun H2 c => .inl (.inl (c _ _ (s1 _ _ hp)))) (fun _ => true) (fun x => .int (rs am ws.sum (prI x))) (fun R r => r) (.inl (.inl (s1 _ _ hp))) sz (fun x _ H2 R _ r => r) (fun x hx _ H2 R c r => ?_) (fun D2 hD2 => ?_)
   ·obtain ⟨w, mw, rfl⟩ := rf.mp hx
    have := wb w mw
    walk_at "rd"
    exact ⟨.inr ⟨by omega, by omega⟩, wS, r⟩
   rw [zo (rs am ws.sum)]
   have s2 := az (.lst ((ws.map (rs am ws.sum)).map V.int)) hD2
   have e2 : upd H1 D2 (.lst ((ws.map (rs am ws.sum)).map V.int)) D2 = some (.lst ((ws.map (rs am ws.sum)).map V.int)) := aj
   generalize upd H1 D2 (.lst ((ws.map (rs am ws.sum)).map V.int)) = H2 at s2 e2
   refine ⟨_, .inl (.inl (.inl (s2 _ _ e1))), ?_⟩
   walk_at "rd"
   refine AY (rs := ws.map (rs am ws.sum)) (fun R r => r) e2 (by rw [zc]; exact w60) (fun D3 H3 ps hD3 s3 e3 tp vp => ?_)
   have po := De vp
   have same : Same H H3 := fun c o e => s3 _ _ (s2 _ _ (s1 _ _ e))
   have eD1 := s3 _ _ (s2 _ _ e1)
   have lps : ps.length = ws.length := by have := congrArg ZN po.pls; simpa using this
   obtain ⟨n0, n1⟩ := EF am ws wS
   refine ⟨ps, .inl (.inl e3), fun e m => .inl (.inl (tp e m)), by omega, fun e m => ?_, po.nodup w60, fun out pm sr L hL => ?_⟩
   ·have := po.val e m
    rw [this.1]; constructor
    ·show (0 : Int) <= (pl e : Nat); omega
    ·show ((pl e : Nat) : Int) < 64; omega
   have lo : out.length = ws.length := by rw [pm.length_eq, lps]
   have pp : (out.map pl).Perm (xp ws.length) := by rw [<- po.pls]; exact pm.map pl
   have ps' : (out.map pl).Pairwise fun i j => K5.cod am ws i < K5.cod am ws j := List.pairwise_map.mpr ((List.Pairwise.and_mem.mp sr).imp fun ⟨ma, mb, z⟩ => by
    rw [po.cod (pm.mem_iff.mp ma), po.cod (pm.mem_iff.mp mb)] at z; exact z)
   have nd : (out.map pl).Nodup := pp.nodup_iff.mpr Yp
   have s4 := az (.lst (out.map fun e => V.ref e.1)) hL
   have e4 : upd H3 L (.lst (out.map fun e => V.ref e.1)) L = some (.lst (out.map fun e => V.ref e.1)) := aj
   generalize upd H3 L (.lst (out.map fun e => V.ref e.1)) = H4 at s4 e4
   dsimp only
   refine ⟨L, _, rfl, .inl (.inl e4), fun L2 hL2 => ?_⟩
   have nL : L2 ≠ D1 := fun z => by rw [z, s4 _ _ eD1] at hL2; cases hL2
   rw [qw _ (show 0 <= am - (ws.map (pt am ws.sum)).sum from n0)]
   rw [<- YO]
   have s5 := az (.lst ((out.take (am - (ws.map (pt am ws.sum)).sum).toNat).map fun e => V.ref e.1)) hL2
   have e5 : upd H4 L2 (.lst ((out.take (am - (ws.map (pt am ws.sum)).sum).toNat).map fun e => V.ref e.1)) L2 = some (.lst ((out.take (am - (ws.map (pt am ws.sum)).sum).toNat).map fun e => V.ref e.1)) := aj
   generalize upd H4 L2 (.lst ((out.take (am - (ws.map (pt am ws.sum)).sum).toNat).map fun e => V.ref e.1)) = H5 at s5 e5
   have fin : F am ws ((out.map pl).take (wn am ws).toNat) = kt am ws := by
    unfold F kt
    refine Zr fun j mj => ?_
    simp only [Cm pp ps' (ZW.mp mj)]
   rw [<- YO] at fin
   have sub : ∀ e ∈ out.take (wn am ws).toNat, e ∈ ps := fun e m => pm.mem_iff.mp (ZI m)
   have nd2 : ((out.take (wn am ws).toNat).map pl).Nodup := by rw [YO]; exact nd.sublist (List.take_sublist _ _)
   have t5 : ∀ e ∈ out.take (wn am ws).toNat, H5 e.1 = some (.tup [.int e.2.1, .int e.2.2]) := fun e m => s5 _ _ (s4 _ _ (tp e (sub e m)))
   have eD5 : H5 D1 = some (.lst ((F am ws []).map V.int)) := by rw [He]; exact s5 _ _ (s4 _ _ eD1)
   have same5 : Same H H5 := fun c o e => s5 _ _ (s4 _ _ (same _ _ e))
   change H5 L2 = some (.lst ((out.take (wn am ws).toNat).map fun e => V.ref e.1)) at e5
   generalize out.take (wn am ws).toNat = S at fin sub nd2 t5 e5
   clear pp ps' nd s4 e4 s5 lo
   refine jP (xs := S.map fun e => V.ref e.1) (.inl (.inl e5)) ⟨fun i m σ' H' => i <= S.length /\ m = S.length - i /\ (∃ y7 y8, σ' = [some (V.int am), some (V.ref p), some (V.int ws.sum), some (V.ref D1), some (V.ref D2), some (V.int (am - (ws.map (pt am ws.sum)).sum)), some (V.ref L2), y7, y8]) /\
    H' D1 = some (.lst ((F am ws ((S.take i).map pl)).map V.int)) /\ ∀ b, b ≠ D1 -> H' b = H5 b, ⟨_, o3 _, rfl, ⟨_, _, rfl⟩, eD5, fun _ _ => rfl⟩, ?_⟩
   rintro i m σ' H' ⟨hi, rfl, ⟨y7, y8, rfl⟩, hF, hO⟩
   by_cases lt : i < S.length
   ·have mS : S[i] ∈ S := List.getElem_mem lt
    have hv := po.val _ (sub _ mS)
    have tS := t5 _ mS
    have nS : S[i].1 ≠ D1 := fun z => by rw [z, eD5] at tS; cases tS
    rw [hv.1] at tS
    have hl2 : H' L2 = some (.lst (S.map fun e => V.ref e.1)) := (hO _ nL).trans e5
    have tk : S.take (i + 1) = S.take i ++ [S[i]] := by rw [ZQ, List.getElem?_eq_getElem lt]; rfl
    have nm : pl S[i] ∉ (S.take i).map pl := fun z => by
     have q : (S.take (i + 1)).map pl = (S.take i).map pl ++ [pl S[i]] := by rw [tk, sY]; rfl
     have q2 : ((S.take (i + 1)).map pl).Nodup := by rw [YO]; exact nd2.sublist (List.take_sublist _ _)
     rw [q] at q2
     exact (List.nodup_append.mp q2).2.2 _ z _ (zr.mpr rfl) rfl
    refine .inr ⟨⟨_, .ref S[i].1, .inl (.inl hl2), by simp [lt]⟩, fun σ2 H2' => (∃ y7 y8, σ2 = [some (V.int am), some (V.ref p), some (V.int ws.sum), some (V.ref D1), some (V.ref D2), some (V.int (am - (ws.map (pt am ws.sum)).sum)), some (V.ref L2), y7, y8]) /\
     H2' D1 = some (.lst ((F am ws ((S.take (i + 1)).map pl)).map V.int)) /\ ∀ b, b ≠ D1 -> H2' b = H5 b, fun σ2 H2' q => ⟨S.length - (i + 1), by omega, by omega, rfl, q⟩, fun x H2' hy => ?_⟩
    obtain ⟨rfl, hy⟩ := hy
    have ex : x = .ref S[i].1 := by
     have := hy _ (.inl (.inl hl2))
     simp [lt] at this
     exact this.symm
    subst ex
    refine ⟨_, _, rfl, .inl (.inl ((hO _ nS).trans tS)), rfl, _, _, rfl, _, _, rfl, rfl, ?_⟩
    walk_at "rd"
    have lF : ((F am ws ((S.take i).map pl)).map V.int).length = ws.length := by rw [zc, CJ]
    refine ⟨_, _, .inl (.inl (.inl hF)), a9 (by rw [List.getElem?_map, HA hv.2 nm]; rfl), ?_⟩
    walk_at "rd"
    refine ⟨D1, _, _, pl S[i], rfl, rfl, hF, ?_, ⟨_, _, rfl, rfl⟩, ?_, fun b hb => ?_⟩
    ·rw [lF]; unfold ixN
     rw [if_pos (by omega), if_pos (by have := hv.2; omega)]; rfl
    ·rw [aj, tk, sY, <- List.map_set, GT hv.2 nm]; rfl
    ·rw [ar hb]; exact hO b hb
   ·have e : i = S.length := by omega
    subst e
    rw [qa (zM _), fin] at hF
    refine .inl ⟨⟨_, .inl (.inl ((hO _ nL).trans e5)), by simp⟩, ?_⟩
    walk_at "rd"
    have sm : Same H H' := fun c o q => (hO c (fun z => by rw [z, hD1] at q; cases q)).trans (same5 _ _ q)
    exact ⟨_, Gc.one sm hD1 hF rfl, k D1 hD1⟩
 ·exact ⟨hN, .inr ⟨t, ht, hl, one, k⟩⟩
open K5
def Keep (S : List Addr) (H H' : Hp) : Prop := ∀ c z, H c = some z -> c ∉ S -> H' c = some z
theorem Keep.refl {S : List Addr} {H : Hp} : Keep S H H := fun _ _ e _ => e
theorem Keep.trans {S : List Addr} {H H1 H2 : Hp} (x : Keep S H H1) (y : Keep S H1 H2) : Keep S H H2 := fun c z e n => y c z (x c z e n) n
theorem Keep.mono {S S' : List Addr} {H H' : Hp} (x : Keep S H H') (h : ∀ c, c ∈ S -> c ∈ S') : Keep S' H H' := fun c z e n => x c z e fun m => n (h c m)
theorem Keep.new {S : List Addr} {H H1 : Hp} {p : Addr} {o : HO} (x : Keep S H H1) (h : H1 p = none) : Keep S H (upd H1 p o) := fun c z e n => by
 rw [ar (ai (x c z e n) h)]; exact x c z e n
theorem Keep.put {S : List Addr} {H H1 : Hp} {p : Addr} {o : HO} (x : Keep S H H1) (h : p ∈ S) : Keep S H (upd H1 p o) := fun c z e n => by
 rw [ar (by rintro rfl; exact n h)]; exact x c z e n
theorem Keep.same {S : List Addr} {H H' : Hp} (x : Same H H') : Keep S H H' := fun c z e _ => x c z e
theorem Keep.free {S : List Addr} {H H' : Hp} {p : Addr} (x : Keep S H H') (h : H' p = none) (n : p ∉ S) : H p = none := by
 cases e : H p with
 | none => rfl
 | some z => rw [x p z e n] at h; cases h
theorem cW {H : Hp} {p q : Addr} {x y : HO} (h : H p = some x) (g : H q = some y) (n : x ≠ y := by intro z; cases z) : p ≠ q := by
 rintro rfl; rw [h] at g; cases g; exact n rfl
def Kd (H : Hp) (x : V) : Prop := ∃ t, bJ H x = some t
theorem bq {H : Hp} {p : Addr} {o : HO} (h : H p = none) (n : NoT H) (ho : oC o = true) : ∃ H1, upd H p o = H1 /\ Same H H1 /\ H1 p = some o /\ NoT H1 := ⟨_, rfl, az _ h, aj, aJ n ho⟩
structure Bd where
 nm : List Nat
 ob : Addr
 ag : Addr
 wt : Addr
 pa : Addr
 pt : List Nat
 cu : List Nat
 f : Int
 l : Int
 t : Int
 ws : List Int
def oz (x y z : V) : List (Str × V) := [("agreed", x), ("first", y), ("parts", z)]
theorem HJ (x y z : V) : nj (wo "agreed") (oz x y z) = some x := qz
theorem Hv (x y z : V) : nj (wo "first") (oz x y z) = some y := by unfold oz; rw [fG (by decide +kernel)]; exact qz
theorem Hs (x y z : V) : nj (wo "parts") (oz x y z) = some z := by unfold oz; rw [fG (by decide +kernel), fG (by decide +kernel)]; exact qz
theorem E6 (x y z : V) : fH (wo "parts") z (fH (wo "first") y (fH (wo "agreed") x [])) = oz x y z := by
 have q1 : ¬ (wo "agreed" = wo "parts") := by decide +kernel
 have q2 : ¬ (wo "first" = wo "parts") := by decide +kernel
 have q3 : ¬ (wo "agreed" = wo "first") := by decide +kernel
 simp [fH, oz, q1, q2, q3]
structure AAt (H : Hp) (b : Bd) : Prop where
 ag : H b.ag = some (.tup [L2.T b.pt, L2.T b.cu, .int b.f, .int b.l, .int b.t, .ref b.wt])
 wt : H b.wt = some (.tup (b.ws.map V.int))
structure OAt (B : Addr) (H : Hp) (b : Bd) : Prop where
 ob : ∃ dx, H b.ob = some (.ins B dx (oz (.ref b.ag) (.int b.f) (.ref b.pa)))
 ag : AAt H b
 pa : H b.pa = some (.lst ((kt b.t b.ws).map V.int))
def sp_tB (B : Addr) : Sp := sp3 fun x y z H Q _ => asR x fun p => asR y fun ag => ∃ dx xs, ∃ f : Int, H p = some (.ins B dx []) /\ H ag = some (.tup xs) /\ atI xs 2 = some (.int f) /\ Q .non (upd H p (.ins B dx (oz (.ref ag) (.int f) z)))
theorem lN (T : Txt K mg a) : bg P w K mg base (XE P w) 1 a.cY a.fU ["self", "agreed", "parts"] (sp_tB a.aw) := by
 refine T.gw.okX lH (fun vs H Q E h => sp3.len h) (fun cdv A outer s H vs Q E hr h => ?_)
 obtain ⟨x0, x1, x2, rfl, h⟩ := sp3.inv h
 try dsimp only [sp_tB, sp3] at h
 obtain ⟨p, rfl, h2⟩ := asR.inv h
 obtain ⟨ag, rfl, dx, xs, f, hp, hag, ha, k⟩ := asR.inv h2
 have na : ag ≠ p := cW hag hp
 refine ⟨_, (af (j5 K (fv 0) (fv 1))
  (af (j5 K (fv 0) (aX (aD K) (fv 1) ac (fun _ _ => rfl)))
  (ak (j5 K (fv 0) (fv 2))))), ?_⟩
 walk_at "rd"
 refine ⟨_, _, _, hp, T.fK, T.iR, by decide, _, _, .inr (SqT.of ((ar na).trans hag)), ha, _, _, _, aj, T.fK, T.jI, by show 1 < 1000; decide, _, _, _, aj, T.fK, T.jh, by show 2 < 1000; decide, ?_⟩
 rw [E6, pU, pU]
 exact k
def kyO (o : Bd) : Key × V := (.inr ⟨⟨o.nm⟩⟩, .ref o.ob)
structure SAt (S O : Addr) (H : Hp) (p d : Addr) (os : List Bd) : Prop where
 ob : ∃ dx, H p = some (.ins S dx [("by_name", .ref d)])
 dc : H d = some (.dK (os.map kyO))
 od : ∀ o ∈ os, OAt O H o
 np : (os.map (·.nm)).Nodup
 na : (os.map (·.ob)).Nodup
theorem AAt.keep {X : List Addr} {H H' : Hp} {b : Bd} (j : AAt H b) (x : Keep X H H') (h : b.ag ∉ X /\ b.wt ∉ X) : AAt H' b := ⟨x _ _ j.ag h.1, x _ _ j.wt h.2⟩
theorem OAt.keep {X : List Addr} {O : Addr} {H H' : Hp} {o : Bd} (j : OAt O H o) (x : Keep X H H') (h : o.ob ∉ X /\ o.ag ∉ X /\ o.wt ∉ X /\ o.pa ∉ X) : OAt O H' o :=
 ⟨by obtain ⟨dx, e⟩ := j.ob; exact ⟨dx, x _ _ e h.1⟩, j.ag.keep x ⟨h.2.1, h.2.2.1⟩, x _ _ j.pa h.2.2.2⟩
theorem SAt.keep {X : List Addr} {S O : Addr} {H H' : Hp} {p d : Addr} {os : List Bd} (j : SAt S O H p d os) (x : Keep X H H') (hp : p ∉ X) (hd : d ∉ X) (ho : ∀ o ∈ os, o.ob ∉ X /\ o.ag ∉ X /\ o.wt ∉ X /\ o.pa ∉ X) : SAt S O H' p d os :=
 ⟨by obtain ⟨dx, e⟩ := j.ob; exact ⟨dx, x _ _ e hp⟩, x _ _ j.dc hd, fun o hm => (j.od o hm).keep x (ho o hm), j.np, j.na⟩
theorem SAt.same {S O : Addr} {H H' : Hp} {p d : Addr} {os : List Bd} (j : SAt S O H p d os) (x : Same H H') : SAt S O H' p d os :=
 j.keep (X := []) (Keep.same x) yU yU fun _ _ => ⟨yU, yU, yU, yU⟩
def fnd (os : List Bd) (l : List Nat) : Option Bd := os.find? fun o => decide (o.nm = l)
theorem pQ (l : List Nat) : ∀ os : List Bd, dS (os.map kyO) (.inr ⟨⟨l⟩⟩) = (fnd os l).map fun o => .ref o.ob
 | [] => rfl
 | c :: r => by
  have ih := pQ l r
  by_cases h : c.nm = l
  ·rw [wW, cA (by show Sum.inr _ = Sum.inr _; rw [h])]
   simp [fnd, h, kyO]
  ·rw [wW, cD (fun z => h (by simpa [kyO] using z)), ih]
   simp [fnd, h]
theorem iI {os : List Bd} {l : List Nat} {o : Bd} (h : fnd os l = some o) : o ∈ os /\ o.nm = l :=
 ⟨List.mem_of_find?_eq_some h, by simpa using List.find?_some h⟩
theorem nN {os : List Bd} {l : List Nat} (h : fnd os l = none) : ∀ o ∈ os, o.nm ≠ l := fun c hc => by
 simpa using List.find?_eq_none.mp h c hc
theorem zl {β : Type} {f : Bd -> β} : ∀ {cs : List Bd} {c c' : Bd}, (cs.map f).Nodup -> c ∈ cs -> c' ∈ cs -> f c = f c' -> c = c'
 | [], _, _, _, h, _, _ => nomatch h
 | x :: r, c, c', hn, h, h', e => by
  rw [wW, nW] at hn
  rcases ze.mp h with h1 | h1
  ·rcases ze.mp h' with h2 | h2
   ·rw [h1, h2]
   ·subst h1
    exact absurd (by rw [e]; exact List.mem_map_of_mem h2) hn.1
  ·rcases ze.mp h' with h2 | h2
   ·subst h2
    exact absurd (by rw [<- e]; exact List.mem_map_of_mem h1) hn.1
   ·exact zl hn.2 h1 h2 e
theorem xI {cs : List Bd} (hn : (cs.map (·.nm)).Nodup) {c : Bd} (hc : c ∈ cs) : fnd cs c.nm = some c := by
 cases e : fnd cs c.nm with
 | none => exact absurd rfl (nN e c hc)
 | some c' =>
  obtain ⟨h1, h2⟩ := iI e
  rw [zl hn h1 hc h2]
def gb (os : List Bd) : V -> Option Bd
 | .str y => fnd os y.cps.toList
 | _ => none
theorem Cd {cs : List Bd} {y : V} {c : Bd} (h : gb cs y = some c) : ∃ l, y = L2.T l /\ fnd cs l = some c := by
 cases y with
 | str z => exact ⟨z.cps.toList, rfl, h⟩
 | _ => cases h
theorem jJ {cs : List Bd} {y : V} {c : Bd} (h : gb cs y = some c) : c ∈ cs := by
 obtain ⟨l, rfl, e⟩ := Cd h
 exact (iI e).1
theorem lkb (x : V) : nj (wo "by_name") [(wo "by_name", x)] = some x := qz
def sp_t_ (S O : Addr) : Sp := sp1 fun x H Q _ => NoT H /\ asR x fun p => ∃ dx, H p = some (.ins S dx []) /\ ∀ d H', H d = none -> SAt S O H' p d [] -> Keep [p] H H' -> NoT H' -> Q .non H'
theorem kb (T : Txt K mg a) : bg P w K mg base (XE P w) 1 a.cN a.fA ["self"] (sp_t_ a.au a.aw) := by
 refine T.fN.okX kl (fun vs H Q E h => sp1.len h) (fun cdv A outer s H vs Q E hr h => ?_)
 obtain ⟨x0, rfl, h⟩ := sp1.inv h
 try dsimp only [sp_t_, sp1] at h
 obtain ⟨hN, h1⟩ := h
 obtain ⟨p, rfl, dx, hp, k⟩ := asR.inv h1
 refine ⟨_, (ak (j5 K (fv 0) uq)), ?_⟩
 walk_at "rd"
 intro d hd
 have np : p ≠ d := ai hp hd
 refine ⟨_, _, _, (ar np).trans hp, T.aY, T.bM, by show 0 < 1000; decide, ?_⟩
 refine k d _ hd ⟨⟨dx, ?_⟩, ?_, (fun _ h => nomatch h), .nil, .nil⟩ ?_ ?_
 ·rw [aj]; simp [fH]
 ·rw [ar (Ne.symm np), aj]; rfl
 ·exact (Keep.refl.new hd).put (zr.2 rfl)
 ·exact aJ (aJ hN rfl) rfl
def pL {H : Hp} (E : XK) (no : Addr) (o : Option Bd) (k : Bd -> Prop) : Prop := match o with
 | some c => k c
 | none => E (.ref no) none H
def sp_t8 (S O no : Addr) : Sp := sp2 fun x y H Q E => NoT H /\ asR x fun p => asK H y fun _ => ∃ d os, SAt S O H p d os /\ pL (H := H) E no (gb os y) fun c => Q (.ref c.ob) H
theorem gu (T : Txt K mg a) : bg P w K mg base (XE P w) 1 a.eL a.gK ["self", "name"] (sp_t8 a.au a.aw a.aT) := by
 refine T.eG.okG nF (fun vs H Q E h => sp2.len h) (fun cdv A outer s H vs Q E hr h => ?_)
 obtain ⟨x0, x1, rfl, h⟩ := sp2.inv h
 try dsimp only [sp_t8, sp2] at h
 have HU := bj hr
 obtain ⟨hN, h1⟩ := h
 obtain ⟨p, rfl, h2⟩ := asR.inv h1
 obtain ⟨t, ht, hb, d, os, J, k⟩ := asK.inv h2
 obtain ⟨dx, hp⟩ := J.ob
 have one : 1 <= sizeLine := by rw [ue]; decide
 refine ⟨hN, _, (af (bz (L2.PW.pt (pv (b8 (b_ (aE (cb K) rfl T.aW aS (FA.pa (aa (fv 1) (aa (dH (v := .ty "str") rfl T.yW uW rfl) ad)))))) (lq (w8 (n8 (Zs HU) (fv 1) (dL K (fv 0))) (by with_unfolding_all rfl))))) (ak (d8 T.yF pf rfl rfl T.rE fJ (FA.pa (aa (aq [116, 104, 101, 114, 101, 32, 105, 115, 32, 110, 111, 32, 115, 117, 99, 104, 32, 98, 117, 100, 103, 101, 116]) ad)))) aV)
  (ak (aG (aA (Zs HU) (dL K (fv 0)) (fv 1) (fun _ _ => rfl))))), ?_⟩
 by_cases hx : ∃ l, x1 = .str ⟨⟨l⟩⟩
 ·obtain ⟨l, rfl⟩ := hx
  cases ht
  walk_at "rd"
  have g := DGet.k (k := .inr ⟨⟨l⟩⟩) J.dc
  rw [pQ] at g
  refine ⟨_, _, _, _, hp, T.aY, T.bM, lkb _, d, _, rfl, g, ?_⟩
  rw [show gb os (.str ⟨⟨l⟩⟩) = fnd os l from rfl] at k
  cases e : fnd os l with
  | none => rw [e] at k; exact itp rfl ⟨one, k⟩
  | some c =>
   rw [e] at k g
   exact itn (by intro z; cases z) ⟨_, _, _, _, hp, T.aY, T.bM, lkb _, d, _, rfl, g, k⟩
 ·have e := pR ht hx
  have e2 : gb os x1 = none := by
   cases x1 with
   | str y => exact absurd ⟨y.cps.toList, rfl⟩ hx
   | _ => rfl
  rw [e2] at k
  walk_at "rd"
  simp only [ht]
  exact itp e ⟨one, k⟩
theorem qZ {β : Type} {l : List β} {x : β} (h : l.Nodup) (n : x ∉ l) : (l ++ [x]).Nodup :=
 List.nodup_append.mpr ⟨h, nW.mpr ⟨yU, List.nodup_nil⟩, fun a ha b hb => by rw [zr.mp hb]; rintro rfl; exact n ha⟩
theorem oN {H H' : Hp} {x dx : Addr} {o o' : HO} (hx : H x = none) (hd : H dx = none) (kp : Keep [x] (upd (upd H dx o) x o') H') : Keep [] H H' := fun c z e _ => by
 have n1 : c ≠ x := ai e hx
 have n2 : c ≠ dx := ai e hd
 exact kp c z (by rw [ar n1, ar n2]; exact e) (by simpa using n1)
theorem ie {H : Hp} {x dx b : Addr} {o o' : HO} (h : upd (upd H dx o) x o' b = none) : H b = none := by
 have n1 : b ≠ x := fun z => by rw [z, aj] at h; cases h
 rw [ar n1] at h
 have n2 : b ≠ dx := fun z => by rw [z, aj] at h; cases h
 rw [ar n2] at h; exact h
theorem zQ {x : V} (h : nameV x = true) : ∃ l, x = L2.T l := by
 cases x with
 | str y => exact ⟨y.cps.toList, rfl⟩
 | _ => cases h
theorem Cq {os : List Bd} {l : List Nat} (h : fnd os l = none) (o : Bd) (e : o.nm = l) : eX (os.map kyO) (.inr ⟨⟨l⟩⟩) (.ref o.ob) = (os ++ [o]).map kyO := by
 rw [wu _ (by rw [pQ, h]; rfl), sY, <- e]; rfl
theorem SAt.more {S O : Addr} {H H' : Hp} {p d : Addr} {os : List Bd} (J : SAt S O H p d os) (kp : Keep [] H H') {o : Bd} (hf : fnd os o.nm = none) (h0 : H o.ob = none) (hc : OAt O H' o) :
 SAt S O (upd H' d (.dK ((os ++ [o]).map kyO))) p d (os ++ [o]) := by
 have J1 := J.keep kp yU yU fun _ _ => ⟨yU, yU, yU, yU⟩
 have dn := J1.dc
 have ku : Keep [d] H' (upd H' d (.dK ((os ++ [o]).map kyO))) := Keep.refl.put (.head _)
 have no : ∀ {x : Addr} {z : HO}, H' x = some z -> (∀ l, z ≠ .dK l) -> x ∉ [d] := fun e n m => cW e dn (fun q => n _ q) (zr.mp m)
 have ok : ∀ z, OAt O H' z -> OAt O (upd H' d (.dK ((os ++ [o]).map kyO))) z := fun z hz => by
  obtain ⟨dz, e⟩ := hz.ob
  exact hz.keep ku ⟨no e (by intro _ z; cases z), no hz.ag.ag (by intro _ z; cases z), no hz.ag.wt (by intro _ z; cases z), no hz.pa (by intro _ z; cases z)⟩
 refine ⟨?_, aj, fun z hz => ?_, ?_, ?_⟩
 ·obtain ⟨dx, e⟩ := J1.ob
  exact ⟨dx, ku _ _ e (no e (by intro _ z; cases z))⟩
 ·rcases tD.mp hz with hz | hz
  ·exact ok z (J1.od z hz)
  ·rw [zr.mp hz]; exact ok o hc
 ·rw [sY]
  refine qZ J.np fun h => ?_
  obtain ⟨z, hz, e⟩ := rf.mp h
  exact nN hf z hz e
 ·rw [sY]
  refine qZ J.na fun h => ?_
  obtain ⟨z, hz, e⟩ := rf.mp h
  obtain ⟨dz, eo⟩ := (J.od z hz).ob
  rw [e, h0] at eo; cases eo
theorem tU (x : V) : nj (wo "budget") [(wo "by_name", x)] = none := by rw [fG (by decide +kernel)]; rfl
def sp_vD (S O : Addr) : Sp := sp1 fun x H Q _ => NoT H /\ asR x fun p => ∃ d os, SAt S O H p d os /\ os.length < 64 /\ ∀ out : List (List Nat), out.Perm (os.map (·.nm)) -> InO out -> ∀ q, H q = none -> Q (.ref q) (upd H q (.lst (out.map L2.T)))
theorem oB (T : Txt K mg a) : bg P w K mg base (XE P w) 1 a.fm a.ib ["self"] (sp_vD a.au a.aw) := by
 refine T.iY.okG ow (fun vs H Q E h => sp1.len h) (fun cdv A outer s H vs Q E hr h => ?_)
 obtain ⟨x0, rfl, h⟩ := sp1.inv h
 try dsimp only [sp_vD, sp1] at h
 obtain ⟨hN, h1⟩ := h
 obtain ⟨p, rfl, d, os, J, h64, k⟩ := asR.inv h1
 obtain ⟨dx, hp⟩ := J.ob
 refine ⟨hN, _, (ak (aG (aE (v_ rfl) rfl T.qN oJ (FA.pa (aa (dL K (fv 0)) ad))))), ?_⟩
 walk_at "rd"
 refine ⟨_, _, _, _, hp, T.aY, T.bM, lkb _, _, os.map (·.nm), J.dc, by rw [vD, vD]; rfl, by rw [zc]; exact h64, fun out h1 h2 q hq => ⟨_, Gc.one (az _ hq) hq aj rfl, k out h1 h2 q hq⟩⟩
def sp_xh (S O no : Addr) : Sp := sp2 fun x y H Q E => NoT H /\ asR x fun p => asK H y fun _ => ∃ d os, SAt S O H p d os /\ pL (H := H) E no (gb os y) fun c => Q (.ref c.ag) H
theorem oa (T : Txt K mg a) : bg P w K mg base (XE P w) 2 a.fo a.iu ["self", "name"] (sp_xh a.au a.aw a.aT) := by
 refine T.iX.okG oR (fun vs H Q E h => sp2.len h) (fun cdv A outer s H vs Q E hr h => ?_)
 obtain ⟨x0, x1, rfl, h⟩ := sp2.inv h
 try dsimp only [sp_xh, sp2] at h
 obtain ⟨hN, h1⟩ := h
 obtain ⟨p, rfl, h2⟩ := asR.inv h1
 obtain ⟨t, ht, hb, d, os, J, k⟩ := asK.inv h2
 obtain ⟨dx, hp⟩ := J.ob
 have G_Budgets_budget := @gu P w K mg base a T
 have b_Budgets_budget := gF T.eG
 refine ⟨hN, _, (ak (aG (dL K (bY (fv 0) T.aY T.gQ G_Budgets_budget (hr.mono (by decide)) b_Budgets_budget .nil aC (FA.pa (aa (fv 1) ad)))))), ?_⟩
 walk_at "rd"
 refine ⟨_, _, hp, tU _, hN, asK.of ht ⟨d, os, J, ?_⟩⟩
 cases e : gb os x1 with
 | none => rw [e] at k; exact ⟨H, Gc.none (Same.refl _), k⟩
 | some c =>
  rw [e] at k
  obtain ⟨dc, ho⟩ := (J.od c (jJ e)).ob
  exact ⟨_, _, _, _, ho, T.fK, T.iR, HJ .., k⟩
theorem ip (s : String) (x : V) (h : ¬ (wo "by_name" = wo s) := by decide +kernel) : nj (wo s) [(wo "by_name", x)] = none := by rw [fG (by simpa using fun z => h z.symm)]; rfl
noncomputable def plB (b : Bd) (m : Int) : Int := ((kt b.t b.ws).take (m - b.f + 1).toNat).sum
def sp_y_ (S O no : Addr) : Sp := sp3 fun x y z H Q E => NoT H /\ asR x fun p => asI z fun m => asK H y fun _ => ∃ d os, SAt S O H p d os /\ pL (H := H) E no (gb os y) fun c => Q (.int (plB c m)) H
theorem bF (T : Txt K mg a) : bg P w K mg base (XE P w) 2 a.c_ a.eD ["self", "name", "month"] (sp_y_ a.au a.aw a.aT) := by
 refine T.bx.okG eE (fun vs H Q E h => sp3.len h) (fun cdv A outer s H vs Q E hr h => ?_)
 obtain ⟨x0, x1, x2, rfl, h⟩ := sp3.inv h
 try dsimp only [sp_y_, sp3] at h
 have ND := eE.nd
 obtain ⟨hN, h1⟩ := h
 obtain ⟨p, rfl, h2⟩ := asR.inv h1
 obtain ⟨m, rfl, h3⟩ := asI.inv h2
 obtain ⟨t, ht, hb, d, os, J, k⟩ := asK.inv h3
 obtain ⟨dx, hp⟩ := J.ob
 have G_Budgets_budget := @gu P w K mg base a T
 have b_Budgets_budget := gF T.eG
 refine ⟨hN, _, (af (aK (i := 3) ND rfl (Or.inl rfl) (bY (fv 0) T.aY T.gQ G_Budgets_budget (hr.mono (by decide)) b_Budgets_budget .nil aC (FA.pa (aa (fv 1) ad))))
  (ak (aG (aE (gJ K rfl) rfl T.ph jf (FA.pa (aa (dC (xm K) (dL K (fv 3)) eV (eU (aE (Fm rfl) rfl T.Gr Ff (FA.pa (aa ac (aa (ah aH (ah cE (fv 2) (dL K (fv 3))) ac) ad)))))) ad)))))), ?_⟩
 walk_at "rd"
 refine ⟨_, _, hp, tU _, hN, asK.of ht ⟨d, os, J, ?_⟩⟩
 cases e : gb os x1 with
 | none => rw [e] at k; exact ⟨H, Gc.none (Same.refl _), k⟩
 | some c =>
  rw [e] at k
  obtain ⟨dc, ho⟩ := (J.od c (jJ e)).ob
  dsimp only [pL]
  refine ⟨_, _, _, _, ho, T.fK, T.jh, Hs .., _, _, _, _, ho, T.fK, T.jI, Hv .., ?_⟩
  walk_at "rd"
  obtain ⟨i, ei, i0, i1⟩ : ∃ i : Int, (if 0 < m - c.f + 1 then m - c.f + 1 else 0) = i /\ 0 <= i /\ i.toNat = (m - c.f + 1).toNat := ⟨_, rfl, by split <;> omega, by split <;> omega⟩
  rw [show (if m - c.f + 1 > 0 then m - c.f + 1 else 0) = i from ei]
  refine ⟨c.pa, _, rfl, SqL.of (J.od c (jJ e)).pa, fun q fq => ?_⟩
  rw [qw _ i0, <- YO, i1]
  exact ⟨_, .inl (SqL.of aj), H, Gc.none (az _ fq), k⟩
def sp_yO (S O no : Addr) : Sp := sp3 fun x y z H Q E => NoT H /\ asR x fun p => asI z fun m => asK H y fun _ => ∃ d os, SAt S O H p d os /\ pL (H := H) E no (gb os y) fun c => Q (.int (plB c m - plB c (m - 1))) H
theorem lQ (T : Txt K mg a) : bg P w K mg base (XE P w) 3 a.eC a.fO ["self", "name", "month"] (sp_yO a.au a.aw a.aT) := by
 refine T.gL.okG lW (fun vs H Q E h => sp3.len h) (fun cdv A outer s H vs Q E hr h => ?_)
 obtain ⟨x0, x1, x2, rfl, h⟩ := sp3.inv h
 try dsimp only [sp_yO, sp3] at h
 obtain ⟨hN, h1⟩ := h
 obtain ⟨p, rfl, h2⟩ := asR.inv h1
 obtain ⟨m, rfl, h3⟩ := asI.inv h2
 obtain ⟨t, ht, hb, d, os, J, k⟩ := asK.inv h3
 obtain ⟨dx, hp⟩ := J.ob
 have G_Budgets_planned_by := @bF P w K mg base a T
 have b_Budgets_planned_by := bG T.bx
 refine ⟨hN, _, (ak (aG (ah cE (bY (fv 0) T.aY T.aZ G_Budgets_planned_by (hr.mono (by decide)) b_Budgets_planned_by .nil aC (FA.pa (aa (fv 1) (aa (fv 2) ad)))) (bY (fv 0) T.aY T.aZ G_Budgets_planned_by (hr.mono (by decide)) b_Budgets_planned_by .nil aC (FA.pa (aa (fv 1) (aa (ah cE (fv 2) ac) ad))))))), ?_⟩
 walk_at "rd"
 refine ⟨_, _, hp, ip "planned_by" _, hN, asK.of ht ⟨d, os, J, ?_⟩⟩
 cases e : gb os x1 with
 | none => rw [e] at k; exact ⟨H, Gc.none (Same.refl _), k⟩
 | some c =>
  rw [e] at k
  dsimp only [pL]
  refine ⟨_, _, hp, ip "planned_by" _, hN, asK.of ht ⟨d, os, J, ?_⟩⟩
  rw [e]
  dsimp only [pL]
  walk_at "rd"
  exact k
open K5
structure Tm where
 n : V
 p : V
 c : V
 f : V
 l : V
 t : V
 w : V
def Tm.vs (x : Tm) : List V := [x.n, x.p, x.c, x.f, x.l, x.t, x.w]
def WtX (H : Hp) (w : V) : Prop := (∃ q xs, w = .ref q /\ H q = some (.lst xs) /\ xs.length <= 4000 /\ ∀ y ∈ xs, Kd H y) \/ (∃ t, bJ H w = some t /\ bW t "list" = false)
structure TOk (H : Hp) (x : Tm) : Prop where
 n : okV x.n /\ Kd H x.n
 p : okP x.p /\ Kd H x.p
 c : okV x.c /\ Kd H x.c
 f : Kd H x.f
 l : Kd H x.l
 t : Kd H x.t
 w : WtX H x.w
def wlV (H : Hp) : V -> Option (List V)
 | .ref q => match H q with
  | some (.lst xs) => some xs
  | _ => none
 | _ => none
def lnV (n : Nat) : V -> V -> Bool
 | .int f, .int l => decide ((n : Int) = l - f + 1)
 | _, _ => false
def shV (H : Hp) (x : Tm) : Bool := match wlV H x.w with
 | some xs => wOk xs && lnV xs.length x.f x.l
 | none => false
def duB (H : Hp) (bs : List Bd) (x : Tm) : Nat :=
 if nameV x.n = true then if t6 x.p = true then if zY x.c = true then if mns x.f x.l = true then if amg x.t (-1000000000000000) 1000000000000000 = true then if shV H x = true then
  if (gb bs x.n).isSome = true then 6 else 8 else 5 else 4 else 3 else 2 else 1 else 0
def WCS (a : Adr) : List Addr := [a.oM, a.oh, a.hV, a.mE, a.jd, a.iB, a.vc]
structure BOf (H : Hp) (x : Tm) (b : Bd) : Prop where
 n : x.n = L2.T b.nm
 p : x.p = L2.T b.pt
 c : x.c = L2.T b.cu
 f : x.f = .int b.f
 l : x.l = .int b.l
 t : x.t = .int b.t
 w : wlV H x.w = some (b.ws.map V.int)
 ok : (∀ w ∈ b.ws, 0 <= w /\ w <= 1000000000) /\ 1 <= b.ws.length /\ b.ws.length <= 60 /\ 0 < b.ws.sum
 ln : (b.ws.length : Int) = b.l - b.f + 1
 fl : 0 <= b.f /\ b.l <= 4799
 tt : -1000000000000000 <= b.t /\ b.t <= 1000000000000000
theorem Hl {H : Hp} {w : V} {xs : List V} (h : wlV H w = some xs) : ∃ q, w = .ref q /\ H q = some (.lst xs) := by
 cases w with
 | ref q =>
  refine ⟨q, rfl, ?_⟩
  change (match H q with | some (.lst xs) => some xs | _ => none) = some xs at h
  split at h
  ·rename_i ys e; cases h; exact e
  ·cases h
 | _ => cases h
theorem EM {H : Hp} {q : Addr} {xs : List V} (h : H q = some (.lst xs)) : wlV H (.ref q) = some xs := by
 show (match H q with | some (.lst xs) => some xs | _ => none) = some xs
 rw [h]
theorem DP {x : V} (h : t6 x = true) : ∃ l, x = L2.T l := by
 cases x with
 | str y => exact ⟨y.cps.toList, rfl⟩
 | _ => cases h
theorem Du {x y : V} (h : mns x y = true) : ∃ i j, x = .int i /\ y = .int j /\ 0 <= i /\ i <= j /\ j <= 4799 /\ j < i + 60 := by
 unfold mns at h
 rw [sW, sW] at h
 obtain ⟨i, rfl, i0, i1⟩ := mO h.1.1
 obtain ⟨j, rfl, j0, j1⟩ := mO h.1.2
 have h2 : (decide (i <= j) && decide (j < i + 60)) = true := h.2
 rw [sW, decide_eq_true_eq, decide_eq_true_eq] at h2
 exact ⟨i, j, rfl, rfl, i0, h2.1, j1, h2.2⟩
def sp_zr (a : Adr) : Sp := sp8 fun s n p c f l t w H Q E => NoT H /\ asR s fun sp => ∃ d bs x, x = ⟨n, p, c, f, l, t, w⟩ /\ TOk H x /\ SAt a.au a.aw H sp d bs /\ bs.length <= 50 /\
 (∀ C, (WCS a)[duB H bs x]? = some C -> ∀ H', Same H H' -> NoT H' -> E (.ref C) none H') /\
 (duB H bs x = 8 -> ∀ b H', BOf H x b -> H b.ob = none -> H b.pa = none -> SAt a.au a.aw H' sp d (bs ++ [b]) -> Keep [d] H H' -> NoT H' -> Q .non H')
theorem jO (T : Txt K mg a) : bg P w K mg base (XE P w) 6 a.gT a.i_ ["self", "name", "path", "currency", "first", "last", "total", "weights"] (sp_zr a) := by
 refine T.gY.okX jW (fun vs H Q E h => sp8.len h) (fun cdv A outer s H vs Q E hr h => ?_)
 obtain ⟨x0, x1, x2, x3, x4, x5, x6, x7, rfl, h⟩ := sp8.inv h
 try dsimp only [sp_zr, sp8] at h
 have ND := jW.nd
 have HU := bj hr
 obtain ⟨hN, h1⟩ := h
 obtain ⟨p, rfl, d, bs, x, ex, ok, J, len, ke, kk⟩ := asR.inv h1
 obtain ⟨dx, hp⟩ := J.ob
 have one : 1 <= sizeLine := by rw [ue]; decide
 have sz := szl
 subst ex
 obtain ⟨⟨on, tn, hn⟩, ⟨op, tp, htp⟩, ⟨oc, tc, hc⟩, ⟨tf, hf⟩, ⟨tl, hl⟩, ⟨tt, ht⟩, hw⟩ := ok
 dsimp only at on hn op htp oc hc hf hl ht hw
 unfold duB at ke kk
 dsimp only at ke kk
 have G_Budget___init__ := @lN P w K mg base a T
 have b_Budget___init__ := lY T.gw
 have G_shared := @zZ P w K mg base a T
 have b_shared := An T.qQ
 have G_is_amount := @uP P w K mg base a T
 have b_is_amount := uS T.jc
 have G_are_months := @rX P w K mg base a T
 have b_are_months := sP T.iH
 have G_is_currency := @rB P w K mg base a T
 have b_is_currency := qO T.hE
 have G_is_path := @xY P w K mg base a T
 have b_is_path := xK T.oV
 have G_is_name := @rn P w K mg base a T
 have b_is_name := p_ T.ik
 refine ⟨_, (af (bz (b8 (b_ (ao G_is_name (hr.mono (by decide)) rfl T.tW T.ik.kp b_is_name .nil aC (FA.pa (aa (fv 1) ad))))) (ak (d8 T.zP pf rfl rfl T.AK fJ (FA.pa (aa (aq [116, 104, 105, 115, 32, 105, 115, 32, 110, 111, 32, 110, 97, 109, 101]) ad)))) aV)
  (af (bz (b8 (b_ (ao G_is_path (hr.mono (by decide)) rfl T.Au T.oV.kp b_is_path .nil aC (FA.pa (aa (fv 2) ad))))) (ak (d8 T.Ay pf rfl rfl T.Ar fJ (FA.pa (aa (aq [116, 104, 105, 115, 32, 105, 115, 32, 110, 111, 32, 112, 97, 116, 104]) ad)))) aV)
  (af (bz (b8 (b_ (ao G_is_currency (hr.mono (by decide)) rfl T.sO T.hE.kp b_is_currency .nil aC (FA.pa (aa (fv 3) ad))))) (ak (d8 T.rV pf rfl rfl T.sj fJ (FA.pa (aa (aq [116, 104, 105, 115, 32, 105, 115, 32, 110, 111, 32, 99, 117, 114, 114, 101, 110, 99, 121]) ad)))) aV)
  (af (bz (b8 (b_ (ao G_are_months (hr.mono (by decide)) rfl T.uQ T.iH.kp b_are_months .nil aC (FA.pa (aa (fv 4) (aa (fv 5) ad)))))) (ak (d8 T.xR pf rfl rfl T.yn fJ (FA.pa (aa (aq [116, 104, 101, 115, 101, 32, 97, 114, 101, 32, 110, 111, 32, 109, 111, 110, 116, 104, 115, 32, 102, 114, 111, 109, 32, 97, 32, 102, 105, 114, 115, 116, 32, 116, 111, 32, 97, 32, 108, 97, 115, 116, 32, 111, 110, 101, 44, 32, 54, 48, 32, 97, 116, 32, 109, 111, 115, 116]) ad)))) aV)
  (af (bz (b8 (b_ (ao G_is_amount (hr.mono (by decide)) rfl T.v5 T.jc.kp b_is_amount .nil aC (FA.pa (aa (fv 6) ad))))) (ak (d8 T.vE pf rfl rfl T.xc fJ (FA.pa (aa (aq [116, 104, 105, 115, 32, 105, 115, 32, 110, 111, 32, 97, 109, 111, 117, 110, 116]) ad)))) aV)
  (af (aK (i := 8) ND rfl (Or.inl rfl) (ao G_shared (hr.mono (by decide)) rfl T.BJ T.qQ.kp b_shared .nil aC (FA.pa (aa (fv 6) (aa (fv 7) ad)))))
  (af (bz (bE (j4 K HU) (aE (dM K) rfl T.iQ fh (FA.pa (aa (fv 8) ad))) (ah aH (ah cE (fv 5) (fv 4)) ac) (a_ _)) (ak (d8 T.rR pf rfl rfl T.qX fJ (FA.pa (aa (aq [116, 104, 101, 114, 101, 32, 105, 115, 32, 116, 111, 32, 98, 101, 32, 111, 110, 101, 32, 119, 101, 105, 103, 104, 116, 32, 102, 111, 114, 32, 101, 97, 99, 104, 32, 109, 111, 110, 116, 104]) ad)))) aV)
  (af (bz (w8 (FF (Zs HU) (fv 1) (dL K (fv 0))) (by with_unfolding_all rfl)) (ak (d8 T.CS pf rfl rfl T.DR fJ (FA.pa (aa (aq [116, 104, 101, 114, 101, 32, 105, 115, 32, 115, 117, 99, 104, 32, 97, 32, 98, 117, 100, 103, 101, 116]) ad)))) aV)
  (ak (eW (Zs HU) (dL K (fv 0)) (fv 1) (AT T.zU G_Budget___init__ (hr.mono (by decide)) rfl T.BF b_Budget___init__ .nil aC (FA.pa (aa (dQ (FA.pa (aa (fv 2) (aa (fv 3) (aa (fv 4) (aa (fv 5) (aa (fv 6) (aa (fL (vF K) rfl T.vm qf (FA.pa (aa (fv 7) ad))) ad)))))))) (aa (fv 8) ad)))) rfl)))))))))), ?_⟩
 walk_at "rd"
 refine ⟨hN, on, asK.of hn ?_⟩
 cases e1 : nameV x1 with
 | false => rw [e1] at ke; exact itp rfl ⟨one, ke _ rfl H (Same.refl _) hN⟩
 | true =>
 rw [if_pos e1] at ke kk
 refine itn (by decide) ⟨hN, op, asK.of htp ?_⟩
 cases e2 : t6 x2 with
 | false => rw [e2] at ke; exact itp rfl ⟨one, ke _ rfl H (Same.refl _) hN⟩
 | true =>
 rw [if_pos e2] at ke kk
 refine itn (by decide) ⟨hN, oc, asK.of hc ?_⟩
 cases e3 : zY x3 with
 | false => rw [e3] at ke; exact itp rfl ⟨one, ke _ rfl H (Same.refl _) hN⟩
 | true =>
 rw [if_pos e3] at ke kk
 refine itn (by decide) ⟨hN, asK.of hf (asK.of hl ?_)⟩
 cases e4 : mns x4 x5 with
 | false => rw [e4] at ke; exact itp rfl ⟨one, ke _ rfl H (Same.refl _) hN⟩
 | true =>
 rw [if_pos e4] at ke kk
 refine itn (by decide) ⟨hN, asK.of ht ?_⟩
 cases e5 : amg x6 (-1000000000000000) 1000000000000000 with
 | false => rw [e5] at ke; exact itp rfl ⟨one, ke _ rfl H (Same.refl _) hN⟩
 | true =>
 rw [if_pos e5] at ke kk
 refine itn (by decide) ?_
 obtain ⟨am, rfl, am0, am1⟩ := mO e5
 obtain ⟨f, l, rfl, rfl, f0, fl, l1, fl6⟩ := Du e4
 obtain ⟨nm, rfl⟩ := zQ e1
 obtain ⟨pt, rfl⟩ := DP e2
 obtain ⟨cu, rfl, _⟩ := Cw e3
 refine ⟨hN, ⟨by omega, by omega⟩, ?_⟩
 rcases hw with ⟨q, xs, rfl, hq, lz, kx⟩ | ⟨t, hk, hi⟩
 ·refine .inl ⟨q, xs, rfl, hq, lz, kx, ?_⟩
  have ew := EM hq
  cases e6 : wOk xs with
  | false =>
   have es : shV H ⟨L2.T nm, L2.T pt, L2.T cu, .int f, .int l, .int am, .ref q⟩ = false := by unfold shV; dsimp only; rw [ew]; dsimp only; rw [e6]; rfl
   rw [es] at ke
   exact itn (by decide) (ke _ rfl H (Same.refl _) hN)
  | true =>
   refine itp rfl fun ws ews q2 f2 => ?_
   subst ews
   obtain ⟨H1, ee, s1, g1, N1⟩ := bq (o := HO.lst ((kt am ws).map V.int)) f2 hN rfl
   rw [ee]
   refine ⟨_, .inl (SqL.of g1), ?_⟩
   walk_at "rd"
   rw [zc, tI]
   by_cases e7 : (ws.length : Int) = l - f + 1
   case neg =>
    have es : shV H ⟨L2.T nm, L2.T pt, L2.T cu, .int f, .int l, .int am, .ref q⟩ = false := by
     unfold shV; dsimp only; rw [ew]; dsimp only; rw [e6, zc]
     show decide ((ws.length : Int) = l - f + 1) = false
     exact decide_eq_false e7
    rw [es] at ke
    exact itn e7 ⟨one, ke _ rfl H1 s1 N1⟩
   have es : shV H ⟨L2.T nm, L2.T pt, L2.T cu, .int f, .int l, .int am, .ref q⟩ = true := by
    unfold shV; dsimp only; rw [ew]; dsimp only; rw [e6, zc]
    show decide ((ws.length : Int) = l - f + 1) = true
    exact decide_eq_true e7
   rw [if_pos es] at ke kk
   change ∀ C, (WCS a)[ite ((fnd bs nm).isSome = true) 6 8]? = some C -> _ at ke
   change ite ((fnd bs nm).isSome = true) 6 8 = 8 -> _ at kk
   refine itp e7 ?_
   have J1 := J.same s1
   obtain ⟨dx1, hp1⟩ := J1.ob
   have g := DGet.k (k := .inr ⟨⟨nm⟩⟩) J1.dc
   rw [pQ] at g
   refine ⟨_, _, _, _, hp1, T.aY, T.bM, lkb _, d, _, rfl, g, ?_⟩
   rw [Yw]
   cases ef : fnd bs nm with
   | some o => rw [ef] at ke; exact itp rfl ⟨one, ke _ rfl H1 s1 N1⟩
   | none =>
    rw [ef, if_neg (by intro z; cases z)] at kk
    refine itn (by intro z; cases z) ?_
    refine ⟨_, .inl ⟨SqL.of (s1 _ _ hq), fun wt fwt => ?_⟩⟩
    obtain ⟨H2, ee, s2, g2, N2⟩ := bq (o := HO.tup (ws.map V.int)) fwt N1 rfl
    rw [ee]
    refine ⟨by omega, fun ag fag => ?_⟩
    obtain ⟨H3, ee, s3, g3, N3⟩ := bq (o := HO.tup [L2.T pt, L2.T cu, V.int f, V.int l, V.int am, V.ref wt]) fag N2 rfl
    rw [ee]
    intro x dx hx hdx ne
    refine ⟨dx, _, f, aj, (ar (ai g3 hx)).trans ((ar (ai g3 hdx)).trans g3), a9 (j := 2) rfl, ?_⟩
    rw [pU]
    have s6 : Same H3 (upd (upd H3 dx (.own x)) x (.ins a.aw dx (oz (.ref ag) (.int f) (.ref q2)))) := fun c z e => by rw [ar (ai e hx), ar (ai e hdx)]; exact e
    have N6 : NoT (upd (upd H3 dx (.own x)) x (.ins a.aw dx (oz (.ref ag) (.int f) (.ref q2)))) := aJ (aJ N3 rfl) rfl
    have g6 : upd (upd H3 dx (.own x)) x (.ins a.aw dx (oz (.ref ag) (.int f) (.ref q2))) x = _ := aj
    generalize upd (upd H3 dx (.own x)) x (.ins a.aw dx (oz (.ref ag) (.int f) (.ref q2))) = H6 at s6 N6 g6 |-
    have s13 := s1.trans (s2.trans s3)
    have s16 := s13.trans s6
    have J6 := J.same s16
    obtain ⟨dx6, hp6⟩ := J6.ob
    refine ⟨_, _, _, _, hp6, T.aY, T.bM, lkb _, d, _, rfl, DPut.k (k := .inr ⟨⟨nm⟩⟩) J6.dc (by rw [zc]; omega), ?_⟩
    rw [Cq ef ⟨nm, x, ag, wt, q2, pt, cu, f, l, am, ws⟩ rfl]
    obtain ⟨ws', ews, wb, w1, w60, wS⟩ := zL e6
    have ews : ws = ws' := (List.map_inj_right (f := V.int) fun a b h => V.int.inj h).mp ews
    subst ews
    exact kk rfl ⟨nm, x, ag, wt, q2, pt, cu, f, l, am, ws⟩ _ ⟨rfl, rfl, rfl, rfl, rfl, rfl, ew, ⟨wb, w1, w60, wS⟩, e7, ⟨f0, l1⟩, ⟨am0, am1⟩⟩ (s13.free hx) f2 (J.more (Keep.same s16) (o := ⟨nm, x, ag, wt, q2, pt, cu, f, l, am, ws⟩) ef (s13.free hx) ⟨⟨dx, g6⟩, ⟨s6 _ _ g3, s6 _ _ (s3 _ _ g2)⟩, s6 _ _ (s3 _ _ (s2 _ _ g1))⟩) ((Keep.same s16).put (.head _)) (aJ N6 rfl)
 ·refine .inr ⟨t, hk, hi, ?_⟩
  have es : shV H ⟨L2.T nm, L2.T pt, L2.T cu, .int f, .int l, .int am, x7⟩ = false := by
   have e : wlV H x7 = none := by
    cases h : wlV H x7 with
    | none => rfl
    | some xs =>
     obtain ⟨q, rfl, hq⟩ := Hl h
     have : bJ H (.ref q) = some "list" := by simp [bJ, hq]
     rw [this] at hk; cases hk; cases hi
   unfold shV; dsimp only; rw [e]
  rw [es] at ke
  exact ke _ rfl H (Same.refl _) hN
open K17
def Gq (C dx b u : Addr) : HO := .ins C dx [("bookings", .ref b), ("undoings", .ref u)]
theorem lkj (x y : V) : nj (wo "bookings") [(wo "bookings", x), (wo "undoings", y)] = some x := qz
structure JAt (C : Addr) (H : Hp) (p b u : Addr) (bs : List V) : Prop where
 ob : ∃ dx, H p = some (Gq C dx b u)
 ls : H b = some (.lst bs)
 dc : H u = some (.dK [])
theorem JAt.keep {C : Addr} {S : List Addr} {H H' : Hp} {p b u : Addr} {bs : List V} (j : JAt C H p b u bs) (x : Keep S H H') (hp : p ∉ S) (hb : b ∉ S) (hu : u ∉ S) : JAt C H' p b u bs :=
 ⟨by obtain ⟨dx, e⟩ := j.ob; exact ⟨dx, x _ _ e hp⟩, x _ _ j.ls hb, x _ _ j.dc hu⟩
def sp_sX (C : Addr) : Sp := sp1 fun x H Q _ => NoT H /\ asR x fun p => ∃ dx, H p = some (.ins C dx []) /\ ∀ b u H', H b = none -> H u = none -> JAt C H' p b u [] -> Keep [p] H H' -> NoT H' -> Q .non H'
theorem kh (T : Txt K mg a) : bg P w K mg base (XE P w) 1 a.cM a.fu ["self"] (sp_sX a.av) := by
 refine T.fT.okX kc (fun vs H Q E h => sp1.len h) (fun cdv A outer s H vs Q E hr h => ?_)
 obtain ⟨x0, rfl, h⟩ := sp1.inv h
 try dsimp only [sp_sX, sp1] at h
 obtain ⟨hN, h1⟩ := h
 obtain ⟨p, rfl, dx, hp, k⟩ := asR.inv h1
 refine ⟨_, (af (j5 K (fv 0) (cw (FA.pa ad)))
  (ak (j5 K (fv 0) uq))), ?_⟩
 walk_at "rd"
 refine ⟨o3 _, fun b hb => ?_⟩
 have np : p ≠ b := ai hp hb
 refine ⟨_, _, _, (ar np).trans hp, T.dO, T.cH, by show 0 < 1000; decide, fun u hu => ?_⟩
 have nu : p ≠ u := fun q => by rw [<- q, aj] at hu; cases hu
 have nb : b ≠ u := fun q => by rw [<- q, ar (Ne.symm np), aj] at hu; cases hu
 refine ⟨_, _, _, (ar nu).trans aj, T.dO, T.lZ, by show 1 < 1000; decide, ?_⟩
 have hu0 : H u = none := by
  rw [ar (Ne.symm nu), ar (Ne.symm nb)] at hu; exact hu
 refine k b u _ hb hu0 ⟨⟨dx, ?_⟩, ?_, ?_⟩ ?_ ?_
 ·rw [aj]
  have e : fH (wo "undoings") (V.ref u) (fH (wo "bookings") (V.ref b) []) = [(wo "bookings", .ref b), (wo "undoings", .ref u)] := by
   have q : ¬ (wo "bookings" = wo "undoings") := by decide +kernel
   simp [fH, q]
  rw [e]; rfl
 ·rw [ar (Ne.symm np), ar nb, ar (Ne.symm np), aj]
 ·rw [ar (Ne.symm nu), aj]
 ·exact (((Keep.refl.new hb).put (zr.2 rfl)).new hu).put (zr.2 rfl)
 ·exact aJ (aJ (aJ (aJ hN rfl) rfl) rfl) rfl
def sp_xp (C : Addr) : Sp := sp5 fun x d n r o H Q _ => NoT H /\ asR x fun p => asR r fun r => o = .non /\ ∃ b u bs rs, JAt C H p b u bs /\ bs.length <= 100 /\ H r = some (.lst rs) /\
 ∀ t q H', H t = none -> H' t = some (.tup rs) -> H q = none -> H' q = some (.tup [.int bs.length, d, n, .ref t, .non]) -> JAt C H' p b u (bs ++ [.ref q]) -> Keep [b] H H' -> NoT H' -> Q (.int bs.length) H'
theorem qx (T : Txt K mg a) : bg P w K mg base (XE P w) 1 a.hX a.jt ["self", "day", "note", "rows", "undoes"] (sp_xp a.av) := by
 refine T.kA.okX i9 (fun vs H Q E h => sp5.len h) (fun cdv A outer s H vs Q E hr h => ?_)
 obtain ⟨x0, x1, x2, x3, x4, rfl, h⟩ := sp5.inv h
 try dsimp only [sp_xp, sp5] at h
 have ND := i9.nd
 have HU := bj hr
 obtain ⟨hN, h1⟩ := h
 obtain ⟨p, rfl, h2⟩ := asR.inv h1
 obtain ⟨r, rfl, rfl, b, u, bs, rs, J, l1, hs, k⟩ := asR.inv h2
 obtain ⟨dx, hp⟩ := J.ob
 refine ⟨_, (af (aK (i := 5) ND rfl (Or.inl rfl) (aE (dM K) rfl T.iQ fh (FA.pa (aa (dL K (fv 0)) ad))))
  (af (dv (fM K Zi Zk Zl d4 (dL K (fv 0)) (FA.pa (aa (dQ (FA.pa (aa (fv 5) (aa (fv 1) (aa (fv 2) (aa (fL (vF K) rfl T.vm qf (FA.pa (aa (fv 3) ad))) (aa (fv 4) ad))))))) ad))))
  (af (bz (w8 (CM (fv 4))) (ak (eW (Zs HU) (dL K (fv 0)) (fv 4) (fv 5) rfl)) aV)
  (ak (aG (fv 5)))))), ?_⟩
 walk_at "rd"
 refine ⟨_, _, _, _, hp, T.dO, T.cH, lkj _ _, bs, .inl (.inl (.inl J.ls)), _, _, _, _, hp, T.dO, T.cH, lkj _ _, .inl ⟨rfl, bs, .inl (.inl J.ls)⟩, rs, .inl ⟨SqL.of hs, fun t ht => ⟨by rw [ue]; decide, fun q hq => ?_⟩⟩⟩
 have nb : p ≠ b := cW hp J.ls
 have bu : b ≠ u := cW J.ls J.dc
 have tp : p ≠ t := ai hp ht
 have tb : b ≠ t := ai J.ls ht
 have tu : u ≠ t := ai J.dc ht
 have s1 := az (HO.tup rs) ht
 have qb := ai (s1 _ _ J.ls) hq
 have qu := ai (s1 _ _ J.dc) hq
 have qp := ai (s1 _ _ hp) hq
 have qt : t ≠ q := ai aj hq
 have q0 : H q = none := s1.free hq
 refine ⟨b, bs, _, rfl, rfl, by rw [ar qb, ar tb]; exact J.ls, by rw [ue]; omega, ?_⟩
 refine k t q _ ht ?_ q0 ?_ ⟨⟨dx, ?_⟩, aj, ?_⟩ (((Keep.refl.new ht).new hq).put (.head _)) (aJ (aJ (aJ hN rfl) rfl) rfl)
 ·rw [ar (Ne.symm tb), ar qt, aj]
 ·rw [ar (Ne.symm qb), aj]
 ·rw [ar nb, ar qp, ar tp]; exact hp
 ·rw [ar (Ne.symm bu), ar qu, ar tu]; exact J.dc
def sp_qM (C : Addr) : Sp := sp1 fun x H Q _ => NoT H /\ asR x fun p => ∃ b u bs, JAt C H p b u bs /\ ∀ q, H q = none -> Q (.ref q) (upd H q (.lst bs))
theorem om (T : Txt K mg a) : bg P w K mg base (XE P w) 1 a.fk a.ir ["self"] (sp_qM a.av) := by
 refine T.i5.okG oj (fun vs H Q E h => sp1.len h) (fun cdv A outer s H vs Q E hr h => ?_)
 obtain ⟨x0, rfl, h⟩ := sp1.inv h
 try dsimp only [sp_qM, sp1] at h
 obtain ⟨hN, h1⟩ := h
 obtain ⟨p, rfl, b, u, bs, J, k⟩ := asR.inv h1
 obtain ⟨dx, hp⟩ := J.ob
 refine ⟨hN, _, (ak (aG (fL (zK K) rfl T.vB pN (FA.pa (aa (dL K (fv 0)) ad))))), ?_⟩
 walk_at "rd"
 exact ⟨_, _, _, _, hp, T.dO, T.cH, lkj _ _, bs, .inl (.inl (.inl J.ls)), fun l hl => ⟨_, Gc.one (az _ hl) hl aj rfl, k l hl⟩⟩
def RwAt (H : Hp) (v : V) (r : Row) : Prop := ∃ q, v = .ref q /\ H q = some (.tup [L2.T r.pa, L2.T r.cu, .int r.am])
def BkAt (H : Hp) (v : V) (b : Bk) : Prop := ∃ q t vs, v = .ref q /\ H q = some (.tup [.int b.k, .int b.d, L2.T [], .ref t, .non]) /\ H t = some (.tup vs) /\ A2 (RwAt H) vs b.rs
def GU (b : Bk) : Prop := b.rs.length <= 10 /\ ∀ r ∈ b.rs, r.pa.length <= 200
def LW (W : List Addr) (H : Hp) : Prop := ∀ s ∈ W, ∃ o, H s = some o /\ ∀ l, o ≠ .tup l
theorem LW.nil {H : Hp} : LW [] H := fun _ h => nomatch h
theorem LW.one {H : Hp} {s : Addr} {xs : List V} (h : H s = some (.lst xs)) : LW [s] H := fun z m => by rw [zr.mp m]; exact ⟨_, h, by intro _ z; cases z⟩
theorem LW.no {W : List Addr} {H : Hp} (t : LW W H) {q : Addr} {l : List V} (h : H q = some (.tup l)) : q ∉ W := fun m => by
 obtain ⟨o, e, n⟩ := t q m
 rw [h] at e; cases e; exact n _ rfl
section
variable {W : List Addr} {H H' : Hp} (x : Keep W H H') (t : LW W H)
include x t
theorem RwAt.keep {v : V} {r : Row} (h : RwAt H v r) : RwAt H' v r := by
 obtain ⟨q, rfl, e⟩ := h
 exact ⟨q, rfl, x _ _ e (t.no e)⟩
theorem iq {vs : List V} {rs : List Row} (h : A2 (RwAt H) vs rs) : A2 (RwAt H') vs rs := h.imp fun _ _ _ _ r => r.keep x t
theorem BkAt.keep {v : V} {b : Bk} (h : BkAt H v b) : BkAt H' v b := by
 obtain ⟨q, u, vs, rfl, e1, e2, r⟩ := h
 exact ⟨q, u, vs, rfl, x _ _ e1 (t.no e1), x _ _ e2 (t.no e2), iq x t r⟩
theorem qL {vs : List V} {bs : List Bk} (h : A2 (BkAt H) vs bs) : A2 (BkAt H') vs bs := h.imp fun _ _ _ _ r => r.keep x t
end
def pE (H : Hp) (v : V) : Row := match v with
 | .ref q => (match H q with
  | some (.tup [.str x, .str y, .int i]) => ⟨x.cps.toList, y.cps.toList, i⟩
  | _ => ⟨[], [], 0⟩)
 | _ => ⟨[], [], 0⟩
theorem RwAt.row {H : Hp} {v : V} {r : Row} (h : RwAt H v r) : pE H v = r := by
 obtain ⟨q, rfl, e⟩ := h
 show (match H q with | some (.tup [.str x, .str y, .int i]) => (⟨x.cps.toList, y.cps.toList, i⟩ : Row) | _ => ⟨[], [], 0⟩) = r
 rw [e]
theorem xr {H : Hp} {vs : List V} {rs : List Row} (h : A2 (RwAt H) vs rs) : vs.map (pE H) = rs := by
 induction h with
 | nil => rfl
 | cons r _ ih => rw [wW, ih, r.row]
theorem FM {H : Hp} {vs : List V} {rs : List Row} (h : A2 (RwAt H) vs rs) (l c : List Nat) : (vs.filter fun v => decide ((pE H v).cu = c) && wi (pE H v).pa l).map (fun v => V.int (pE H v).am) = (amt rs l c).map V.int := by
 unfold amt
 rw [<- xr h, List.filter_map, vD, vD]; rfl
def sp_qa (K : W.Frag) : Sp := sp3 fun x y z H Q _ => NoT H /\ asR x fun q => asT y fun l => asT z fun c => l.length <= 200 /\ ∃ v0 v1 v2 v4 t vs rs, H q = some (.tup [v0, v1, v2, .ref t, v4]) /\ H t = some (.tup vs) /\ A2 (RwAt H) vs rs /\ rs.length <= 10 /\
 ∀ p, H p = none -> Q (.ref p) (upd H p (.lst ((amt rs l c).map V.int)))
theorem mZ (T : Txt K mg a) : bg P w K mg base (XE P w) 2 a.eN a.gO ["booking", "path", "currency"] (sp_qa K) := by
 refine T.eM.okG mY (fun vs H Q E h => sp3.len h) (fun cdv A outer s H vs Q E hr h => ?_)
 obtain ⟨x0, x1, x2, rfl, h⟩ := sp3.inv h
 try dsimp only [sp_qa, sp3] at h
 have HU := bj hr
 obtain ⟨hN, h1⟩ := h
 obtain ⟨q, rfl, h2⟩ := asR.inv h1
 obtain ⟨l, rfl, h3⟩ := asT.inv h2
 obtain ⟨c, rfl, hl, v0, v1, v2, v4, t, vs, rs, hq, ht, hw, len, k⟩ := asT.inv h3
 have G_is_within := @uv P w K mg base a T
 have b_is_within := uO T.jX
 refine ⟨hN, _, (ak (aG (cB rfl (cl := _) (x := "row") (xs := ["row"]) (fr := ["currency", "path"]) (ks := [2, 1]) (by walk_at "cq") rfl (DI K (aX (aD K) (fv 0) ac (fun _ _ => rfl))) (fun _ _ _ _ _ => (aI (i := 0) (dD (l := ["row", "currency", "path"]) (by decide)) rfl (Or.inl rfl))) (fun _ _ _ _ _ => (pT (L2.PW.pt (rT (bE (bV K HU) (aX (aD K) (fv 0) ac (fun _ _ => rfl)) (fv 1) (a_ _)) (pW (b_ (ao G_is_within (hr.mono (by decide)) rfl T.xn T.jX.kp b_is_within .nil rS (FA.pa (aa (aX (aD K) (fv 0) ac (fun _ _ => rfl)) (aa (fv 2) ad)))))))))) (fun _ _ _ _ _ => (aX (aD K) (fv 0) ac (fun _ _ => rfl)))))), ?_⟩
 walk_at "rd"
 have sz := szl
 refine cmT t vs (fun H' => NoT H' /\ Same H H') (fun D ys hD => ⟨aJ hN rfl, az _ hD⟩) (fun H' c => SqT.of (c.2 _ _ ht)) (fun v => decide ((pE H v).cu = c) && wi (pE H v).pa l) (fun v => V.int (pE H v).am) (fun R r => ?_) (SqT.of ht) (by have := hw.len; omega) (fun x hx H' R cc r => ?_) (fun x hx _ H' R cc r => ?_) (fun D hD => ?_)
 ·walk_at "rd"
  exact ⟨_, _, .inr (SqT.of hq), rfl, r⟩
 ·obtain ⟨r0, m0, w0⟩ := hw.mem hx
  have er := w0.row
  obtain ⟨q0, rfl, e0⟩ := w0
  rw [er] at r
  have e1 := cc.2 _ _ e0
  walk_at "rd"
  refine ⟨_, _, .inr (SqT.of e1), rfl, ?_⟩
  walk_at "rd"
  split
  ·rename_i h
   rw [decide_eq_true h, Z0] at r
   refine ⟨_, _, .inr (SqT.of e1), rfl, cc.1, ?_⟩
   walk_at "rd"
   exact ⟨by walk_at "om", r⟩
  ·rename_i h
   rw [decide_eq_false h, Bool.false_and] at r
   exact r
 ·obtain ⟨r0, m0, w0⟩ := hw.mem hx
  have er := w0.row
  obtain ⟨q0, rfl, e0⟩ := w0
  rw [er] at r
  have e1 := cc.2 _ _ e0
  walk_at "rd"
  exact ⟨_, _, .inr (SqT.of e1), rfl, r⟩
 ·rw [FM hw]
  exact ⟨_, Gc.one (az _ hD) hD aj rfl, k D hD⟩
end
section
variable {pS : Addr} {ns : List Int} {P : Program} {w : World} {K : W.Frag} {mg : Str -> Option Value} {base : Heap} {a : Adr}
open K17 K3
theorem Bj {ks : List Nat} {tt : TT} {te : TE} {σ : St} {H1 : Hp} {Q : VK} (a : Addr) (xs : List V) (p : V -> Bool) (ha : H1 a = some (.lst xs)) (hz : xs.length < sizeLine)
 (hp : ∀ x ∈ xs, ∀ G (R : Bool -> Hp -> Prop), Same H1 G -> R (p x) G -> tt ([some x] ++ ks.map fun k => (σ[k]?).join) G R)
 (he : ∀ x ∈ xs, ∀ G (R : VK), Same H1 G -> R x G -> te ([some x] ++ ks.map fun k => (σ[k]?).join) G R)
 (k : ∀ D, H1 D = none -> Q (.ref D) (upd H1 D (.lst (xs.filter p)))) : CEl (Itl K a) 1 (ii 0) ks tt te σ H1 Q := by
 refine CI a xs (fun D i ys G => H1 D = none /\ G = upd H1 D (.lst ys) /\ ys = (xs.take i).filter p) hz ?_ ?_ ?_ ?_
 ·exact fun D hD => ⟨hD, rfl, rfl⟩
 ·rintro D i ys G ⟨hD, rfl, rfl⟩
  exact ⟨aj, SqL.of ((az _ hD) _ _ ha), qM (Z6 _ _) (by rw [qK]; omega)⟩
 ·rintro D i y ys G zs N1 N0 hy ⟨hD, rfl, rfl⟩ hzs n1 n0
  have my := tM hy
  obtain ⟨z1, rfl⟩ := ex1 hzs
  have et : xs.take (i + 1) = xs.take i ++ [y] := by rw [ZQ, hy]; rfl
  rw [et, Ze] at n1 n0
  refine ⟨⟨[_], rfl, rfl⟩, hp y my _ _ (az _ hD) ?_⟩
  cases e : p y with
  | false =>
   rw [Zg (by simp [e]), Yh, ZF] at n0
   exact itn (by decide) (n0 _ ⟨hD, rfl, rfl⟩)
  | true =>
   rw [Zh (by simp [e]), Yh] at n1
   exact itp rfl (he y my _ _ (az _ hD) (n1 _ _ aj ⟨hD, by rw [pU], rfl⟩))
 ·rintro D ys G ⟨hD, rfl, rfl⟩
  rw [ZT]
  exact k D hD
theorem cI {H H' : Hp} {D : Addr} {o : HO} (s : Same H H') (h : H D = none) : Same H (upd H' D o) := fun c z e => by
 rw [ar (ai e h)]; exact s c z e
def MkA {β : Type} (mk : β -> List V) (H G : Hp) (v : V) (y : β) : Prop := ∃ q, v = .ref q /\ H q = none /\ G q = some (.tup (mk y))
theorem GP {β : Type} {n : Nat} {g : TG} {ks : List Nat} {tt : TT} {te : TE} {σ : St} {H1 : Hp} {Q : VK} (a : Addr) (xs : List V) (ys : List β) (p : β -> Bool) (cl : β -> St) (mk : β -> List V) (hN : NoT H1) (ha : H1 a = some (.lst xs)) (hz : xs.length < sizeLine) (hcl : ∀ y ∈ ys, (cl y).length = n)
 (he : A2 (fun x y => y ∈ ys -> ∀ G (R1 : St -> Hp -> Prop), Same H1 G -> NoT G -> (∀ zs : St, zs.length = n -> R1 (cl y ++ ks.map fun k => (σ[k]?).join) G -> g x (zs ++ ks.map fun k => (σ[k]?).join) G R1) /\ (∀ (R : Bool -> Hp -> Prop), R (p y) G -> tt (cl y ++ ks.map fun k => (σ[k]?).join) G R) /\ ∀ (R : VK), (∀ q, G q = none -> R (.ref q) (upd G q (.tup (mk y)))) -> te (cl y ++ ks.map fun k => (σ[k]?).join) G R) xs ys)
 (k : ∀ D vs G, H1 D = none -> Same H1 G -> NoT G -> G D = some (.lst vs) -> A2 (MkA mk H1 G) vs (ys.filter p) -> Q (.ref D) G) : CEl (Itl K a) n g ks tt te σ H1 Q := by
 refine CI a xs (fun D i vs G => H1 D = none /\ Same H1 G /\ NoT G /\ G D = some (.lst vs) /\ vs.length <= i /\ A2 (fun v y => MkA mk H1 G v y /\ v ≠ .ref D) vs ((ys.take i).filter p)) hz ?_ ?_ ?_ ?_
 ·exact fun D hD => ⟨hD, az _ hD, aJ hN rfl, aj, zM _, .nil⟩
 ·rintro D i vs G ⟨hD, sm, _, gd, ly, _⟩
  exact ⟨gd, SqL.of (sm _ _ ha), ly⟩
 ·rintro D i x vs G zs N1 N0 hx ⟨hD, sm, nG, gd, ly, A⟩ hzs n1 n0
  obtain ⟨y, hy, hh⟩ := A2.at_ he hx
  have my := tM hy
  obtain ⟨h1, h2, h3⟩ := hh my G _ sm nG
  refine h1 zs hzs ⟨⟨cl y, hcl y my, rfl⟩, h2 _ ?_⟩
  have et : ys.take (i + 1) = ys.take i ++ [y] := by rw [ZQ, hy]; rfl
  cases e : p y with
  | false =>
   refine itn (by decide) (n0 _ ⟨hD, sm, nG, gd, by omega, ?_⟩)
   rw [et, Ze, Zg (by simp [e]), Yh, ZF]
   exact A
  | true =>
   refine itp rfl (h3 _ fun l fl => ?_)
   have nl : l ≠ D := Ne.symm (ai gd fl)
   have m2 := sm.trans (az (HO.tup (mk y)) fl)
   refine n1 _ _ ((az _ fl) _ _ gd) ⟨hD, cI m2 hD, aJ (aJ nG rfl) rfl, aj, by rw [wz, t8]; omega, ?_⟩
   rw [et, Ze, Zh e, Yh]
   refine (A.imp fun v y' _ _ h => ?_).snoc ⟨⟨l, rfl, sm.free fl, (ar nl).trans aj⟩, fun z => nl (by cases z; rfl)⟩
   obtain ⟨⟨q', rfl, f', e'⟩, n'⟩ := h
   have nq : q' ≠ D := fun z => n' (by rw [z])
   exact ⟨⟨q', rfl, f', (ar nq).trans ((az _ fl) _ _ e')⟩, n'⟩
 ·rintro D vs G ⟨hD, sm, nG, gd, ly, A⟩
  rw [he.len, ZT] at A
  exact k D vs G hD sm nG gd (A.imp fun _ _ _ _ h => h.1)
def bkD (H : Hp) (v : V) : Int := match v with
 | .ref q => (match H q with
  | some (.tup [_, .int d, _, _, _]) => d
  | _ => 0)
 | _ => 0
theorem BkAt.day {H : Hp} {v : V} {b : Bk} (h : BkAt H v b) : bkD H v = b.d := by
 obtain ⟨q, t, vs, rfl, e, _⟩ := h
 show (match H q with | some (.tup [_, .int d, _, _, _]) => d | _ => 0) = b.d
 rw [e]
theorem A2.filt {α β : Type} {R : α -> β -> Prop} {p : α -> Bool} {q : β -> Bool} {as : List α} {bs : List β} (h : A2 R as bs) (g : ∀ x y, R x y -> p x = q y) : A2 R (as.filter p) (bs.filter q) := by
 induction h with
 | nil => exact .nil
 | @cons x y _ _ r _ ih =>
  have e := g x y r
  cases h : p x with
  | true => rw [Zh h, Zh (e ▸ h)]; exact .cons r ih
  | false => rw [Zg (by simp [h]), Zg (by rw [<- e, h]; decide)]; exact ih
def dyP (f t : Int) (b : Bk) : Bool := decide (f <= b.d) && decide (b.d <= t)
def SWI (B : List Bk) (l c : List Nat) (f t : Int) : Int := ((B.filter (dyP f t)).map fun b => (amt b.rs l c).sum).sum
structure JB (J : Addr) (H : Hp) (p b u : Addr) (bs : List V) (B : List Bk) : Prop where
 at_ : JAt J H p b u bs
 bk : A2 (BkAt H) bs B
 ok : ∀ b ∈ B, GU b
 ln : B.length <= 50
theorem JAt.same {C : Addr} {H H' : Hp} {p b u : Addr} {bs : List V} (j : JAt C H p b u bs) (s : Same H H') : JAt C H' p b u bs := j.keep (Keep.same (S := []) s) yU yU yU
theorem JB.same {J : Addr} {H H' : Hp} {p b u : Addr} {bs : List V} {B : List Bk} (j : JB J H p b u bs B) (s : Same H H') : JB J H' p b u bs B := ⟨j.at_.same s, qL (Keep.same s) LW.nil j.bk, j.ok, j.ln⟩
theorem A2.ofMap {α β γ : Type} {R : β -> γ -> Prop} {f : α -> β} {g : α -> γ} : ∀ (ls : List α), (∀ l ∈ ls, R (f l) (g l)) -> A2 R (ls.map f) (ls.map g)
 | [], _ => .nil
 | l :: ls, h => .cons (h l (.head _)) (A2.ofMap ls fun x hx => h x (.tail _ hx))
def CQ (H : Hp) (l c : List Nat) (v : V) : Int := match v with
 | .ref q => (match H q with
  | some (.tup [_, _, _, .ref t, _]) => (match H t with
   | some (.tup vs) => (amt (vs.map (pE H)) l c).sum
   | _ => 0)
  | _ => 0)
 | _ => 0
theorem BkAt.sum {H : Hp} {v : V} {b : Bk} (h : BkAt H v b) (l c : List Nat) : CQ H l c v = (amt b.rs l c).sum := by
 obtain ⟨q, t, vs, rfl, e, e1, r⟩ := h
 show (match H q with | some (.tup [_, _, _, .ref t, _]) => (match H t with | some (.tup vs) => (amt (vs.map (pE H)) l c).sum | _ => 0) | _ => 0) = _
 rw [e]
 show (match H t with | some (.tup vs) => (amt (vs.map (pE H)) l c).sum | _ => 0) = _
 rw [e1]
 show (amt (vs.map (pE H)) l c).sum = _
 rw [xr r]
theorem Cu {H : Hp} {vs : List V} {B : List Bk} (h : A2 (BkAt H) vs B) (l c : List Nat) : vs.map (CQ H l c) = B.map fun b => (amt b.rs l c).sum := by
 induction h with
 | nil => rfl
 | cons r _ ih => rw [wW, wW, ih, r.sum]
theorem CD (x y : V) : nj (wo "every") [(wo "bookings", x), (wo "undoings", y)] = none := by rw [fG (by decide +kernel), fG (by decide +kernel)]; rfl
def sp_yU (J : Addr) : Sp := sp5 fun x y z f t H Q _ => NoT H /\ asR x fun p => asT y fun l => asT z fun c => asI f fun f => asI t fun t => ∃ b u bs B, JB J H p b u bs B /\ l.length <= 200 /\ Q (.int (SWI B l c f t)) H
theorem r_ (T : Txt K mg a) : bg P w K mg base (XE P w) 3 a.iw a.kJ ["journal", "path", "currency", "first", "last"] (sp_yU a.av) := by
 refine T.iL.okG kQ (fun vs H Q E h => sp5.len h) (fun cdv A outer s H vs Q E hr h => ?_)
 obtain ⟨x0, x1, x2, x3, x4, rfl, h⟩ := sp5.inv h
 try dsimp only [sp_yU, sp5] at h
 have ND := kQ.nd
 obtain ⟨hN, h1⟩ := h
 obtain ⟨p, rfl, h2⟩ := asR.inv h1
 obtain ⟨l, rfl, h3⟩ := asT.inv h2
 obtain ⟨c, rfl, h4⟩ := asT.inv h3
 obtain ⟨f, rfl, h5⟩ := asI.inv h4
 obtain ⟨t, rfl, b, u, bs, B, JJ, ll, k⟩ := asI.inv h5
 obtain ⟨dx, hp⟩ := JJ.at_.ob
 have sz := szl
 have lb := JJ.bk.len
 have lB := JJ.ln
 have G_amounts_within := @mZ P w K mg base a T
 have b_amounts_within := mV T.eM
 have G_Journal_every := @om P w K mg base a T
 have b_Journal_every := oI T.i5
 refine ⟨hN, _, (af (ic (i0 := 5) ND rfl (Or.inl rfl) rfl (cl := _) (x := "booking") (xs := ["booking"]) (fr := ["first", "last"]) (ks := [3, 4]) (by walk_at "cq") rfl (bQ K (tJ (fv 0) T.dO T.nY G_Journal_every (hr.mono (by decide)) b_Journal_every .nil aC)) (fun _ _ _ _ _ => (aI (i := 0) (dD (l := ["booking", "first", "last"]) (by decide)) rfl (Or.inl rfl))) (fun _ _ _ _ _ => (pT (qB fw fw (fv 1) (aX (aD K) (fv 0) ac (fun _ _ => rfl)) (fv 2)))) (fun _ _ _ _ _ => (fv 0)))
  (ak (aG (aE (gJ K rfl) rfl T.ph jf (FA.pa (aa (cB rfl (cl := _) (x := "booking") (xs := ["booking"]) (fr := ["path", "currency"]) (ks := [1, 2]) (by walk_at "cq") rfl (bQ K (fv 5)) (fun _ _ _ _ _ => (aI (i := 0) (dD (l := ["booking", "path", "currency"]) (by decide)) rfl (Or.inl rfl))) (fun _ _ _ _ _ => cF) (fun _ _ _ _ _ => (Hi (aE (gJ K rfl) rfl T.ph jf (FA.pa (aa (ao G_amounts_within (hr.mono (by decide)) rfl T.nX T.eM.kp b_amounts_within .nil rS (FA.pa (aa (fv 0) (aa (fv 1) (aa (fv 2) ad))))) ad)))))) ad)))))), ?_⟩
 walk_at "rd"
 refine v6 ?_
 walk_at "rd"
 refine ⟨_, _, hp, CD _ _, hN, b, u, bs, JJ.at_, fun q fq => ⟨⟨_, SqL.of aj⟩, ?_⟩⟩
 obtain ⟨H1, ee, s1, g1, N1⟩ := bq (o := HO.lst bs) fq hN rfl
 rw [ee]
 refine Bj q bs (fun v => decide (f <= bkD H v) && decide (bkD H v <= t)) g1 (by omega) (fun x hx G R s r => ?_) (fun x hx G R s r => r) (fun D hD => ?_)
 ·obtain ⟨bk, mb, hb⟩ := JJ.bk.mem hx
  rw [hb.day] at r
  obtain ⟨q0, t0, vs, rfl, e, e1, rr⟩ := hb
  walk_at "rd"
  refine ⟨_, _, .inr (SqT.of (s _ _ (s1 _ _ e))), a9 (j := 1) rfl, ?_⟩
  walk_at "rd"
  by_cases h : f <= bk.d
  ·rw [decide_eq_true h] at r; exact itp h r
  ·rw [decide_eq_false h] at r; exact itn h r
 have A := A2.filt (p := fun v => decide (f <= bkD H v) && decide (bkD H v <= t)) (q := dyP f t) JJ.bk fun x y r => by rw [r.day]; rfl
 have lf : (bs.filter fun v => decide (f <= bkD H v) && decide (bkD H v <= t)).length <= bs.length := Z6 _ _
 have okf : ∀ b ∈ B.filter (dyP f t), GU b := fun b hb => JJ.ok b (List.mem_filter.mp hb).1
 unfold SWI at k
 generalize B.filter (dyP f t) = B2 at A okf k
 generalize bs.filter (fun v => decide (f <= bkD H v) && decide (bkD H v <= t)) = bs2 at A lf
 obtain ⟨H2, ee, s2, g2, N2⟩ := bq (o := HO.lst bs2) hD N1 rfl
 rw [ee]
 have s12 := s1.trans s2
 refine cmL D bs2 (fun H' => NoT H' /\ Same H2 H') (fun D ys hD => ⟨aJ N2 rfl, az _ hD⟩) (fun H' c => SqL.of (c.2 _ _ g2)) (fun _ => true) (fun v => .int (CQ H l c v)) (fun R r => r) (SqL.of g2) (by omega) (fun x _ H' R _ r => r) (fun x hx _ H' R cc r => ?_) (fun D2 hD2 => ?_)
 ·obtain ⟨bk, mb, hb⟩ := A.mem hx
  rw [hb.sum] at r
  obtain ⟨q0, t0, vs, rfl, e, e1, rr⟩ := hb
  have s3 := s12.trans cc.2
  walk_at "rd"
  refine ⟨cc.1, cc.1, ll, _, _, _, _, _, _, _, s3 _ _ e, s3 _ _ e1, iq (Keep.same s3) LW.nil rr, (okf bk mb).1, fun p1 f1 => ⟨_, .inl (SqL.of aj), H', Gc.none (az _ f1), r⟩⟩
 ·rw [pb.mpr (by simp)]
  have e : bs2.map (fun v => V.int (CQ H l c v)) = (B2.map fun b => (amt b.rs l c).sum).map V.int := by rw [<- Cu A, vD]; rfl
  refine ⟨_, .inl (SqL.of (aj.trans (by rw [e]))), H, Gc.none (s12.trans (az _ hD2)), k⟩
def dnB (B : List Bk) (b : Bd) (m : Int) : Int := SWI B b.pt b.cu (FD b.f) (FD ((if b.l < m then b.l else m) + 1) - 1)
def sp_tN (S O J no : Addr) : Sp := sp4 fun x y n m H Q E => NoT H /\ asR x fun p => asR y fun jp => asI m fun m => asK H n fun _ => ∃ d os b u bs B, SAt S O H p d os /\ (∀ o ∈ os, o.pt.length <= 200) /\ JB J H jp b u bs B /\ pL (H := H) E no (gb os n) fun c => Q (.int (dnB B c m)) H
theorem mz (T : Txt K mg a) : bg P w K mg base (XE P w) 4 a.oU a.qC ["budgets", "journal", "name", "month"] (sp_tN a.au a.aw a.av a.aT) := by
 refine T.eP.okG pY (fun vs H Q E h => sp4.len h) (fun cdv A outer s H vs Q E hr h => ?_)
 obtain ⟨x0, x1, x2, x3, rfl, h⟩ := sp4.inv h
 try dsimp only [sp_tN, sp4] at h
 have ND := pY.nd
 obtain ⟨hN, h1⟩ := h
 obtain ⟨p, rfl, h2⟩ := asR.inv h1
 obtain ⟨jp, rfl, h3⟩ := asR.inv h2
 obtain ⟨m, rfl, h4⟩ := asI.inv h3
 obtain ⟨tn, ht, _, d, os, b, u, bs, B, J, lp, JJ, k⟩ := asK.inv h4
 obtain ⟨dx, hp⟩ := J.ob
 have G_sum_within := @r_ P w K mg base a T
 have b_sum_within := sB T.iL
 have G_last_day := @vR P w K mg base a T
 have b_last_day := xb T.mm
 have G_first_day := @m7 P w K mg base a T
 have b_first_day := mR T.e_
 have G_Budgets_terms := @oa P w K mg base a T
 have b_Budgets_terms := oE T.iX
 refine ⟨hN, _, (af (aK (i := 4) ND rfl (Or.inl rfl) (bY (fv 0) T.aY T.oO G_Budgets_terms (hr.mono (by decide)) b_Budgets_terms .nil aC (FA.pa (aa (fv 2) ad))))
  (af (aK (i := 5) ND rfl (Or.inl rfl) (aE (ya rfl) rfl T.AL xP (FA.pa (aa (fv 3) (aa (aX (aD K) (fv 4) ac (fun _ _ => rfl)) ad)))))
  (ak (aG (ao G_sum_within (hr.mono (by decide)) rfl T.uR T.iL.kp b_sum_within .nil aC (FA.pa (aa (fv 1) (aa (aX (aD K) (fv 4) ac (fun _ _ => rfl)) (aa (aX (aD K) (fv 4) ac (fun _ _ => rfl)) (aa (ao G_first_day (hr.mono (by decide)) rfl T.o6 T.e_.kp b_first_day .nil aC (FA.pa (aa (aX (aD K) (fv 4) ac (fun _ _ => rfl)) ad))) (aa (ao G_last_day (hr.mono (by decide)) rfl T.xB T.mm.kp b_last_day .nil aC (FA.pa (aa (fv 5) ad))) ad))))))))))), ?_⟩
 walk_at "rd"
 refine ⟨_, _, hp, ip "terms" _, hN, asK.of ht ⟨d, os, J, ?_⟩⟩
 cases e : gb os x2 with
 | none => rw [e] at k; exact ⟨H, Gc.none (Same.refl _), k⟩
 | some c =>
  rw [e] at k
  have A := (J.od c (jJ e)).ag
  dsimp only [pL]
  have hS := SqT.of (K := K) A.ag
  refine ⟨_, _, .inr hS, a9 (j := 3) rfl, ?_⟩
  walk_at "rd"
  exact ⟨_, _, .inr hS, a9 (j := 0) rfl, _, _, .inr hS, a9 (j := 1) rfl, _, _, .inr hS, a9 (j := 2) rfl, hN, hN, hN, b, u, bs, B, JJ, lp c (jJ e), k⟩
def sp_zc (S O J no : Addr) : Sp := sp4 fun x y n m H Q E => NoT H /\ asR x fun p => asR y fun jp => asI m fun m => asK H n fun _ => ∃ d os b u bs B, SAt S O H p d os /\ (∀ o ∈ os, o.pt.length <= 200) /\ JB J H jp b u bs B /\ pL (H := H) E no (gb os n) fun c => Q (.int (plB c m - dnB B c m)) H
theorem vC (T : Txt K mg a) : bg P w K mg base (XE P w) 5 a.xL a.zd ["budgets", "journal", "name", "month"] (sp_zc a.au a.aw a.av a.aT) := by
 refine T.lD.okG DN (fun vs H Q E h => sp4.len h) (fun cdv A outer s H vs Q E hr h => ?_)
 obtain ⟨x0, x1, x2, x3, rfl, h⟩ := sp4.inv h
 try dsimp only [sp_zc, sp4] at h
 obtain ⟨hN, h1⟩ := h
 obtain ⟨p, rfl, h2⟩ := asR.inv h1
 obtain ⟨jp, rfl, h3⟩ := asR.inv h2
 obtain ⟨m, rfl, h4⟩ := asI.inv h3
 obtain ⟨tn, ht, _, d, os, b, u, bs, B, J, lp, JJ, k⟩ := asK.inv h4
 obtain ⟨dx, hp⟩ := J.ob
 have G_Budgets_planned_by := @bF P w K mg base a T
 have b_Budgets_planned_by := bG T.bx
 have G_done_by := @mz P w K mg base a T
 have b_done_by := lG T.eP
 refine ⟨hN, _, (ak (aG (ah cE (bY (fv 0) T.aY T.aZ G_Budgets_planned_by (hr.mono (by decide)) b_Budgets_planned_by .nil aC (FA.pa (aa (fv 2) (aa (fv 3) ad)))) (ao G_done_by (hr.mono (by decide)) rfl T.nZ T.eP.kp b_done_by .nil aC (FA.pa (aa (fv 0) (aa (fv 1) (aa (fv 2) (aa (fv 3) ad))))))))), ?_⟩
 walk_at "rd"
 refine ⟨_, _, hp, ip "planned_by" _, hN, asK.of ht ⟨d, os, J, ?_⟩⟩
 cases e : gb os x2 with
 | none => rw [e] at k; exact ⟨H, Gc.none (Same.refl _), k⟩
 | some c =>
  rw [e] at k
  dsimp only [pL]
  refine ⟨hN, asK.of ht ⟨d, os, b, u, bs, B, J, lp, JJ, ?_⟩⟩
  rw [e]
  dsimp only [pL]
  walk_at "rd"
  exact k
noncomputable def ovL (B : List Bk) (os : List Bd) (m : Int) (ls : List (List Nat)) : List (List Nat × Int) := ls.map fun l => (l, match fnd os l with
 | some c => plB c m - dnB B c m
 | none => 0)
def ovN (e : List Nat × Int) : Bool := decide (e.2 < 0)
def mkO (e : List Nat × Int) : List V := [L2.T e.1, .int (-e.2)]
def mkR (e : List Nat × Int) : List V := [L2.T e.1, .int e.2]
def sp_yY (S O J : Addr) : Sp := sp3 fun x y m H Q _ => NoT H /\ asR x fun p => asR y fun jp => asI m fun m => ∃ d os b u bs B, SAt S O H p d os /\ (∀ o ∈ os, o.pt.length <= 200) /\ os.length < 64 /\ JB J H jp b u bs B /\
 ∀ ls : List (List Nat), ls.Perm (os.map (·.nm)) -> InO ls -> ∀ D vs G, H D = none -> Same H G -> NoT G -> G D = some (.lst vs) -> A2 (MkA mkO H G) vs ((ovL B os m ls).filter ovN) -> Q (.ref D) G
theorem DV (T : Txt K mg a) : bg P w K mg base (XE P w) 6 a.yw a.y6 ["budgets", "journal", "month"] (sp_yY a.au a.aw a.av) := by
 refine T.vj.okX zt (fun vs H Q E h => sp3.len h) (fun cdv A outer s H vs Q E hr h => ?_)
 obtain ⟨x0, x1, x2, rfl, h⟩ := sp3.inv h
 try dsimp only [sp_yY, sp3] at h
 have ND := zt.nd
 obtain ⟨hN, h1⟩ := h
 obtain ⟨p, rfl, h2⟩ := asR.inv h1
 obtain ⟨jp, rfl, h3⟩ := asR.inv h2
 obtain ⟨m, rfl, d, os, b, u, bs, B, J, lp, lo, JJ, k⟩ := asI.inv h3
 obtain ⟨dx, hp⟩ := J.ob
 have sz := szl
 have G_Budgets_names := @oB P w K mg base a T
 have b_Budgets_names := og T.iY
 have G_left := @vC P w K mg base a T
 have b_left := uo T.lD
 refine ⟨_, (af (ic (i0 := 3) ND rfl (Or.inl rfl) rfl (cl := _) (x := "name") (xs := ["name"]) (fr := ["budgets", "journal", "month"]) (ks := [0, 1, 2]) (by walk_at "cq") rfl (bQ K (tJ (fv 0) T.aY T.oP G_Budgets_names (hr.mono (by decide)) b_Budgets_names .nil aC)) (fun _ _ _ _ _ => (aI (i := 0) (dD (l := ["name", "budgets", "journal", "month"]) (by decide)) rfl (Or.inl rfl))) (fun _ _ _ _ _ => cF) (fun _ _ _ _ _ => (dQ (FA.pa (aa (fv 0) (aa (ao G_left (hr.mono (by decide)) rfl T.xw T.lD.kp b_left .nil rS (FA.pa (aa (fv 1) (aa (fv 2) (aa (fv 0) (aa (fv 3) ad)))))) ad))))))
  (ak (aG (cB rfl (cl := _) (x := "name") (xs := ["name", "rest"]) (fr := []) (ks := []) (by walk_at "cq") rfl (bQ K (fv 3)) (fun _ _ _ _ _ => (iM K (n := 2) rfl (ba (aI (i := 0) (dD (l := ["name", "rest"]) (by decide)) rfl (Or.inl rfl)) (ba (aI (i := 1) (dD (l := ["name", "rest"]) (by decide)) rfl (Or.inl rfl)) gR)))) (fun _ _ _ _ _ => (pT (bE wH (fv 1) ac (a_ _)))) (fun _ _ _ _ _ => (dQ (FA.pa (aa (fv 0) (aa (zG ur (fv 1)) ad))))))))), ?_⟩
 walk_at "rd"
 refine v6 ?_
 walk_at "rd"
 refine ⟨_, _, hp, ip "names" _, hN, d, os, J, lo, fun ls po io q fq => ⟨⟨_, SqL.of aj⟩, ?_⟩⟩
 obtain ⟨H1, ee, s1, g1, N1⟩ := bq (o := HO.lst (ls.map L2.T)) fq hN rfl
 rw [ee]
 have ll : ls.length < 64 := by rw [po.length_eq, zc]; exact lo
 have mem : ∀ l ∈ ls, ∃ c, fnd os l = some c := fun l hl => by
  obtain ⟨c, hc, rfl⟩ := rf.mp (po.mem_iff.mp hl)
  exact ⟨c, xI J.np hc⟩
 refine GP q (ls.map L2.T) (ovL B os m ls) (fun _ => true) (fun e => [some (L2.T e.1)]) mkR N1 g1 (by rw [zc]; omega) (fun _ _ => rfl) ?_ ?_
 ·refine A2.ofMap ls fun l hl => ?_
  intro _ G R1 sG nG
  refine ⟨fun zs hz r => ?_, fun R r => r, fun R r => ?_⟩
  ·obtain ⟨z, rfl⟩ := ex1 hz; exact r
  ·obtain ⟨c, ec⟩ := mem l hl
   have sG := s1.trans sG
   rw [show mkR (l, match fnd os l with | some c => plB c m - dnB B c m | none => 0) = [L2.T l, .int (plB c m - dnB B c m)] by rw [ec]; rfl] at r
   walk_at "rd"
   refine ⟨nG, d, os, b, u, bs, B, J.same sG, lp, JJ.same sG, ?_⟩
   rw [show gb os (L2.T l) = some c from ec]
   exact ⟨by omega, r⟩
 ·intro D vs G fD sG nG gD A
  rw [pb.mpr (by simp)] at A
  have lv := A.len
  have lO : (ovL B os m ls).length = ls.length := by unfold ovL; rw [zc]
  have s1G := s1.trans sG
  refine v6 ?_
  walk_at "rd"
  refine ⟨⟨_, SqL.of gD⟩, GP D vs (ovL B os m ls) ovN (fun e => [some (L2.T e.1), some (.int e.2)]) mkO nG gD (by omega) (fun _ _ => rfl) (A.imp fun v y _ _ h => ?_) fun D2 vs2 G2 fD2 sG2 nG2 gD2 A2' => k ls po io D2 vs2 G2 (s1G.free fD2) (s1G.trans sG2) nG2 gD2 (A2'.imp fun v y _ _ ⟨q, e, f, g⟩ => ⟨q, e, s1G.free f, g⟩)⟩
  obtain ⟨q0, rfl, _, g0⟩ := h
  intro _ G' R1 sG' nG'
  refine ⟨fun zs hz r => ?_, fun R r => ?_, fun R r => ?_⟩
  ·obtain ⟨z0, z1, rfl⟩ := ex2 hz
   walk_at "rd"
   exact ⟨q0, _, rfl, SqT.of (sG' _ _ g0), rfl, _, _, rfl, _, _, rfl, rfl, r⟩
  ·walk_at "rd"
   exact r
  ·walk_at "rd"
   exact ⟨by omega, r⟩
open K17 K3
theorem h_ {ta : TA} {g : TG} {tb : TS} {D : fI} {σ : St} {H : Hp} (h : ta σ H fun vs H1 => ∃ j : Int, vs = [.int j] /\ -(2 ^ 62) <= j /\ j < 2 ^ 62 /\ FE (Itr 0 j.toNat) g tb D σ H1) : v7 (By ta) g tb D σ H := h
theorem AD {ta : TA} {g : TG} {tb : TS} {D : fI} {σ : St} {H : Hp} (h : ta σ H fun vs H1 => ∃ i j : Int, vs = [.int i, .int j] /\ (-(2 ^ 62) <= i /\ i < 2 ^ 62 /\ -(2 ^ 62) <= j /\ j < 2 ^ 62) /\ FE (Itr i (j - i).toNat) g tb D σ H1) : v7 (Cp ta) g tb D σ H := h
theorem nV {l : List Nat} {i : Int} (h : 0 <= i) : i7 l none (some i) = l.take i.toNat := by
 unfold i7
 obtain ⟨j, rfl⟩ := mW h
 rw [HT.sIx_none, HT.sIx_nat, List.drop_zero, Nat.sub_zero, ZY]
 by_cases hl : j <= l.length
 ·rw [Nat.min_eq_left hl]
 ·rw [Nat.min_eq_right (by walk_at "om"), qa (by walk_at "om"), qa (by walk_at "om")]
theorem yH (l : List Nat) (lo hi : Option Int) : (i7 l lo hi).length <= l.length := by
 unfold i7; rw [qK, YS]; omega
theorem tz {l : List Nat} {i : Int} (h : 0 <= i) : i7 l (some i) none = l.drop i.toNat := by
 unfold i7
 obtain ⟨j, rfl⟩ := mW h
 rw [HT.sIx_none, HT.sIx_nat, ZY]
 by_cases hl : j <= l.length
 ·rw [Nat.min_eq_left hl, qa (by simp)]
 ·rw [Nat.min_eq_right (by walk_at "om"), List.drop_of_length_le (by walk_at "om"), List.drop_of_length_le (by walk_at "om")]; simp
def MX (c k : Int) : Int := (c * 48271 + 7919 * k * k + 104729 * k + 12345) % 2147483647
theorem Ey (c k : Int) : 0 <= MX c k /\ MX c k < 2147483647 := ⟨ZE _ (by decide), ZU _ (by decide)⟩
def sp_wo : Sp := sp2 fun x y H Q _ => NoT H /\ asI x fun c => asI y fun k => (0 <= k /\ k <= 1000) /\ Q (.int (MX c k)) H
theorem eR (T : Txt K mg a) : bg P w K mg base (XE P w) 1 a.iA a.kG ["_law_cell", "_law_k"] sp_wo := by
 refine T.aQ.okG sJ (fun vs H Q E h => sp2.len h) (fun cdv A outer s H vs Q E hr h => ?_)
 obtain ⟨x0, x1, rfl, h⟩ := sp2.inv h
 try dsimp only [sp_wo, sp2] at h
 obtain ⟨hN, h1⟩ := h
 obtain ⟨c, rfl, h2⟩ := asI.inv h1
 obtain ⟨k, rfl, hk, q⟩ := asI.inv h2
 refine ⟨hN, _, (ak (aG (ah aO (ah aH (ah aH (ah aH (ah cC (fv 0) ac) (ah cC (ah cC ac (fv 1)) (fv 1))) (ah cC ac (fv 1))) ac) ac))), ?_⟩
 walk_at "rd"
 exact ⟨.inr (by walk_at "om"), q⟩
def sp_at (K : W.Frag) : Sp := sp2 fun x y H Q _ => asR x fun p => asI y fun k => ∃ ns : List Int, SqL K H p (ns.map V.int) /\ 0 <= k /\ Q (.int (ns.getD k.toNat 0)) H
theorem dG (T : Txt K mg a) : bg P w K mg base (XE P w) 1 a.fP a.iZ ["_law_script", "_law_k"] (sp_at K) := by
 refine T.aU.okX pJ (fun vs H Q E h => sp2.len h) (fun cdv A outer s H vs Q E hr h => ?_)
 obtain ⟨x0, x1, rfl, h⟩ := sp2.inv h
 try dsimp only [sp_at, sp2] at h
 obtain ⟨p, rfl, h1⟩ := asR.inv h
 obtain ⟨k, rfl, ns, hp, k0, q⟩ := asI.inv h1
 refine ⟨_, (af (bz (bE wH (fv 1) (aE (dM K) rfl T.iQ fh (FA.pa (aa (fv 0) ad))) (a_ _)) (ak (aG (aX (aD K) (fv 0) (fv 1) (fun _ _ => rfl)))) aV)
  (ak (aG ac))), ?_⟩
 walk_at "rd"
 refine ⟨_, .inl hp, ?_⟩
 rw [zc]
 by_cases hk : k < ns.length
 ·exact itp hk ⟨_, _, .inl hp, BH k0 hk, q⟩
 ·have g : ns.getD k.toNat 0 = 0 := by
   have l : ns.length <= k.toNat := by omega
   simp [List.getD, l]
  rw [g] at q
  exact itn hk q
def LET : List Nat := [97, 98, 99, 100, 101, 102, 103, 104, 105, 106, 107, 108, 109, 110, 111, 112, 113, 114, 115, 116, 117, 118, 119, 120, 121, 122]
theorem BC {i : Int} (h0 : 0 <= i) (h1 : i < 26) : atI LET i = some (97 + i.toNat) := by
 obtain ⟨j, rfl⟩ : ∃ j : Nat, i = j := ⟨i.toNat, by omega⟩
 refine a9 ?_
 have hb : ∀ k, k < 26 -> LET[k]? = some (97 + k) := by decide
 exact hb j (by omega)
def sp_sW : Sp := sp1 fun x H Q _ => NoT H /\ asI x fun c => ∀ p, H p = none -> Q (.ref p) (upd H p (.lst ((xp 7).map fun k => L2.T (nms c k))))
theorem kF (T : Txt K mg a) : bg P w K mg base (XE P w) 1 a.iK a.kP ["_law_cell"] sp_sW := by
 refine T.d9.okG kM (fun vs H Q E h => sp1.len h) (fun cdv A outer s H vs Q E hr h => ?_)
 obtain ⟨x0, rfl, h⟩ := sp1.inv h
 try dsimp only [sp_sW, sp1] at h
 have ND := kM.nd
 obtain ⟨hN, h1⟩ := h
 obtain ⟨c, rfl, q⟩ := asI.inv h1
 have sz := szl
 refine ⟨hN, _, (af (aK (i := 1) ND rfl (Or.inr rfl) (aq [97, 98, 99, 100, 101, 102, 103, 104, 105, 106, 107, 108, 109, 110, 111, 112, 113, 114, 115, 116, 117, 118, 119, 120, 121, 122]))
  (af (aK (i := 2) ND rfl (Or.inl rfl) (ah aH ac (ah aO (fv 0) ac)))
  (af (aK (i := 3) ND rfl (Or.inr rfl) (ah aH ac (ah aO (ah aP (fv 0) ac) ac)))
  (af (aK (i := 4) ND rfl (Or.inl rfl) (fM K Yj PySem.F.slot_str_join PySem.F.type_str_join (AZ K) (aq []) (FA.pa (aa (cB rfl (cl := _) (x := "_law_k") (xs := ["_law_k"]) (fr := ["_law_letters", "_law_cell", "_law_step"]) (ks := [1, 0, 3]) (by walk_at "cq") rfl (cU rfl T.dI (FA.pa (aa (fv 2) ad))) (fun _ _ _ _ _ => (aI (i := 0) (dD (l := ["_law_k", "_law_letters", "_law_cell", "_law_step"]) (by decide)) rfl (Or.inl rfl))) (fun _ _ _ _ _ => cF) (fun _ _ _ _ _ => (aX (aD K) (fv 1) (ah aO (ah aH (ah aP (fv 2) ac) (ah cC (fv 3) (fv 0))) ac) (fun _ _ => rfl)))) ad))))
  (af (aK (i := 5) ND rfl (Or.inl rfl) (ah aO (ah aP (fv 0) ac) (ah aH (fv 2) ac)))
  (af (aK (i := 6) ND rfl (Or.inl rfl) (cw (FA.pa ad)))
  (af (eh (by passes_own) rfl (cU rfl T.dI (FA.pa (aa ac ad))) (aI (i := 7) ND rfl (Or.inl rfl)) (af (aK (i := 8) ND rfl (Or.inl rfl) (aX (aD K) (fv 1) (ah aO (ah aH (ah aP (fv 0) ac) (ah cC ac (fv 7))) ac) (fun _ _ => rfl)))
  (ak (dv (fM K Zi Zk Zl d4 (fv 6) (FA.pa (aa (ah aH (ah aH (dC lX (fv 4) eV (eU (fv 5))) (fv 8)) (dC lX (fv 4) (eU (fv 5)) eV)) ad)))))))
  (ak (aG (ah xH (fv 6) (cw (FA.pa (aa (fv 4) ad))))))))))))), ?_⟩
 walk_at "rd"
 refine cmR (fun _ => True) (fun _ _ _ => trivial) (1 + c % 10).toNat (fun _ => true) (fun j : Nat => L2.T [sg (c / 250) (1 + c / 10 % 25) j]) (fun R r => ?_) (by walk_at "om") (fun j hj H R _ r => r) (fun j hj _ H' R _ r => ?_) (fun D hD => ?_)
 ·walk_at "rd"
  rw [show ((1 + c % 10).toNat : Int) = 1 + c % 10 by walk_at "om"] at r; exact r
 ·walk_at "rd"
  refine ⟨.inl (by walk_at "om"), by walk_at "om", ?_⟩
  show match atI LET ((c / 250 + (1 + c / 10 % 25) * (j : Int)) % 26) with | some c => R (L2.T [c]) H' | none => False
  rw [BC (by walk_at "om") (by walk_at "om")]
  exact r
 ·refine AV (xp (1 + c % 10).toNat) (fun j : Nat => sg (c / 250) (1 + c / 10 % 25) j) (by rw [aj, pb.mpr (by simp)]) (by rw [Yv]; omega) ?_
  show 0 < 1 + c % 10 + 1 /\ _
  refine ⟨by walk_at "om", by walk_at "om", fun p hp => ?_⟩
  have hw : (wd (c / 250) (1 + c / 10 % 25) (1 + c % 10).toNat).length <= 10 := by simp [wd]; omega
  have s1 := az (HO.lst (List.map (fun j : Nat => L2.T [sg (c / 250) (1 + c / 10 % 25) j]) (List.filter (fun _ => true) (xp (1 + c % 10).toNat)))) hD
  generalize upd H D (HO.lst (List.map (fun j : Nat => L2.T [sg (c / 250) (1 + c / 10 % 25) j]) (List.filter (fun _ => true) (xp (1 + c % 10).toNat)))) = H1 at s1 hp |-
  have p0 : H p = none := s1.free hp
  have a0 : 0 <= c / 6500 % (1 + c % 10 + 1) := ZE _ (by walk_at "om")
  have a1 : c / 6500 % (1 + c % 10 + 1) < 1 + c % 10 + 1 := ZU _ (by walk_at "om")
  have en : ∀ k : Nat, nms c k = if k < 6 then (wd (c / 250) (1 + c / 10 % 25) (1 + c % 10).toNat).take (c / 6500 % (1 + c % 10 + 1)).toNat ++ [97 + ((c / 71500 + 3 * k) % 26).toNat] ++ (wd (c / 250) (1 + c / 10 % 25) (1 + c % 10).toNat).drop (c / 6500 % (1 + c % 10 + 1)).toNat else wd (c / 250) (1 + c / 10 % 25) (1 + c % 10).toNat := fun _ => rfl
  have ew : List.map (fun j : Nat => sg (c / 250) (1 + c / 10 % 25) j) (xp (1 + c % 10).toNat) = wd (c / 250) (1 + c / 10 % 25) (1 + c % 10).toNat := rfl
  rw [ew]
  generalize wd (c / 250) (1 + c / 10 % 25) (1 + c % 10).toNat = w at hw en |-
  generalize c / 6500 % (1 + c % 10 + 1) = t at a0 a1 en |-
  refine h_ ?_
  walk_at "rd"
  refine eI (lo := 0) (n := 6) (fun i σ' H' => Same H H' /\ H' p = some (.lst ((xp i).map fun k => L2.T (nms c k))) /\ ∃ x7 x8, σ' = [some (.int c), some (L2.T LET), some (.int (1 + c % 10)), some (.int (1 + c / 10 % 25)), some (L2.T w), some (.int t), some (.ref p), x7, x8]) ⟨s1.trans (az _ hp), aj, none, none, rfl⟩ ?_ ?_
  ·rintro i σ' H' hi ⟨sm, hp', x7, x8, rfl⟩
   walk_at "rd"
   refine ⟨by show 26 <= sizeLine; omega, ?_⟩
   show match atI LET ((c / 71500 + 3 * (0 + (i : Int))) % 26) with | some c_1 => _ | none => False
   rw [BC (by walk_at "om") (by walk_at "om")]
   walk_at "rd"
   refine ⟨.inl ⟨_, SqL.of hp'⟩, by walk_at "om", ?_⟩
   rw [nV a0, tz a0]
   walk_at "rd"
   have ni : nms c i = List.take t.toNat w ++ [97 + ((c / 71500 + 3 * (0 + (i : Int))) % 26).toNat] ++ ZL t.toNat w := by rw [en i, if_pos hi, Int.zero_add]
   rw [<- ni]
   refine ⟨by simp; omega, by walk_at "om", by simp; omega, p, _, _, rfl, rfl, hp', by simp; omega, cI sm p0, ?_, _, _, rfl, rfl⟩
   rw [aj, List.range_succ, sY]; rfl
  ·rintro σ' H' ⟨sm, hp', x7, x8, rfl⟩
   walk_at "rd"
   refine ⟨by walk_at "om", fun q1 h1 => ⟨_, _, (ar (ai hp' h1)).trans hp', aj, by simp; omega, fun q2 h2 => ?_⟩⟩
   have s2 := (sm.trans (az (HO.lst [L2.T w]) h1)).trans (az (HO.lst (List.map (fun k => L2.T (nms c k)) (xp 6) ++ [L2.T w])) h2)
   refine ⟨_, Gc.one s2 ((sm.trans (az _ h1)).free h2) aj rfl, ?_⟩
   have e : List.map (fun k => L2.T (nms c k)) (xp 6) ++ [L2.T w] = (xp 7).map fun k => L2.T (nms c k) := by
    rw [List.range_succ (n := 6), sY, List.map_singleton, en 6, if_neg (by decide)]
   rw [e]
   exact q q2 ((sm.trans (az _ h1)).free h2)
def UPP : List Nat := [65, 66, 67, 68, 69, 70, 71, 72, 73, 74, 75, 76, 77, 78, 79, 80, 81, 82, 83, 84, 85, 86, 87, 88, 89, 90]
theorem Fy {z1 z2 g : Nat} {i : Int} (h1 : 65 <= z1 /\ z1 <= 90) (h2 : 65 <= z2 /\ z2 <= 90) (h3 : 65 <= g /\ g <= 90) (hi : 0 <= i /\ i < 3) : cur (i7 [z1, z2] none (some i) ++ [g] ++ i7 [z1, z2] (some i) none) = true := by
 rw [nV hi.1, tz hi.1]
 obtain h | h | h : i.toNat = 0 \/ i.toNat = 1 \/ i.toNat = 2 := by omega
 all_goals
  rw [h]
  simp [cur, lie, h1, h2, h3]
def sp_zz : Sp := sp1 fun x H Q _ => NoT H /\ asI x fun c => ∀ cu : List (List Nat), cu.length = 3 -> (∀ l ∈ cu, cur l = true) -> ∀ q, H q = none -> Q (.ref q) (upd H q (.lst (cu.map L2.T)))
theorem lK (T : Txt K mg a) : bg P w K mg base (XE P w) 1 a.d_ a.gg ["_law_cell"] sp_zz := by
 refine T.eg.okG fZ (fun vs H Q E h => sp1.len h) (fun cdv A outer s H vs Q E hr h => ?_)
 obtain ⟨x0, rfl, h⟩ := sp1.inv h
 try dsimp only [sp_zz, sp1] at h
 have ND := fZ.nd
 obtain ⟨hN, h1⟩ := h
 obtain ⟨c, rfl, q⟩ := asI.inv h1
 have sz := szl
 refine ⟨hN, _, (af (aK (i := 1) ND rfl (Or.inr rfl) (aq [65, 66, 67, 68, 69, 70, 71, 72, 73, 74, 75, 76, 77, 78, 79, 80, 81, 82, 83, 84, 85, 86, 87, 88, 89, 90]))
  (af (aK (i := 2) ND rfl (Or.inr rfl) (ah aH (aX (aD K) (fv 1) (ah aO (ah aP (fv 0) ac) ac) (fun _ _ => rfl)) (aX (aD K) (fv 1) (ah aO (ah aP (fv 0) ac) ac) (fun _ _ => rfl))))
  (af (aK (i := 3) ND rfl (Or.inr rfl) (ah aO (fv 0) ac))
  (ak (aG (cB rfl (cl := _) (x := "_law_k") (xs := ["_law_k"]) (fr := ["_law_word", "_law_letters", "_law_at", "_law_cell"]) (ks := [2, 1, 3, 0]) (by walk_at "cq") rfl (cU rfl T.dI (FA.pa (aa ac ad))) (fun _ _ _ _ _ => (aI (i := 0) (dD (l := ["_law_k", "_law_word", "_law_letters", "_law_at", "_law_cell"]) (by decide)) rfl (Or.inl rfl))) (fun _ _ _ _ _ => cF) (fun _ _ _ _ _ => (ah aH (ah aH (dC lX (fv 1) eV (eU (fv 3))) (aX (aD K) (fv 2) (ah aO (ah aH (ah aP (fv 4) ac) (ah cC ac (fv 0))) ac) (fun _ _ => rfl))) (dC lX (fv 1) (eU (fv 3)) eV))))))))), ?_⟩
 walk_at "rd"
 have up_at : ∀ i : Int, 0 <= i -> i < 26 -> ∃ z, (65 <= z /\ z <= 90) /\ atI UPP i = some z := fun i h0 h1 => by
  obtain ⟨j, rfl⟩ := mW h0
  have hb : ∀ k, k < 26 -> UPP[k]? = some (65 + k) := by decide
  exact ⟨65 + j, by omega, a9 (hb j (by omega))⟩
 obtain ⟨z1, i1, e1⟩ := up_at (c / 3 % 26) (by walk_at "om") (by walk_at "om")
 obtain ⟨z2, i2, e2⟩ := up_at (c / 78 % 26) (by walk_at "om") (by walk_at "om")
 refine ⟨by walk_at "om", ?_⟩
 rw [show [65, 66, 67, 68, 69, 70, 71, 72, 73, 74, 75, 76, 77, 78, 79, 80, 81, 82, 83, 84, 85, 86, 87, 88, 89, 90] = UPP from rfl, e1]
 refine ⟨by walk_at "om", ?_⟩
 rw [e2]
 refine ⟨by walk_at "om", ?_⟩
 have gs : ∀ j : Nat, ∃ z, (65 <= z /\ z <= 90) /\ atI UPP ((c / 2028 + 3 * (j : Int)) % 26) = some z := fun j => up_at _ (by walk_at "om") (by walk_at "om")
 obtain ⟨gz, hgz⟩ := Classical.axiomOfChoice gs
 refine cmR (fun _ => True) (fun _ _ _ => trivial) 3 (fun _ => true) (fun j : Nat => L2.T (i7 [z1, z2] none (some (c % 3)) ++ [gz j] ++ i7 [z1, z2] (some (c % 3)) none)) (fun R r => r) (by walk_at "om") (fun j hj H R _ r => r) (fun j hj _ H' R _ r => ?_) (fun D hD => ?_)
 ·walk_at "rd"
  refine ⟨by walk_at "om", by walk_at "om", ?_⟩
  rw [(hgz j).2]
  walk_at "rd"
  have l1 := yH [z1, z2] none (some (c % 3))
  have l2 := yH [z1, z2] (some (c % 3)) none
  simp only [wz, sX, Yi] at *
  exact ⟨by walk_at "om", by walk_at "om", by walk_at "om", r⟩
 ·have e : ((xp 3).filter fun _ => true).map (fun j : Nat => L2.T (i7 [z1, z2] none (some (c % 3)) ++ [gz j] ++ i7 [z1, z2] (some (c % 3)) none)) = ((xp 3).map fun j : Nat => i7 [z1, z2] none (some (c % 3)) ++ [gz j] ++ i7 [z1, z2] (some (c % 3)) none).map L2.T := by
   rw [pb.mpr (by simp), vD]; rfl
  rw [e]
  refine ⟨_, Gc.one (az _ hD) hD aj rfl, q _ rfl (fun l hl => ?_) D hD⟩
  obtain ⟨j, _, rfl⟩ := rf.mp hl
  exact Fy i1 i2 (hgz j).1 (by omega)
open K17 K3
abbrev L11 : List Int := [31, 28, 31, 30, 31, 30, 31, 31, 30, 31, 30]
theorem Bz (y : Int) : LD (y + 1) - LD y = if (y % 4 = 0 /\ y % 100 ≠ 0) \/ y % 400 = 0 then 1 else 0 := by
 rw [yL]; omega
def PL (y : Int) (i : Nat) : Int := ((31 :: (28 + (LD (y + 1) - LD y)) :: R10).take i).sum
theorem DO (y : Int) : ∀ i : Nat, i < 11 -> PL y (i + 1) = PL y i + (L11.getD i 0 + if i = 1 then LD (y + 1) - LD y else 0) := by
 intro i hi
 have hc : i = 0 \/ i = 1 \/ i = 2 \/ i = 3 \/ i = 4 \/ i = 5 \/ i = 6 \/ i = 7 \/ i = 8 \/ i = 9 \/ i = 10 := by omega
 unfold PL
 rcases hc with h | h | h | h | h | h | h | h | h | h | h <;> subst h <;> simp [R10, List.take, List.sum] <;> omega
def sp_wz : Sp := sp1 fun x H Q _ => NoT H /\ asI x fun m => Q (.int (FD m)) H
theorem rZ (T : Txt K mg a) : bg P w K mg base (XE P w) 1 a.fF a.k_ ["_law_month_here"] sp_wz := by
 refine T.eB.okG kL (fun vs H Q E h => sp1.len h) (fun cdv A outer s H vs Q E hr h => ?_)
 obtain ⟨x0, rfl, h⟩ := sp1.inv h
 try dsimp only [sp_wz, sp1] at h
 have ND := kL.nd
 have HU := bj hr
 obtain ⟨hN, h1⟩ := h
 obtain ⟨m, rfl, q⟩ := asI.inv h1
 have c3 : ∃ u, PSs (d7 (XE P w) P w K mg base ["_law_month_here", "_law_year", "_law_day_here", "_law_long_year", "_law_place"] "_law_first" (ae bR) a.fF cdv A outer s H (gcE H E)) (ZL 3 (ay bR)) u /\ ∀ (bb : Bool), (if bb = true then (1 : Int) else 0) = LD (m / 12 + 1) - LD (m / 12) -> u { nx := fun _ H' => ∃ G, Gc H G H' /\ Q .non G, rt := fun v H' => ∃ G, Gc H G H' /\ Q v G } [some (.int m), some (.int (m / 12)), some (.int (365 * (m / 12) + (m / 12 + 3) / 4 - (m / 12 + 99) / 100 + (m / 12 + 399) / 400)), some (.bl bb), none] H := by
  refine ⟨_, (af (eh (by passes_own) rfl (cU rfl T.dI (FA.pa (aa (ah aO (fv 0) ac) ad))) (aI (i := 4) ND rfl (Or.inl rfl)) (ak (aK (i := 2) ND rfl (Or.inl rfl) (ah aH (ah aH (fv 2) (rz (FA.pa (aa ac (aa ac (aa ac (aa ac (aa ac (aa ac (aa ac (aa ac (aa ac (aa ac (aa ac ad)))))))))))) (fv 4) (fun _ _ => rfl))) (fL zv rfl T.yI uH (FA.pa (aa (dl (dF (bV K HU) (fv 4) ac (a_ _)) (cV (fv 3))) ad)))))))
   (ak (aG (fv 2)))), fun bb hbb => ?_⟩
  walk_at "rd"
  refine h_ ?_
  walk_at "rd"
  have m0 : 0 <= m % 12 /\ m % 12 < 12 := by walk_at "om"
  refine ⟨by walk_at "om", by walk_at "om", eI (lo := 0) (n := (m % 12).toNat) (fun i σ' H' => H' = H /\ ∃ x4, σ' = [some (.int m), some (.int (m / 12)), some (.int (365 * (m / 12) + LD (m / 12) + PL (m / 12) i)), some (.bl bb), x4]) ⟨rfl, none, ?_⟩ ?_ ?_⟩
  ·have e : 365 * (m / 12) + (m / 12 + 3) / 4 - (m / 12 + 99) / 100 + (m / 12 + 399) / 400 = 365 * (m / 12) + LD (m / 12) + PL (m / 12) 0 := by unfold LD PL; simp; omega
   rw [e]
  ·rintro i σ' H' hi ⟨rfl, x4, rfl⟩
   have i11 : i < 11 := by walk_at "om"
   have st := DO (m / 12) i i11
   walk_at "rd"
   refine ⟨hN, by rw [ue]; decide, fun p hp => ug (ns := L11) (by walk_at "om") (by show _ < (11 : Int); omega) ?_⟩
   rw [show ((0 : Int) + (i : Int)).toNat = i by omega]
   walk_at "rd"
   by_cases h1 : (0 : Int) + (i : Int) = 1
   ·refine itp h1 ⟨_, ?_, rfl⟩
    have i1 : i = 1 := by walk_at "om"
    rw [if_pos i1, <- hbb] at st
    rw [st, <- Yt, <- Yt]
   ·refine itn h1 ⟨_, ?_, rfl⟩
    have i1 : ¬ i = 1 := by walk_at "om"
    rw [if_neg i1] at st
    rw [st, <- Yt, <- Yt]
  ·rintro σ' H' ⟨rfl, x4, rfl⟩
   walk_at "rd"
   have e : 365 * (m / 12) + LD (m / 12) + PL (m / 12) (m % 12).toNat = FD m := Hn m
   rw [e]; exact q
 obtain ⟨u3, hu3, c3⟩ := c3
 refine ⟨hN, _, (af (aK (i := 1) ND rfl (Or.inl rfl) (ah aP (fv 0) ac))
  (af (aK (i := 2) ND rfl (Or.inl rfl) (ah aH (ah cE (ah aH (ah cC ac (fv 1)) (ah aP (ah aH (fv 1) ac) ac)) (ah aP (ah aH (fv 1) ac) ac)) (ah aP (ah aH (fv 1) ac) ac)))
  (af (aK (i := 3) ND rfl (Or.inl rfl) (dl (dF (bV K HU) (ah aO (fv 1) ac) ac (a_ _)) (cV (tY (dF (j4 K HU) (ah aO (fv 1) ac) ac (a_ _)) (cV (dF (bV K HU) (ah aO (fv 1) ac) ac (a_ _)))))))
  hu3))), ?_⟩
 walk_at "rd"
 have lo := Bz (m / 12)
 by_cases h4 : m / 12 % 4 = 0
 ·refine itp h4 ?_
  by_cases h1 : m / 12 % 100 = 0
  ·refine itp h1 (c3 _ ?_)
   rw [lo]
   by_cases h5 : m / 12 % 400 = 0
   ·rw [if_pos (decide_eq_true h5), if_pos (.inr h5)]
   ·rw [if_neg (fun z => h5 (of_decide_eq_true z)), if_neg (by omega)]
  ·refine itn h1 (c3 _ ?_)
   exact (lo.trans (if_pos (.inl ⟨h4, h1⟩))).symm
 ·refine itn h4 (c3 _ ?_)
  exact (lo.trans (if_neg (by omega))).symm
def sp_tj : Sp := sp1 fun x H Q _ => NoT H /\ asI x fun c => (0 <= c /\ c < 2147483647) /\ ∀ i : Int, Q (.int i) H
theorem rA (T : Txt K mg a) : bg P w K mg base (XE P w) 1 a.gU a.je ["_law_cell"] sp_tj := by
 refine T.g_.okG jY (fun vs H Q E h => sp1.len h) (fun cdv A outer s H vs Q E hr h => ?_)
 obtain ⟨x0, rfl, h⟩ := sp1.inv h
 try dsimp only [sp_tj, sp1] at h
 have ND := jY.nd
 have HU := bj hr
 obtain ⟨hN, h1⟩ := h
 obtain ⟨c, rfl, hc, q⟩ := asI.inv h1
 refine ⟨hN, _, (af (aK (i := 1) ND rfl (Or.inl rfl) (ah aH ac (ah aO (ah aP (fv 0) ac) ac)))
  (af (bz (bE (bV K HU) (ah aO (fv 0) ac) ac (a_ _)) (ak (aK (i := 1) ND rfl (Or.inl rfl) (ah aH ac (ah aO (ah cC (fv 0) (fv 0)) (ah ju ac ac))))) aV)
  (ak (aG (ah cC (fv 1) (ah cE ac (ah cC ac (ah aO (ah aP (fv 0) ac) ac)))))))), ?_⟩
 walk_at "rd"
 have e : (10 : Int) ^ Z1 15 = 1000000000000000 := by decide
 have z : -18446744073709551616 < 1 - 2 * (c / 3 % 2) /\ 1 - 2 * (c / 3 % 2) < 18446744073709551616 := by walk_at "om"
 have y : Int.natAbs 10 < 18446744073709551616 := by decide
 rw [e]
 split
 ·exact ⟨.inl (by walk_at "om"), y, by decide, .inr z, q _⟩
 ·exact ⟨.inr z, q _⟩
def sp_Bg : Sp := sp2 fun x y H Q _ => NoT H /\ asI x fun c => asI y fun m => ∀ d, FD m <= d -> d < FD (m + 1) -> Q (.int d) H
theorem wI (T : Txt K mg a) : bg P w K mg base (XE P w) 2 a.lR a.pB ["_law_cell", "_law_month_here"] sp_Bg := by
 refine T.mq.okG wg (fun vs H Q E h => sp2.len h) (fun cdv A outer s H vs Q E hr h => ?_)
 obtain ⟨x0, x1, rfl, h⟩ := sp2.inv h
 try dsimp only [sp_Bg, sp2] at h
 have HU := bj hr
 obtain ⟨hN, h1⟩ := h
 obtain ⟨c, rfl, h2⟩ := asI.inv h1
 obtain ⟨m, rfl, q⟩ := asI.inv h2
 have fl := EB m
 have G__law_first := @rZ P w K mg base a T
 have b__law_first := sw T.eB
 refine ⟨hN, _, (af (bz (bE (bV K HU) (ah aO (fv 0) ac) ac (a_ _)) (ak (aG (ao G__law_first (hr.mono (by decide)) rfl T.iF T.eB.kp b__law_first .nil aC (FA.pa (aa (fv 1) ad))))) aV)
  (af (bz (bE (bV K HU) (ah aO (fv 0) ac) ac (a_ _)) (ak (aG (ah cE (ao G__law_first (hr.mono (by decide)) rfl T.iF T.eB.kp b__law_first .nil aC (FA.pa (aa (ah aH (fv 1) ac) ad))) ac))) aV)
  (ak (aG (ah aH (ao G__law_first (hr.mono (by decide)) rfl T.iF T.eB.kp b__law_first .nil aC (FA.pa (aa (fv 1) ad))) (ah aO (ah aP (fv 0) ac) ac)))))), ?_⟩
 walk_at "rd"
 split
 ·exact ⟨hN, q _ (Yy _) (by walk_at "om")⟩
 ·split
  ·exact ⟨hN, q _ (by walk_at "om") (by walk_at "om")⟩
  ·exact ⟨hN, q _ (by walk_at "om") (by walk_at "om")⟩
end
section
open K17
theorem qP (s x : List Nat) : ∀ (r : List (List Nat)), r ≠ [] -> cX s (r ++ [x]) = cX s r ++ s ++ x
 | [], h => absurd rfl h
 | [y], _ => by simp [cX]
 | y :: z :: r, _ => by
  have := qP s x (z :: r) (by simp)
  rw [Z2, Z2, cX, <- Z2, this, cX]
  simp
theorem Ef {v n : List Nat} (hn : 58 ∉ n) : spN 58 (v ++ 58 :: n) = spN 58 v ++ [n] := by
 have h := qF 58 (spN 58 v ++ [n]) (by simp) fun p hp => by
  rcases tD.mp hp with h | h
  ·exact j7 58 v p h
  ·rw [zr.mp h]; exact hn
 rw [qP _ _ _ (qT 58 v), xl] at h
 rw [<- h]; simp
theorem xD (c : Int) (k : Nat) : nm (nms c k) = true := by
 obtain ⟨h1, h2, h3⟩ := mh (c := c) (k := k)
 unfold nm lie
 rw [decide_eq_true h1, decide_eq_true (by omega : (nms c k).length <= 12), Z0, Z0, Zo]
 intro x hx
 have := h3 x hx
 simp; omega
theorem Bb (c : Int) (k : Nat) : 58 ∉ nms c k := fun h => by have := (mh (c := c) (k := k)).2.2 58 h; omega
structure POk (l : List Nat) : Prop where
 pn : qE l = true
 lo : ∀ c ∈ l, c < 128
 ln : l.length + 1 <= 13 * (spN 58 l).length
theorem POk.len {l : List Nat} (h : POk l) : l.length <= 100 := by
 have := h.pn
 unfold qE at this
 simp only [sW, decide_eq_true_eq] at this
 have := h.ln
 omega
theorem POk.top {c : Int} {k : Nat} : POk (nms c k) := by
 have e := qc 58 _ (Bb c k)
 obtain ⟨h1, h2, h3⟩ := mh (c := c) (k := k)
 refine ⟨?_, fun x hx => by have := h3 x hx; omega, by rw [e]; simp; omega⟩
 unfold qE
 rw [e]
 simp [xD]
theorem POk.ext {c : Int} {k : Nat} {u : List Nat} (h : POk u) (l5 : (spN 58 u).length <= 5) : POk (u ++ 58 :: nms c k) := by
 have e := Ef (v := u) (Bb c k)
 obtain ⟨h1, h2, h3⟩ := mh (c := c) (k := k)
 have hp := h.pn
 unfold qE at hp
 simp only [sW, decide_eq_true_eq] at hp
 refine ⟨?_, fun x hx => ?_, ?_⟩
 ·unfold qE
  rw [e, wz, List.all_append]
  simp only [sW, decide_eq_true_eq]
  exact ⟨⟨by omega, by simp; omega⟩, hp.2, by simp [xD]⟩
 ·rcases tD.mp hx with m | m
  ·exact h.lo x m
  ·rcases ze.mp m with rfl | m
   ·decide
   ·have := h3 x m; omega
 ·have := h.ln
  rw [e, wz, wz, t8, sX]
  omega
namespace Pths
variable {c : Int} {ps : List (List Nat)}
theorem ok (h : Pths c ps) : ∀ p ∈ ps, POk p := by
 induction h with
 | two =>
  intro p hp
  simp only [ze, yU, or_false] at hp
  rcases hp with rfl | rfl <;> exact POk.top
 | more _ hu _ l5 ih =>
  intro p hp
  rcases tD.mp hp with m | m
  ·exact ih p m
  ·rw [zr.mp m]; exact (ih _ hu).ext l5
theorem len2 (h : Pths c ps) : 2 <= ps.length := by
 induction h with
 | two => exact zM _
 | more _ _ _ _ ih => simp; omega
end Pths
end
section
variable {pS : Addr} {ns : List Int} {P : Program} {w : World} {K : W.Frag} {mg : Str -> Option Value} {base : Heap} {a : Adr}
open K17 K3
theorem qg {ps : List (List Nat)} (x : Int) (h : 0 < ps.length) : ∃ u ∈ ps, atI (ps.map L2.T) (x % ((ps.map L2.T).length : Nat)) = some (L2.T u) := by
 have b0 : 0 <= x % ((ps.map L2.T).length : Nat) := ZE _ (by rw [zc]; omega)
 have b1 : x % ((ps.map L2.T).length : Nat) < ((ps.map L2.T).length : Nat) := ZU _ (by rw [zc]; omega)
 obtain ⟨j, e⟩ := mW b0
 rw [e] at b1 |-
 have hj : j < ps.length := by rw [zc] at b1; omega
 exact ⟨ps[j], List.getElem_mem hj, a9 (by simp [hj])⟩
theorem za {cu : List (List Nat)} (x : Int) (h : cu.length = 3) : ∃ u ∈ cu, atI (cu.map L2.T) (x % 3) = some (L2.T u) := by
 have := qg (ps := cu) x (by walk_at "om")
 rw [zc, h] at this; exact this
theorem F1 (c x : Int) : ∃ k, atI ((xp 7).map fun k => L2.T (nms c k)) (x / 13 % 7) = some (L2.T (nms c k)) := by
 have b0 : 0 <= x / 13 % 7 := by walk_at "om"
 have b1 : x / 13 % 7 < 7 := by walk_at "om"
 obtain ⟨j, e⟩ := mW b0
 rw [e] at b1 |-
 exact ⟨j, a9 (by simp [show j < 7 by walk_at "om"])⟩
theorem Ew (l : List Nat) (ps : List (List Nat)) : inV (L2.T l) (ps.map L2.T) = decide (l ∈ ps) := by
 unfold inV
 rw [List.any_map, Yg, List.any_eq_true, decide_eq_true_eq]
 constructor
 ·rintro ⟨x, hx, e⟩
  have e' : x = l := by simpa [eqV, Function.comp] using e
  exact e' ▸ hx
 ·intro h; exact ⟨l, h, by simp [eqV]⟩
def sp_vY (K : W.Frag) : Sp := sp2 fun x y H Q _ => asR x fun p => asI y fun m => NoT H /\ ∃ ns : List Int, SqL K H p (ns.map V.int) /\ (0 <= m /\ m <= 8) /\ ∀ (ps : List (List Nat)) q, (∀ l ∈ ps, POk l) -> 2 <= ps.length -> ps.length <= 10 -> H q = none -> Q (.ref q) (upd H q (.lst (ps.map L2.T)))
theorem sx (T : Txt K mg a) : bg P w K mg base (XE P w) 3 a.iO a.ky ["_law_script", "_law_many"] (sp_vY K) := by
 refine T.iC.okG kH (fun vs H Q E h => sp2.len h) (fun cdv A outer s H vs Q E hr h => ?_)
 obtain ⟨x0, x1, rfl, h⟩ := sp2.inv h
 try dsimp only [sp_vY, sp2] at h
 have ND := kH.nd
 obtain ⟨p, rfl, h1⟩ := asR.inv h
 obtain ⟨m, rfl, hN, ns, hS, hm, k⟩ := asI.inv h1
 have sz := szl
 have G__law_mixed := @eR P w K mg base a T
 have b__law_mixed := eT T.aQ
 have G__law_cell_at := @dG P w K mg base a T
 have b__law_cell_at := dJ T.aU
 have G__law_names := @kF P w K mg base a T
 have b__law_names := ko T.d9
 refine ⟨hN, _, (af (aK (i := 2) ND rfl (Or.inl rfl) (ao G__law_names (hr.mono (by decide)) rfl T.mJ T.d9.kp b__law_names .nil aC (FA.pa (aa (ao G__law_cell_at (hr.mono (by decide)) rfl T.bi T.aU.kp b__law_cell_at .nil aC (FA.pa (aa (fv 0) (aa ac ad)))) ad))))
  (af (aK (i := 3) ND rfl (Or.inl rfl) (cw (FA.pa (aa (aX (aD K) (fv 2) ac (fun _ _ => rfl)) (aa (aX (aD K) (fv 2) ac (fun _ _ => rfl)) ad)))))
  (af (eh (by passes_own) rfl (cU rfl T.dI (FA.pa (aa (fv 1) ad))) (aI (i := 4) ND rfl (Or.inl rfl)) (af (aK (i := 5) ND rfl (Or.inl rfl) (ao G__law_mixed (hr.mono (by decide)) rfl T.bc T.aQ.kp b__law_mixed .nil aC (FA.pa (aa (ao G__law_cell_at (hr.mono (by decide)) rfl T.bi T.aU.kp b__law_cell_at .nil aC (FA.pa (aa (fv 0) (aa ac ad)))) (aa (fv 4) ad)))))
  (af (aK (i := 6) ND rfl (Or.inl rfl) (aX (aD K) (fv 3) (ah aO (fv 5) (aE (dM K) rfl T.iQ fh (FA.pa (aa (fv 3) ad)))) (fun _ _ => rfl)))
  (af (aK (i := 7) ND rfl (Or.inl rfl) (ah aH (ah aH (fv 6) (aq [58])) (aX (aD K) (fv 2) (ah aO (ah aP (fv 5) ac) ac) (fun _ _ => rfl))))
  (ak (bz (L2.PW.pt (rT (bE (At K) (fv 7) (fv 3) (by with_unfolding_all rfl)) (pW (bE wH (fM K Yj PySem.F.slot_str_count PySem.F.type_str_count Cr (fv 6) (FA.pa (aa (aq [58]) ad))) ac (a_ _))))) (ak (dv (fM K Zi Zk Zl d4 (fv 3) (FA.pa (aa (fv 7) ad))))) aV))))))
  (ak (aG (fv 3)))))), ?_⟩
 walk_at "rd"
 refine ⟨ns, hS, hN, fun q hq => ⟨_, _, .inl (SqL.of aj), a9 (j := 0) rfl, _, _, .inl (SqL.of aj), a9 (j := 6) rfl, by walk_at "om", fun r hr => ?_⟩⟩
 have e1 : (ns.getD (Z1 1) 0) = ns.getD 1 0 := rfl
 rw [e1] at hr |-
 generalize ns.getD 1 0 = c at hr k |-
 have s1 := az (HO.lst (List.map (fun k => L2.T (nms c k)) (xp 7))) hq
 have qr : q ≠ r := ai aj hr
 have r0 : H r = none := s1.free hr
 refine h_ ?_
 walk_at "rd"
 refine ⟨by walk_at "om", by walk_at "om", eI (lo := 0) (n := m.toNat) (fun i σ' H' => Same H H' /\ NoT H' /\ H' q = some (.lst ((xp 7).map fun k => L2.T (nms c k))) /\ ∃ ps x4 x5 x6 x7, Pths c ps /\ ps.length <= 2 + i /\ H' r = some (.lst (ps.map L2.T)) /\ σ' = [some (.ref p), some (.int m), some (.ref q), some (.ref r), x4, x5, x6, x7]) ⟨s1.trans (az _ hr), aJ (aJ hN rfl) rfl, (ar qr).trans aj, _, none, none, none, none, Pths.two, by simp, aj, rfl⟩ ?_ ?_⟩
 ·rintro i σ' H' hi ⟨sm, nT, hq', ps, x4, x5, x6, x7, hP, lp, hr', rfl⟩
  have l2 := (K26.Pths.len2 hP)
  walk_at "rd"
  refine ⟨ns, hS.same sm, nT, ⟨by walk_at "om", by walk_at "om"⟩, _, .inl (SqL.of hr'), ?_⟩
  walk_at "rd"
  generalize MX (ns.getD (Z1 2) 0) (0 + (i : Int)) = x
  obtain ⟨u, hu, eu⟩ := qg (ps := ps) x (by walk_at "om")
  obtain ⟨k7, e7⟩ := F1 c x
  have pu := K26.Pths.ok hP u hu
  have lu := pu.len
  have l7 := mh (c := c) (k := k7)
  refine ⟨by rw [zc]; omega, _, _, .inl (SqL.of hr'), eu, ?_⟩
  walk_at "rd"
  refine ⟨by walk_at "om", _, _, .inl (SqL.of hq'), e7, ?_⟩
  walk_at "rd"
  refine ⟨by simp; omega, _, .inl (SqL.of hr'), rfl, by simp [da], ?_⟩
  have el : u ++ [58] ++ nms c k7 = u ++ 58 :: nms c k7 := by simp
  by_cases hm : u ++ 58 :: nms c k7 ∈ ps
  ·exact itn (by rw [Ew, el, decide_eq_true hm]; decide) ⟨sm, nT, hq', ps, _, _, _, _, hP, by walk_at "om", hr', rfl, rfl, rfl, rfl⟩
  ·refine itp (by rw [Ew, el, decide_eq_false hm]) ⟨by decide, ?_, ?_⟩
   ·intro z
    have := pu.pn
    rw [show u = [] from z] at this
    exact absurd this (by decide)
   ·by_cases h5 : ((spN 58 u).length : Int) - 1 < 5
    ·refine itp h5 ⟨.inl ⟨_, SqL.of hr'⟩, r, _, _, rfl, rfl, hr', by rw [zc]; omega, cI sm r0, aJ nT rfl, (ar qr).trans hq', _, _, _, _, _, .more hP hu hm (by walk_at "om"), by simp; omega, ?_, rfl, rfl, rfl, rfl⟩
     rw [aj, sY, <- el]; rfl
    ·exact itn h5 ⟨sm, nT, hq', ps, _, _, _, _, hP, by walk_at "om", hr', rfl, rfl, rfl, rfl⟩
 ·rintro σ' H' ⟨sm, nT, hq', ps, x4, x5, x6, x7, hP, lp, hr', rfl⟩
  walk_at "rd"
  refine ⟨_, Gc.one sm r0 hr' rfl, k ps r (K26.Pths.ok hP) (K26.Pths.len2 hP) (by walk_at "om") r0⟩
theorem DS {H' : Hp} {t r : Addr} {vs : List V} {rs : List Row} {u w : List Nat} {m : Int} (ht : H' t = none) (hr : H' r = some (.lst vs)) (ha : A2 (RwAt H') vs rs) : A2 (RwAt (upd (upd H' t (.tup [L2.T u, L2.T w, .int m])) r (.lst (vs ++ [.ref t])))) (vs ++ [.ref t]) (rs ++ [⟨u, w, m⟩]) := by
 have nt : t ≠ r := Ne.symm (ai hr ht)
 refine (ha.imp fun v y _ _ h => ?_).snoc ⟨t, rfl, (ar nt).trans aj⟩
 obtain ⟨q, rfl, e⟩ := h
 exact ⟨q, rfl, (ar (cW e hr)).trans ((ar (ai e ht)).trans e)⟩
def sp_zM : Sp := sp3 fun x y z H Q _ => NoT H /\ asI x fun c => asR y fun p => asR z fun q => ∃ ps cu : List (List Nat), H p = some (.lst (ps.map L2.T)) /\ H q = some (.lst (cu.map L2.T)) /\ 0 < ps.length /\ ps.length <= 20 /\ cu.length = 3 /\
 ∀ rs vs r H', rs.length <= 6 -> (∀ z ∈ rs, z.pa ∈ ps) -> H r = none -> H' r = some (.lst vs) -> A2 (RwAt H') vs rs -> Same H H' -> NoT H' -> Q (.ref r) H'
theorem uz (T : Txt K mg a) : bg P w K mg base (XE P w) 3 a.jy a.nA ["_law_cell", "_law_paths_here", "_law_currencies_here"] sp_zM := by
 refine T.jS.okX nM (fun vs H Q E h => sp3.len h) (fun cdv A outer s H vs Q E hr h => ?_)
 obtain ⟨x0, x1, x2, rfl, h⟩ := sp3.inv h
 try dsimp only [sp_zM, sp3] at h
 have ND := nM.nd
 obtain ⟨hN, h1⟩ := h
 obtain ⟨c, rfl, h2⟩ := asI.inv h1
 obtain ⟨p, rfl, h3⟩ := asR.inv h2
 obtain ⟨q, rfl, ps, cu, hp, hq, l1, l2, l3, k⟩ := asR.inv h3
 have sz := szl
 have G__law_amount := @rA P w K mg base a T
 have b__law_amount := rd T.g_
 have G__law_mixed := @eR P w K mg base a T
 have b__law_mixed := eT T.aQ
 refine ⟨_, (af (aK (i := 3) ND rfl (Or.inl rfl) (cw (FA.pa ad)))
  (af (eh (by passes_own) rfl (cU rfl T.dI (FA.pa (aa (ah aH ac (ah aO (fv 0) ac)) ad))) (aI (i := 4) ND rfl (Or.inl rfl)) (af (aK (i := 5) ND rfl (Or.inl rfl) (aX (aD K) (fv 1) (ah aO (ao G__law_mixed (hr.mono (by decide)) rfl T.bc T.aQ.kp b__law_mixed .nil aC (FA.pa (aa (fv 0) (aa (ah aH (ah cC ac (fv 4)) ac) ad)))) (aE (dM K) rfl T.iQ fh (FA.pa (aa (fv 1) ad)))) (fun _ _ => rfl)))
  (af (aK (i := 6) ND rfl (Or.inl rfl) (aX (aD K) (fv 2) (ah aO (ah aP (ao G__law_mixed (hr.mono (by decide)) rfl T.bc T.aQ.kp b__law_mixed .nil aC (FA.pa (aa (fv 0) (aa (ah aH (ah cC ac (fv 4)) ac) ad)))) ac) ac) (fun _ _ => rfl)))
  (ak (dv (fM K Zi Zk Zl d4 (fv 3) (FA.pa (aa (dQ (FA.pa (aa (fv 5) (aa (fv 6) (aa (ao G__law_amount (hr.mono (by decide)) rfl T.sk T.g_.kp b__law_amount .nil aC (FA.pa (aa (ao G__law_mixed (hr.mono (by decide)) rfl T.bc T.aQ.kp b__law_mixed .nil aC (FA.pa (aa (fv 0) (aa (ah aH (ah cC ac (fv 4)) ac) ad)))) ad))) ad))))) ad))))))))
  (ak (aG (fv 3))))), ?_⟩
 walk_at "rd"
 refine ⟨o3 _, fun r hr => h_ ?_⟩
 walk_at "rd"
 refine ⟨by walk_at "om", by walk_at "om", eI (lo := 0) (n := (2 + c % 4).toNat) (fun i σ' H' => Same H H' /\ NoT H' /\ ∃ rs vs x4 x5 x6, rs.length = i /\ (∀ z ∈ rs, z.pa ∈ ps) /\ H' r = some (.lst vs) /\ A2 (RwAt H') vs rs /\ σ' = [some (.int c), some (.ref p), some (.ref q), some (.ref r), x4, x5, x6]) ⟨az _ hr, aJ hN rfl, [], [], none, none, none, rfl, (fun _ m => nomatch m), aj, .nil, rfl⟩ ?_ ?_⟩
 ·rintro i σ' H' hi ⟨sm, nT, rs, vs, x4, x5, x6, lr, hps, hr', ha, rfl⟩
  have hp' := sm _ _ hp
  have hq' := sm _ _ hq
  walk_at "rd"
  refine ⟨nT, ⟨by walk_at "om", by walk_at "om"⟩, _, .inl (SqL.of hp'), ?_⟩
  walk_at "rd"
  generalize MX c (3 * (0 + (i : Int)) + 1) = y1
  obtain ⟨u, hu, eu⟩ := qg (ps := ps) y1 l1
  refine ⟨by rw [zc]; omega, _, _, .inl (SqL.of hp'), eu, nT, ⟨by walk_at "om", by walk_at "om"⟩, ?_⟩
  walk_at "rd"
  obtain ⟨w1, hw1, ew1⟩ := za (cu := cu) (MX c (3 * (0 + (i : Int)) + 2) / 7) l3
  have lv := ha.len
  refine ⟨_, _, .inl (SqL.of hq'), ew1, .inl ⟨_, SqL.of hr'⟩, nT, ⟨by walk_at "om", by walk_at "om"⟩, nT, Ey _ _, fun am => ⟨by walk_at "om", fun t ht => ⟨r, vs, _, rfl, rfl, (ar (ai hr' ht)).trans hr', by walk_at "om", cI (sm.trans (az _ ht)) hr, aJ (aJ nT rfl) rfl, rs ++ [⟨u, w1, am⟩], _, _, _, _, by simp [lr], fun z hz => ?_, aj, DS ht hr' ha, rfl, rfl, rfl⟩⟩⟩
  rcases tD.mp hz with h | h
  ·exact hps z h
  ·rw [zr.mp h]; exact hu
 ·rintro σ' H' ⟨sm, nT, rs, vs, x4, x5, x6, lr, hps, hr', ha, rfl⟩
  walk_at "rd"
  exact k rs vs r H' (by walk_at "om") hps hr hr' ha sm nT
def sp_wW : Sp := sp2 fun x y H Q _ => asI x fun c => asI y fun b => ∀ i : Int, Q (.int i) H
theorem sN (T : Txt K mg a) : bg P w K mg base (XE P w) 1 a.iD a.kW ["_law_cell", "_law_base"] sp_wW := by
 refine T.fE.okX sL (fun vs H Q E h => sp2.len h) (fun cdv A outer s H vs Q E hr h => ?_)
 obtain ⟨x0, x1, rfl, h⟩ := sp2.inv h
 try dsimp only [sp_wW, sp2] at h
 have HU := bj hr
 obtain ⟨c, rfl, h2⟩ := asI.inv h
 obtain ⟨b, rfl, q⟩ := asI.inv h2
 refine ⟨_, (af (bz (bE (bV K HU) (ah aO (fv 0) ac) ac (a_ _)) (ak (aG (ah cE ac (ah aO (ah aP (fv 0) ac) (ah ju ac ac))))) aV)
  (af (bz (bE (bV K HU) (ah aO (fv 0) ac) ac (a_ _)) (ak (aG (ah aH (ah aH (fv 1) ac) (ah aO (ah aP (fv 0) ac) (ah ju ac ac))))) aV)
  (ak (aG (ah aH (ah cE (fv 1) ac) (ah aO (ah aP (fv 0) ac) ac)))))), ?_⟩
 walk_at "rd"
 have e : (10 : Int) ^ Z1 12 = 1000000000000 := by decide
 rw [e]
 have y : Int.natAbs 10 < 18446744073709551616 := by decide
 split
 ·exact ⟨y, by decide, q _⟩
 ·split
  ·exact ⟨y, by decide, q _⟩
  ·exact q _
open K17 K3
abbrev cT : List Nat := [98, 97, 115, 101]
abbrev be : List Nat := [98, 117, 100, 103, 101, 116, 115]
abbrev bL : List Nat := [116, 101, 114, 109, 115]
abbrev cj : List Nat := [114, 111, 119, 115]
abbrev eZ : List Nat := [104, 101, 108, 100]
abbrev cG : List Nat := [110, 97, 109, 101, 115]
abbrev iJ : List Nat := [112, 97, 116, 104, 115]
abbrev qD : List Nat := [99, 117, 114, 114, 101, 110, 99, 105, 101, 115]
abbrev rK : List Nat := [106, 111, 117, 114, 110, 97, 108, 115]
structure Sd where
 r : Addr
 j : Addr
 b : Addr
 u : Addr
 vs : List V
 bs : List V
 BM : List (Int × Bk)
def Sd.B (s : Sd) : List Bk := s.BM.map (·.2)
def Sd.R (s : Sd) : List (Int × Row) := s.BM.flatMap fun e => e.2.rs.map fun r => (e.1, r)
def R4At (H : Hp) (v : V) (e : Int × Row) : Prop := ∃ q, v = .ref q /\ H q = some (.tup [.int e.1, L2.T e.2.pa, L2.T e.2.cu, .int e.2.am])
structure SdAt (J : Addr) (H : Hp) (s : Sd) : Prop where
 r : H s.r = some (.lst s.vs)
 rw : A2 (R4At H) s.vs s.R
 jb : JB J H s.j s.b s.u s.bs s.B
 dm : ∀ e ∈ s.BM, FD e.1 <= e.2.d /\ e.2.d < FD (e.1 + 1)
structure Md where
 md : Addr
 base : Int
 p : Addr
 d : Addr
 os : List Bd
 tq : Addr
 la : List Nat -> Addr
 rq : Addr
 hq : Addr
 hs : List V
 nq : Addr
 nms : List (List Nat)
 pq : Addr
 ps : List (List Nat)
 cq : Addr
 cu : List (List Nat)
 jq : Addr
 s : Sd
 t : Sd
def Md.tbl (m : Md) : List (List Nat × V) := [(cT, .int m.base), (be, .ref m.p), (bL, .ref m.tq), (cj, .ref m.rq), (eZ, .ref m.hq), (cG, .ref m.nq), (iJ, .ref m.pq), (qD, .ref m.cq), (rK, .ref m.jq)]
def kyT (la : List Nat -> Addr) (o : Bd) : Key × V := (.inr ⟨⟨o.nm⟩⟩, .ref (la o.nm))
structure OOk (o : Bd) : Prop where
 pl : o.pt.length <= 200
 ws : o.ws.length <= 60 /\ 0 < o.ws.sum
 ln : (o.ws.length : Int) = o.l - o.f + 1
 fl : 0 <= o.f /\ o.f <= o.l /\ o.l <= 4799
structure Ms (S O J : Addr) (H : Hp) (m : Md) : Prop where
 kv : ∃ kvs, H m.md = some (.dK kvs) /\ ∀ e ∈ m.tbl, dS kvs (.inr ⟨⟨e.1⟩⟩) = some e.2
 bu : SAt S O H m.p m.d m.os
 tm : Rd H m.tq (.dK (m.os.map (kyT m.la)))
 tt : ∀ o ∈ m.os, H (m.la o.nm) = some (.tup [L2.T o.pt, L2.T o.cu, .int o.f, .int o.l, .int o.t])
 ok : ∀ o ∈ m.os, OOk o
 ol : m.os.length <= 7
 rl : H m.rq = some (.lst [.ref m.s.r, .ref m.t.r])
 jl : H m.jq = some (.lst [.ref m.s.j, .ref m.t.j])
 s : SdAt J H m.s
 t : SdAt J H m.t
theorem R4At.same {H H' : Hp} {v : V} {e : Int × Row} (x : R4At H v e) (s : Same H H') : R4At H' v e := by
 obtain ⟨q, e1, e2⟩ := x; exact ⟨q, e1, s _ _ e2⟩
theorem SdAt.same {J : Addr} {H H' : Hp} {x : Sd} (j : SdAt J H x) (s : Same H H') : SdAt J H' x := ⟨s _ _ j.r, j.rw.imp fun _ _ _ _ h => h.same s, j.jb.same s, j.dm⟩
theorem Rd.same' {H H' : Hp} {r : Addr} {u : HO} (h : Rd H r u) (s : Same H H') : Rd H' r u := by
 rcases h with e | ⟨q, e⟩
 ·exact .inl (s _ _ e)
 ·exact .inr ⟨q, s _ _ e⟩
theorem Ms.same {S O J : Addr} {H H' : Hp} {m : Md} (x : Ms S O J H m) (s : Same H H') : Ms S O J H' m :=
 ⟨by obtain ⟨kvs, e, h⟩ := x.kv; exact ⟨kvs, s _ _ e, h⟩, x.bu.same s, Rd.same' x.tm s, fun o ho => s _ _ (x.tt o ho), x.ok, x.ol, s _ _ x.rl, s _ _ x.jl, x.s.same s, x.t.same s⟩
theorem Ms.get {S O J : Addr} {H : Hp} {m : Md} (x : Ms S O J H m) {k : List Nat} {v : V} (h : (k, v) ∈ m.tbl) : DGet H m.md (L2.T k) (some v) := by
 obtain ⟨kvs, e, g⟩ := x.kv
 exact .inl ⟨_, .inr ⟨⟨k⟩⟩, .inl e, rfl, (g _ h).symm⟩
section
variable {S O J : Addr} {H : Hp} {m : Md} (x : Ms S O J H m)
include x
theorem Ms.gBase : DGet H m.md (L2.T cT) (some (.int m.base)) := x.get (.head _)
theorem Ms.gBudgets : DGet H m.md (L2.T be) (some (.ref m.p)) := x.get (.tail _ (.head _))
theorem Ms.gTerms : DGet H m.md (L2.T bL) (some (.ref m.tq)) := x.get (.tail _ (.tail _ (.head _)))
theorem Ms.gRows : DGet H m.md (L2.T cj) (some (.ref m.rq)) := x.get (.tail _ (.tail _ (.tail _ (.head _))))
theorem Ms.gHeld : DGet H m.md (L2.T eZ) (some (.ref m.hq)) := x.get (.tail _ (.tail _ (.tail _ (.tail _ (.head _)))))
theorem Ms.gNames : DGet H m.md (L2.T cG) (some (.ref m.nq)) := x.get (.tail _ (.tail _ (.tail _ (.tail _ (.tail _ (.head _))))))
theorem Ms.gPaths : DGet H m.md (L2.T iJ) (some (.ref m.pq)) := x.get (.tail _ (.tail _ (.tail _ (.tail _ (.tail _ (.tail _ (.head _)))))))
theorem Ms.gCurs : DGet H m.md (L2.T qD) (some (.ref m.cq)) := x.get (.tail _ (.tail _ (.tail _ (.tail _ (.tail _ (.tail _ (.tail _ (.head _))))))))
theorem Ms.gJours : DGet H m.md (L2.T rK) (some (.ref m.jq)) := x.get (.tail _ (.tail _ (.tail _ (.tail _ (.tail _ (.tail _ (.tail _ (.tail _ (.head _)))))))))
end
theorem rg (la : List Nat -> Addr) (l : List Nat) : ∀ os : List Bd, dS (os.map (kyT la)) (.inr ⟨⟨l⟩⟩) = (fnd os l).map fun o => .ref (la o.nm)
 | [] => rfl
 | c :: r => by
  have ih := rg la l r
  by_cases h : c.nm = l
  ·rw [wW]; unfold kyT; rw [cA (by show Sum.inr _ = Sum.inr _; rw [h])]
   simp [fnd, h]
  ·rw [wW]
   have e : dS (kyT la c :: r.map (kyT la)) (.inr ⟨⟨l⟩⟩) = dS (r.map (kyT la)) (.inr ⟨⟨l⟩⟩) := cD (fun z => h (by unfold kyT at z; simpa using z))
   rw [e, ih]
   simp [fnd, h]
theorem Ms.term {S O J : Addr} {H : Hp} {m : Md} (x : Ms S O J H m) (l : List Nat) : DGet H m.tq (L2.T l) ((fnd m.os l).map fun o => .ref (m.la o.nm)) := by
 have h : DGet H m.tq (L2.T l) (dS (m.os.map (kyT m.la)) (.inr ⟨⟨l⟩⟩)) := .inl ⟨_, .inr ⟨⟨l⟩⟩, x.tm, rfl, rfl⟩
 rwa [rg] at h
def duR (o : Bd) (mo : Int) (e : Int × Row) : Int := if e.2.cu = o.cu /\ (o.f <= e.1 /\ e.1 <= (if mo < o.l then mo else o.l)) /\ wi e.2.pa o.pt = true then e.2.am else 0
def ra (o : Bd) (mo : Int) (R : List (Int × Row)) : Int := (R.map (duR o mo)).sum
theorem yX {mo d f : Int} (h : FD mo <= d /\ d < FD (mo + 1)) : (FD f <= d ↔ f <= mo) /\ (d <= FD (f + 1) - 1 ↔ mo <= f) := by
 constructor
 ·constructor
  ·intro g
   apply Z8; intro z
   have := K3.FD_mono (m := mo + 1) (n := f) (by omega)
   omega
  ·intro g; have := K3.FD_mono g; omega
 ·constructor
  ·intro g
   apply Z8; intro z
   have := K3.FD_mono (m := f + 1) (n := mo) (by omega)
   omega
  ·intro g
   have := K3.FD_mono (m := mo + 1) (n := f + 1) (by omega)
   omega
theorem we {α : Type} {f : α -> Int} : ∀ {l : List α}, (∀ x ∈ l, f x = 0) -> (l.map f).sum = 0
 | [], _ => rfl
 | x :: l, h => by rw [wW, Zn, h x (.head _), we fun y hy => h y (.tail _ hy)]; rfl
theorem Dd {o : Bd} {mo : Int} {rs : List Row} {m : Int} : ra o mo (rs.map fun r => (m, r)) = if o.f <= m /\ m <= (if o.l < mo then o.l else mo) then (amt rs o.pt o.cu).sum else 0 := by
 have e : (if mo < o.l then mo else o.l) = if o.l < mo then o.l else mo := by split <;> split <;> omega
 unfold ra
 rw [vD]
 by_cases g : o.f <= m /\ m <= (if o.l < mo then o.l else mo)
 ·rw [if_pos g]
  unfold amt
  induction rs with
  | nil => rfl
  | cons r rs ih =>
   rw [wW, Zn, ih]
   have e1 : (duR o mo ∘ fun r => (m, r)) r = if r.cu = o.cu /\ wi r.pa o.pt = true then r.am else 0 := by
    show (if r.cu = o.cu /\ (o.f <= m /\ m <= (if mo < o.l then mo else o.l)) /\ wi r.pa o.pt = true then r.am else 0) = _
    rw [e]
    by_cases c : r.cu = o.cu /\ wi r.pa o.pt = true
    ·rw [if_pos ⟨c.1, g, c.2⟩, if_pos c]
    ·rw [if_neg fun z => c ⟨z.1, z.2.2⟩, if_neg c]
   rw [e1]
   by_cases c : r.cu = o.cu /\ wi r.pa o.pt = true
   ·rw [if_pos c, Zh (by simp [c]), wW, Zn]
   ·rw [if_neg c, Zg (by simpa using c)]; omega
 ·rw [if_neg g]
  refine we fun r _ => ?_
  show (if r.cu = o.cu /\ (o.f <= m /\ m <= (if mo < o.l then mo else o.l)) /\ wi r.pa o.pt = true then r.am else 0) = 0
  rw [e, if_neg fun z => g z.2.1]
theorem Bn {o : Bd} {mo : Int} : ∀ {BM : List (Int × Bk)}, (∀ e ∈ BM, FD e.1 <= e.2.d /\ e.2.d < FD (e.1 + 1)) -> ra o mo (BM.flatMap fun e => e.2.rs.map fun r => (e.1, r)) = dnB (BM.map (·.2)) o mo
 | [], _ => rfl
 | e :: BM, h => by
  have ih := Bn (o := o) (mo := mo) (BM := BM) fun x hx => h x (.tail _ hx)
  obtain ⟨h1, _⟩ := yX (f := o.f) (h e (.head _))
  obtain ⟨_, h2⟩ := yX (f := if o.l < mo then o.l else mo) (h e (.head _))
  have g : dyP (FD o.f) (FD ((if o.l < mo then o.l else mo) + 1) - 1) e.2 = decide (o.f <= e.1 /\ e.1 <= (if o.l < mo then o.l else mo)) := by
   unfold dyP
   rw [decide_eq_decide.mpr h1, decide_eq_decide.mpr h2, Bool.decide_and]
  have h3 := Dd (o := o) (mo := mo) (rs := e.2.rs) (m := e.1)
  unfold ra at h3 ih |-
  rw [List.flatMap_cons, sY, List.sum_append, h3, ih]
  unfold dnB SWI
  rw [wW]
  by_cases c : o.f <= e.1 /\ e.1 <= (if o.l < mo then o.l else mo)
  ·rw [if_pos c, Zh (by rw [g, decide_eq_true c]), wW, Zn]
  ·rw [if_neg c, Zg (by rw [g, decide_eq_false c]; decide), Int.zero_add]
theorem SdAt.due {J : Addr} {H : Hp} {y : Sd} (h : SdAt J H y) (o : Bd) (mo : Int) : ra o mo y.R = dnB y.B o mo := Bn h.dm
def sp_Bf (S O J : Addr) : Sp := sp4 fun x i n mo H Q _ => NoT H /\ asR x fun md => asI i fun i => asT n fun l => asI mo fun mo => ∃ m o y, m.md = md /\ Ms S O J H m /\ SdAt J H y /\ atI [V.ref m.s.r, V.ref m.t.r] i = some (.ref y.r) /\ y.R.length <= 200 /\ (∀ e ∈ y.R, e.2.pa.length <= 200) /\ fnd m.os l = some o /\ Q (.int (dnB y.B o mo)) H
theorem oX (T : Txt K mg a) : bg P w K mg base (XE P w) 1 a.mB a.o5 ["_law_made", "_law_at", "_law_name", "_law_month_here"] (sp_Bf a.au a.aw a.av) := by
 refine T.gf.okG o4 (fun vs H Q E h => sp4.len h) (fun cdv A outer s H vs Q E hr h => ?_)
 obtain ⟨x0, x1, x2, x3, rfl, h⟩ := sp4.inv h
 try dsimp only [sp_Bf, sp4] at h
 have ND := o4.nd
 have HU := bj hr
 obtain ⟨hN, h1⟩ := h
 obtain ⟨md, rfl, h2⟩ := asR.inv h1
 obtain ⟨ia, rfl, h3⟩ := asI.inv h2
 obtain ⟨l, rfl, h4⟩ := asT.inv h3
 obtain ⟨mo, rfl, m, o, y, em, M, Y, yr, yl, yp, ef, k⟩ := asI.inv h4
 have em : m.md = md := em
 subst em
 have pl := (M.ok o (iI ef).1).pl
 have lv := Y.rw.len
 rw [<- Y.due] at k
 have sz := szl
 have ho := (iI ef).1
 have tt := M.tt o ho
 have gt := M.term l
 rw [ef] at gt
 refine ⟨hN, _, (af (iz (aA (Zs HU) (aA (Zs HU) (fv 0) (aq [116, 101, 114, 109, 115]) (fun _ _ => rfl)) (fv 2) (fun _ _ => rfl)) (iM K (n := 5) rfl (ba (aI (i := 4) ND rfl (Or.inl rfl)) (ba (aI (i := 5) ND rfl (Or.inl rfl)) (ba (aI (i := 6) ND rfl (Or.inl rfl)) (ba (aI (i := 7) ND rfl (Or.inl rfl)) (ba (aI (i := 8) ND rfl (Or.inl rfl)) gR)))))))
  (af (aK (i := 9) ND rfl (Or.inl rfl) ac)
  (af (eh (by passes_own) rfl (bQ K (aX (aD K) (aA (Zs HU) (fv 0) (aq [114, 111, 119, 115]) (fun _ _ => rfl)) (fv 1) (fun _ _ => rfl))) (iM K (n := 4) rfl (ba (aI (i := 10) ND rfl (Or.inl rfl)) (ba (aI (i := 11) ND rfl (Or.inl rfl)) (ba (aI (i := 12) ND rfl (Or.inl rfl)) (ba (aI (i := 13) ND rfl (Or.inl rfl)) gR))))) (ak (bz (L2.PW.pt (rT (bE (bV K HU) (fv 12) (fv 5) (a_ _)) (rT (qB fw fw (fv 6) (fv 10) (aE (ya rfl) rfl T.AL xP (FA.pa (aa (fv 7) (aa (fv 3) ad))))) (pW (bE (bV K HU) (dC lX (ah aH (fv 11) (aq [58])) eV (eU (ah aH (aE (dM K) rfl T.iQ fh (FA.pa (aa (fv 4) ad))) ac))) (ah aH (fv 4) (aq [58])) (a_ _)))))) (ak (aK (i := 9) ND rfl (Or.inl rfl) (ah aH (fv 9) (fv 13)))) aV)))
  (ak (aG (fv 9)))))), ?_⟩
 walk_at "rd"
 refine ⟨_, _, rfl, M.gTerms, _, _, rfl, gt, _, _, rfl, SqT.of tt, rfl, _, _, rfl, _, _, rfl, _, _, rfl, _, _, rfl, _, _, rfl, rfl, mQ ?_⟩
 walk_at "rd"
 refine ⟨_, _, rfl, M.gRows, _, _, .inl (SqL.of M.rl), yr, ?_⟩
 refine jP (SqL.of Y.r) (nk (xs := y.vs) (fun i σ' H' => H' = H /\ ∃ x10 x11 x12 x13, σ' = [some (.ref m.md), some (.int ia), some (L2.T l), some (.int mo), some (L2.T o.pt), some (L2.T o.cu), some (.int o.f), some (.int o.l), some (.int o.t), some (.int (ra o mo (y.R.take i))), x10, x11, x12, x13]) ⟨rfl, none, none, none, none, rfl⟩ (fun i σ' H' _ h => by rw [h.1]; exact SqL.of Y.r) ?_ ?_)
 ·rintro i x σ' H' hx ⟨rfl, x10, x11, x12, x13, rfl⟩
  obtain ⟨e, he, q, rfl, eq⟩ := Y.rw.at_ hx
  have et : ra o mo (y.R.take (i + 1)) = ra o mo (y.R.take i) + duR o mo e := by
   unfold ra
   rw [ZQ, he, sY, List.sum_append]; simp
  have lp := yp e (tM he)
  have ew := DD e.2.pa o.pt
  walk_at "rd"
  refine ⟨q, _, rfl, SqT.of eq, rfl, _, _, rfl, _, _, rfl, _, _, rfl, _, _, rfl, rfl, ?_⟩
  obtain ⟨du, edu⟩ : ∃ du, duR o mo e = du := ⟨_, rfl⟩
  rw [et, edu]
  unfold duR at edu
  generalize hmn : (if mo < o.l then mo else o.l) = mn at edu |-
  have no : ¬ (e.2.cu = o.cu /\ (o.f <= e.1 /\ e.1 <= mn) /\ wi e.2.pa o.pt = true) -> ∃ x10 x11 x12 x13, some (V.int (ra o mo (y.R.take i))) = some (V.int (ra o mo (y.R.take i) + du)) /\ some (V.int e.1) = x10 /\ some (L2.T e.2.pa) = x11 /\ some (L2.T e.2.cu) = x12 /\ some (V.int e.2.am) = x13 := fun z => by
   rw [if_neg z] at edu
   rw [<- edu, Int.add_zero]
   exact ⟨_, _, _, _, rfl, rfl, rfl, rfl, rfl⟩
  walk_at "rd"
  by_cases h1 : e.2.cu = o.cu
  case neg => exact itn h1 (no fun z => h1 z.1)
  refine itp h1 ?_
  by_cases h2 : o.f <= e.1
  case neg => exact itn h2 (no fun z => h2 z.2.1.1)
  refine itp h2 ?_
  by_cases h3 : e.1 <= mn
  case neg => exact itn h3 (no fun z => h3 z.2.1.2)
  refine itp h3 ⟨by omega, by omega, by rw [wz, t8]; omega, by omega, ?_⟩
  rw [nV (by omega), show ((o.pt.length : Int) + 1).toNat = o.pt.length + 1 by omega]
  by_cases h4 : (e.2.pa ++ [58]).take (o.pt.length + 1) = o.pt ++ [58]
  case neg => exact itn h4 (no fun z => h4 (by have := z.2.2; rw [ew] at this; exact of_decide_eq_true this))
  rw [if_pos ⟨h1, ⟨h2, h3⟩, by rw [ew]; exact decide_eq_true h4⟩] at edu
  rw [<- edu]
  exact itp h4 ⟨_, _, _, _, rfl, rfl, rfl, rfl, rfl⟩
 ·rintro σ' H' ⟨rfl, x10, x11, x12, x13, rfl⟩
  rw [lv, ZT]
  exact ⟨_, Gc.none (Same.refl _), k⟩
end
section
variable {pS : Addr} {ns : List Int} {P : Program} {w : World} {K : W.Frag} {mg : Str -> Option Value} {base : Heap} {a : Adr}
open K17 K3
structure Ap (m : Md) : Prop where
 dd : m.d ∉ [m.md, m.tq, m.s.u, m.t.u]
 tt : m.tq ∉ [m.md, m.d, m.s.u, m.t.u]
 mu : [m.rq, m.hq, m.s.b, m.t.b].Nodup
 im : ∀ x ∈ [m.rq, m.hq, m.s.b, m.t.b], x ∉ [m.s.r, m.t.r, m.nq, m.pq, m.cq, m.jq] /\ ∀ o ∈ m.os, o.pa ≠ x
def Md.fix (m : Md) : List Addr := [m.md, m.p, m.d, m.rq, m.jq, m.s.r, m.s.j, m.s.b, m.s.u, m.t.r, m.t.j, m.t.b, m.t.u]
theorem SdAt.kp {J : Addr} {H H' : Hp} {W : List Addr} {y : Sd} (x : SdAt J H y) (k : Keep W H H') (t : LW W H) (h : y.r ∉ W /\ y.j ∉ W /\ y.b ∉ W /\ y.u ∉ W) : SdAt J H' y :=
 ⟨k _ _ x.r h.1, x.rw.imp fun _ _ _ _ ⟨q, e1, e2⟩ => ⟨q, e1, k _ _ e2 (t.no e2)⟩, ⟨x.jb.at_.keep k h.2.1 h.2.2.1 h.2.2.2, qL k t x.jb.bk, x.jb.ok, x.jb.ln⟩, x.dm⟩
theorem Ms.kp {S O J : Addr} {H H' : Hp} {W : List Addr} {m : Md} (x : Ms S O J H m) (k : Keep W H H') (t : LW W H) (h : ∀ y ∈ m.fix, y ∉ W) (ho : ∀ o ∈ m.os, o.ob ∉ W /\ o.pa ∉ W) (tm : Rd H' m.tq (.dK (m.os.map (kyT m.la)))) : Ms S O J H' m := by
 unfold Md.fix at h
 simp only [List.forall_mem_cons, yU, false_imp_iff, implies_true, and_true] at h
 obtain ⟨h1, h2, h3, h4, h5, h6, h7, h8, h9, g1, g2, g3, g4⟩ := h
 refine ⟨?_, x.bu.keep k h2 h3 fun o hm => ⟨(ho o hm).1, t.no (x.bu.od o hm).ag.ag, t.no (x.bu.od o hm).ag.wt, (ho o hm).2⟩, tm, fun o hm => k _ _ (x.tt o hm) (t.no (x.tt o hm)), x.ok, x.ol, k _ _ x.rl h4, k _ _ x.jl h5, x.s.kp k t ⟨h6, h7, h8, h9⟩, x.t.kp k t ⟨g1, g2, g3, g4⟩⟩
 obtain ⟨kvs, e, g⟩ := x.kv
 exact ⟨kvs, k _ _ e h1, g⟩
theorem n1 {x y : Addr} (h : x ≠ y) : x ∉ [y] := by simpa using h
theorem Ms.frz {S O J : Addr} {H H' : Hp} {m : Md} (x : Ms S O J H m) (A : Ap m) (hd : H m.tq = some (.dK (m.os.map (kyT m.la)))) (k : Keep [m.tq] H H') (tm : Rd H' m.tq (.dK (m.os.map (kyT m.la)))) : Ms S O J H' m := by
 obtain ⟨kvs, e, _⟩ := x.kv
 obtain ⟨dp, ep⟩ := x.bu.ob
 obtain ⟨dj, ej⟩ := x.s.jb.at_.ob
 obtain ⟨dk, ek⟩ := x.t.jb.at_.ob
 have q : ∀ {y : Addr} {o : HO}, H y = some o -> o ≠ .dK (m.os.map (kyT m.la)) -> y ∉ [m.tq] := fun e n => n1 (cW e hd n)
 have a := A.tt
 simp only [ze, yU, or_false, not_or] at a
 refine x.kp k (fun y hy => by rw [zr.mp hy]; exact ⟨_, hd, fun _ z => nomatch z⟩) ?_ (fun o ho => ?_) tm
 ·unfold Md.fix
  simp only [List.forall_mem_cons, yU, false_imp_iff, implies_true, and_true]
  exact ⟨n1 (Ne.symm a.1), q ep (by intro z; cases z), n1 (Ne.symm a.2.1), q x.rl (by intro z; cases z), q x.jl (by intro z; cases z), q x.s.r (by intro z; cases z), q ej (by intro z; cases z), q x.s.jb.at_.ls (by intro z; cases z), n1 (Ne.symm a.2.2.1), q x.t.r (by intro z; cases z), q ek (by intro z; cases z), q x.t.jb.at_.ls (by intro z; cases z), n1 (Ne.symm a.2.2.2)⟩
 ·obtain ⟨dx, eo⟩ := (x.bu.od o ho).ob
  exact ⟨q eo (by intro z; cases z), q (x.bu.od o ho).pa (by intro z; cases z)⟩
open K5 in
theorem uV {o : Bd} (h : OOk o) {mo : Int} (hm : o.l <= mo) : plB o mo = o.t := by
 unfold plB
 rw [qa (by rw [tI]; have := h.ln; omega)]
 exact Ah _ _ h.ws.2 h.ws.1
theorem yh {o : Bd} {mo : Int} (hm : mo < o.f) : plB o mo = 0 := by
 unfold plB
 rw [show (mo - o.f + 1).toNat = 0 by omega]; rfl
theorem GA (g : Int -> Int) (lo : Int) : ∀ n : Nat, ((xp n).map fun k : Nat => g (lo + k) - g (lo + k - 1)).sum = g (lo + n - 1) - g (lo - 1)
 | 0 => by simp
 | n + 1 => by
  rw [List.range_succ, sY, List.sum_append, GA g lo n]
  simp only [wW, YT, Zn, List.sum_nil]
  rw [show lo + ((n + 1 : Nat) : Int) - 1 = lo + n by omega]
  omega
def sp_Cn (S O J : Addr) : Sp := sp1 fun x H Q _ => NoT H /\ asR x fun md => ∃ m, m.md = md /\ Ms S O J H m /\ Ap m /\ H m.tq = some (.dK (m.os.map (kyT m.la))) /\ Q (.bl true) H
theorem jG (T : Txt K mg a) : bg P w K mg base (XE P w) 4 a.dA a.eY ["_law_made"] (sp_Cn a.au a.aw a.av) := by
 refine T.cz.okG ff (fun vs H Q E h => sp1.len h) (fun cdv A outer s H vs Q E hr h => ?_)
 obtain ⟨x0, rfl, h⟩ := sp1.inv h
 try dsimp only [sp_Cn, sp1] at h
 have ND := ff.nd
 have HU := bj hr
 obtain ⟨hN, h1⟩ := h
 obtain ⟨md, rfl, m, em, M, A, hd, k⟩ := asR.inv h1
 have em : m.md = md := em
 subst em
 have sz := szl
 have G_Budgets_planned_by := @bF P w K mg base a T
 have b_Budgets_planned_by := bG T.bx
 have G_Budgets_planned := @lQ P w K mg base a T
 have b_Budgets_planned := lV T.gL
 refine ⟨hN, _, (af (DY (eh (by passes_own) rfl (DE (aA (Zs HU) (fv 0) (aq [116, 101, 114, 109, 115]) (fun _ _ => rfl))) (aI (i := 1) ND rfl (Or.inr rfl)) (af (iz (aA (Zs HU) (aA (Zs HU) (fv 0) (aq [116, 101, 114, 109, 115]) (fun _ _ => rfl)) (fv 1) (fun _ _ => rfl)) (iM K (n := 5) rfl (ba (aI (i := 2) ND rfl (Or.inl rfl)) (ba (aI (i := 3) ND rfl (Or.inl rfl)) (ba (aI (i := 4) ND rfl (Or.inl rfl)) (ba (aI (i := 5) ND rfl (Or.inl rfl)) (ba (aI (i := 6) ND rfl (Or.inl rfl)) gR)))))))
  (af (ic (i0 := 7) ND rfl (Or.inl rfl) rfl (cl := _) (x := "_law_month_here") (xs := ["_law_month_here"]) (fr := ["_law_name", "_law_made"]) (ks := [1, 0]) (by walk_at "cq") rfl (tF rfl T.dI (FA.pa (aa (fv 4) (aa (ah aH (fv 5) ac) ad)))) (fun _ _ _ _ _ => (aI (i := 0) (dD (l := ["_law_month_here", "_law_name", "_law_made"]) (by decide)) rfl (Or.inl rfl))) (fun _ _ _ _ _ => cF) (fun _ _ _ _ _ => (bY (aA (Zs HU) (fv 2) (aq [98, 117, 100, 103, 101, 116, 115]) (fun _ _ => rfl)) T.aY T.lE G_Budgets_planned (hr.mono (by decide)) b_Budgets_planned .nil rS (FA.pa (aa (fv 1) (aa (fv 0) ad))))))
  (af (bz (L2.PW.pt (pv (bE (j4 K HU) (aE (gJ K rfl) rfl T.ph jf (FA.pa (aa (fv 7) ad))) (fv 6) (a_ _)) (lq (bE (j4 K HU) (bY (aA (Zs HU) (fv 0) (aq [98, 117, 100, 103, 101, 116, 115]) (fun _ _ => rfl)) T.aY T.aZ G_Budgets_planned_by (hr.mono (by decide)) b_Budgets_planned_by .nil aC (FA.pa (aa (fv 1) (aa (fv 5) ad)))) (fv 6) (a_ _))))) (ak (aG fW)) aV)
  (af (bz (bE (j4 K HU) (bY (aA (Zs HU) (fv 0) (aq [98, 117, 100, 103, 101, 116, 115]) (fun _ _ => rfl)) T.aY T.aZ G_Budgets_planned_by (hr.mono (by decide)) b_Budgets_planned_by .nil aC (FA.pa (aa (fv 1) (aa (ah aH (fv 5) (ah ju ac ac)) ad)))) (fv 6) (a_ _)) (ak (aG fW)) aV)
  (ak (bz (bE (j4 K HU) (bY (aA (Zs HU) (fv 0) (aq [98, 117, 100, 103, 101, 116, 115]) (fun _ _ => rfl)) T.aY T.aZ G_Budgets_planned_by (hr.mono (by decide)) b_Budgets_planned_by .nil aC (FA.pa (aa (fv 1) (aa (ah cE (fv 4) ac) ad)))) ac (a_ _)) (ak (aG fW)) aV))))))))
  (ak (aG fW))), ?_⟩
 walk_at "rd"
 refine Fz ?_
 walk_at "rd"
 refine ⟨_, _, rfl, M.gTerms, m.tq, _, rfl, rfl, .inl hd, fun o _ => Fq (fun i σ' G => G m.tq = some (.frz o (.dK (m.os.map (kyT m.la)))) /\ NoT G /\ Keep [m.tq] H G /\ ∃ x1 x2 x3 x4 x5 x6 x7, σ' = [some (.ref m.md), x1, x2, x3, x4, x5, x6, x7]) ⟨aj, aJ hN rfl, Keep.refl.put (.head _), none, none, none, none, none, none, none, rfl⟩ (fun i σ' G h => h.1) ?_ ?_⟩
 ·rintro i x v σ' G hi ⟨ke, en, rfl⟩ ⟨g1, gN, kp, x1, x2, x3, x4, x5, x6, x7, rfl⟩
  rw [List.getElem?_map] at en
  obtain ⟨c, ec, e2⟩ := Zb.mp en
  cases e2
  have hc := tM ec
  have M1 := M.frz A hd kp (.inr ⟨o, g1⟩)
  have ef := xI M.bu.np hc
  have gt := M1.term c.nm
  rw [ef] at gt
  have B := M.ok c hc
  walk_at "rd"
  refine ⟨_, _, rfl, M1.gTerms, _, _, rfl, gt, _, _, rfl, SqT.of (M1.tt c hc), rfl, _, _, rfl, _, _, rfl, _, _, rfl, _, _, rfl, _, _, rfl, rfl, ?_⟩
  have bl := B.ln
  have bf := B.fl
  have bw := B.ws
  have fV : gb m.os (kV (Sum.inr ⟨⟨c.nm⟩⟩)) = some c := ef
  refine HG (fun H' => NoT H' /\ Same G H') (fun D ys hD => ⟨aJ gN rfl, az _ hD⟩) c.f (c.l + 1) c.ws.length (by omega) (fun _ => true) (fun v => match v with | .int i => .int (plB c i - plB c (i - 1)) | _ => .non) (fun R r => ?_) ⟨by omega, by omega, by omega, by omega⟩ (by omega) (fun k hk H' R cc r => r) (fun k hk _ H' R cc r => ?_) (fun D hD => ?_)
  ·walk_at "rd"
   exact r
  ·have M2 := M1.same cc.2
   obtain ⟨dx, hp⟩ := M2.bu.ob
   walk_at "rd"
   refine ⟨_, _, rfl, M2.gBudgets, ?_⟩
   walk_at "rd"
   refine ⟨_, _, hp, ip "planned" _, cc.1, asK.of (show bJ H' (kV (Sum.inr ⟨⟨c.nm⟩⟩)) = some "str" from rfl) ⟨m.d, m.os, M2.bu, ?_⟩⟩
   rw [fV]
   exact r
  ·have es : (((xp c.ws.length).map fun k : Nat => V.int (c.f + k)).filter fun _ => true).map (fun v => match v with | .int i => V.int (plB c i - plB c (i - 1)) | _ => .non) = ((xp c.ws.length).map fun k : Nat => plB c (c.f + k) - plB c (c.f + k - 1)).map V.int := by
    rw [pb.mpr (by simp), vD, vD]; rfl
   rw [es]
   obtain ⟨G1, ee, s1, q1, N1⟩ := bq (o := HO.lst (((xp c.ws.length).map fun k : Nat => plB c (c.f + k) - plB c (c.f + k - 1)).map V.int)) hD gN rfl
   rw [ee]
   have M2 := M1.same s1
   obtain ⟨dx, hp⟩ := M2.bu.ob
   refine ⟨_, .inl (SqL.of q1), ?_⟩
   rw [GA (plB c) c.f, show c.f + (c.ws.length : Int) - 1 = c.l by omega, uV B (Yy _), yh (by omega)]
   walk_at "rd"
   have kK : bJ G1 (kV (Sum.inr ⟨⟨c.nm⟩⟩)) = some "str" := rfl
   have e9 : (10 : Int) ^ Z1 9 = 1000000000 := by decide
   refine itp (Int.sub_zero _) ⟨_, _, rfl, M2.gBudgets, ?_⟩
   walk_at "rd"
   refine ⟨_, _, hp, ip "planned_by" _, N1, asK.of kK ⟨m.d, m.os, M2.bu, ?_⟩⟩
   rw [fV]
   refine itp (uV B (Yy _)) ⟨_, _, rfl, M2.gBudgets, ?_⟩
   walk_at "rd"
   rw [e9]
   refine ⟨_, _, hp, ip "planned_by" _, by decide, N1, asK.of kK ⟨m.d, m.os, M2.bu, ?_⟩⟩
   rw [fV]
   refine itp (uV B (by omega)) ⟨_, _, rfl, M2.gBudgets, ?_⟩
   walk_at "rd"
   refine ⟨_, _, hp, ip "planned_by" _, N1, asK.of kK ⟨m.d, m.os, M2.bu, ?_⟩⟩
   rw [fV]
   refine itp (yh (by omega)) ⟨s1 _ _ g1, N1, kp.trans (Keep.same s1), _, _, _, _, _, _, _, rfl, rfl, rfl, rfl, rfl, rfl, rfl⟩
 ·rintro σ' G ⟨g1, gN, kp, x1, x2, x3, x4, x5, x6, x7, rfl⟩
  refine ⟨m.tq, o, _, g1, .inl ⟨hd, rfl, ?_⟩⟩
  walk_at "rd"
  refine ⟨H, Gc.none (fun c z e => ?_), k⟩
  by_cases hc : c = m.tq
  ·subst hc; rw [aj]; rw [hd] at e; exact e
  ·rw [ar hc]; exact kp _ _ e (n1 hc)
def sp_yZ (S O J : Addr) : Sp := sp2 fun x n H Q _ => NoT H /\ asR x fun md => asT n fun l => ∃ m, m.md = md /\ Ms S O J H m /\ fnd m.os l = none /\ ∀ H', Same H H' -> NoT H' -> Q (.bl true) H'
theorem vo (T : Txt K mg a) : bg P w K mg base (XE P w) 6 a.jg a.mP ["_law_made", "_law_name"] (sp_yZ a.au a.aw a.av) := by
 refine T.jr.okX nP (fun vs H Q E h => sp2.len h) (fun cdv A outer s H vs Q E hr h => ?_)
 obtain ⟨x0, x1, rfl, h⟩ := sp2.inv h
 try dsimp only [sp_yZ, sp2] at h
 have ND := nP.nd
 have HU := bj hr
 obtain ⟨hN, h1⟩ := h
 obtain ⟨md, rfl, h2⟩ := asR.inv h1
 obtain ⟨l, rfl, m, em, M, ef, k⟩ := asT.inv h2
 have em : m.md = md := em
 subst em
 have sz := szl
 have G_done_by := @mz P w K mg base a T
 have b_done_by := lG T.eP
 have G_left := @vC P w K mg base a T
 have b_left := uo T.lD
 refine ⟨_, (af (aK (i := 2) ND rfl (Or.inl rfl) ac)
  (af (eh (by passes_own) rfl (cU rfl T.dI (FA.pa (aa ac ad))) (aI (i := 3) ND rfl (Or.inl rfl)) (ak (F6 (i := 4) ND rfl rfl rfl T.vq rfl rfl rfl (fun pn Ee Ex PX => (ak (bz (bE (bV K HU) (fv 3) ac (a_ _)) (ak (dv (ao G_done_by (hr.mono (by decide)) rfl T.nZ T.eP.kp b_done_by .nil PX (FA.pa (aa (aA (Zs HU) (fv 0) (aq [98, 117, 100, 103, 101, 116, 115]) (fun _ _ => rfl)) (aa (aX (aD K) (aA (Zs HU) (fv 0) (aq [106, 111, 117, 114, 110, 97, 108, 115]) (fun _ _ => rfl)) ac (fun _ _ => rfl)) (aa (fv 1) (aa ac ad)))))))) (ak (dv (ao G_left (hr.mono (by decide)) rfl T.xw T.lD.kp b_left .nil PX (FA.pa (aa (aA (Zs HU) (fv 0) (aq [98, 117, 100, 103, 101, 116, 115]) (fun _ _ => rfl)) (aa (aX (aD K) (aA (Zs HU) (fv 0) (aq [106, 111, 117, 114, 110, 97, 108, 115]) (fun _ _ => rfl)) ac (fun _ _ => rfl)) (aa (fv 1) (aa ac ad))))))))))) (fun e => (af (aK (i := 5) ND rfl (Or.inl rfl) (tY (aE (cb K) rfl T.aW aS (FA.pa (aa (fv 4) (aa (j9 (v := .ref a.js) rfl T.vM rfl) ad)))) (tY (aE (cb K) rfl T.aW aS (FA.pa (aa (fv 4) (aa (j9 (v := .ref a.gG) rfl T.xa rfl) ad)))) (cV (aE (cb K) rfl T.aW aS (FA.pa (aa (fv 4) (aa (j9 (v := .ref a.oA) rfl T.zO rfl) ad))))))))
  (af (aK (i := 5) ND rfl (Or.inl rfl) (tY (fv 5) (cV (aE (cb K) rfl T.aW aS (FA.pa (aa (fv 4) (aa (j9 (v := .ref a.rj) rfl T.BU rfl) ad)))))))
  (ak (aK (i := 2) ND rfl (Or.inl rfl) (ah aH (fv 2) (fL zv rfl T.yI uH (FA.pa (aa (dl (aE (cb K) rfl T.aW aS (FA.pa (aa (fv 4) (aa (j9 (v := .ref a.aT) rfl T.rE rfl) ad)))) (dl (aE (cb K) rfl T.aW aS (FA.pa (aa (fv 4) (aa (dH (v := .ty "ValueError") rfl T.ui sy rfl) ad)))) (cV (xC (fv 5))))) ad))))))))))))
  (ak (aG (dF (bV K HU) (fv 2) ac (a_ _)))))), ?_⟩
 walk_at "rd"
 refine h_ ?_
 walk_at "rd"
 refine eI (lo := 0) (n := 2) (fun i σ' G => Same H G /\ NoT G /\ ∃ x3 x4 x5, σ' = [some (.ref m.md), some (L2.T l), some (.int i), x3, x4, x5]) ⟨Same.refl _, hN, none, none, none, rfl⟩ ?_ ?_
 ·rintro i σ' G hi ⟨s, nG, x3, x4, x5, rfl⟩
  have M1 := M.same s
  have pl : ∀ o ∈ m.os, o.pt.length <= 200 := fun o ho => (M.ok o ho).pl
  walk_at "rd"
  split
  all_goals
   refine ⟨_, _, rfl, M1.gBudgets, _, _, rfl, M1.gJours, ?_⟩
   walk_at "rd"
   refine ⟨_, _, .inl (SqL.of M1.jl), a9 (j := 0) rfl, nG, m.d, m.os, _, _, _, _, M1.bu, pl, M1.s.jb, ?_⟩
   rw [show gb m.os (L2.T l) = none from ef]
   refine ⟨a.aT, rfl, T.i6, fun e he => ?_⟩
   have se := s.trans (az (iU (.ref a.aT) e) he)
   have ge : upd G e (iU (.ref a.aT) e) e = _ := aj
   have Ne : NoT (upd G e (iU (.ref a.aT) e)) := aJ nG rfl
   generalize upd G e (iU (.ref a.aT) e) = Ge at se ge Ne |-
   refine ⟨_, _, ge, T.eJ, T.jR, ?_⟩
   walk_at "rd"
   have ke : bJ Ge (.ref e) = none := by simp [bJ, ge, iU]
   refine ⟨_, _, ge, T.eJ, T.jm, itn (by decide) ⟨_, _, ge, T.eJ, T.lS, itn (by decide) ?_⟩⟩
   simp only [ke]
   exact ⟨_, _, ge, T.eJ, T.m6, _, _, ge, T.eJ, T.kj, itp rfl ⟨e, _, _, rfl, ge, T.eJ, T.i8, itp rfl ⟨se, Ne, _, _, _, by simp, rfl, rfl, rfl⟩⟩⟩
 ·rintro σ' G ⟨s, nG, x3, x4, x5, rfl⟩
  walk_at "rd"
  exact k _ s nG
open K17 K3
def PRM : List (List Int) := [[0, 1, 2], [1, 0, 2], [2, 1, 0], [1, 2, 0], [0, 2, 1], [2, 0, 1]]
def oS (A : List Int) (seen : List Int) : List V := (xp 3).map fun k : Nat => if (k : Int) ∈ seen then .int (A.getD k 0) else .non
theorem Ed {A seen : List Int} {w : Int} (hw : w = 0 \/ w = 1 \/ w = 2) : (oS A seen).set w.toNat (.int (A.getD w.toNat 0)) = oS A (seen ++ [w]) := by
 rcases hw with rfl | rfl | rfl <;> simp [oS, xp, xp.loop]
def sp_BZ (S O J : Addr) : Sp := sp5 fun x i n mo tu H Q _ => NoT H /\ asR x fun md => asI i fun i => asT n fun l => asI mo fun mo => asI tu fun tu => ∃ m o y, m.md = md /\ Ms S O J H m /\ SdAt J H y /\ atI [V.ref m.s.j, V.ref m.t.j] i = some (.ref y.j) /\ fnd m.os l = some o /\
 ∀ q H', H q = none -> Same H H' -> NoT H' -> H' q = some (.lst [.int (dnB y.B o mo), .int (plB o mo - dnB y.B o mo), .int (plB o mo)]) -> Q (.ref q) H'
theorem pH (T : Txt K mg a) : bg P w K mg base (XE P w) 6 a.f_ a.iS ["_law_made", "_law_at", "_law_name", "_law_month_here", "_law_turn"] (sp_BZ a.au a.aw a.av) := by
 refine T.fS.okX iT (fun vs H Q E h => sp5.len h) (fun cdv A outer s H vs Q E hr h => ?_)
 obtain ⟨x0, x1, x2, x3, x4, rfl, h⟩ := sp5.inv h
 try dsimp only [sp_BZ, sp5] at h
 have ND := iT.nd
 have HU := bj hr
 obtain ⟨hN, h1⟩ := h
 obtain ⟨md, rfl, h2⟩ := asR.inv h1
 obtain ⟨ia, rfl, h3⟩ := asI.inv h2
 obtain ⟨l, rfl, h4⟩ := asT.inv h3
 obtain ⟨mo, rfl, h5⟩ := asI.inv h4
 obtain ⟨tu, rfl, m, o, y, em, M, Y, yj, ef, k⟩ := asI.inv h5
 have em : m.md = md := em
 subst em
 have sz := szl
 have pl : ∀ o ∈ m.os, o.pt.length <= 200 := fun o ho => (M.ok o ho).pl
 have fV : gb m.os (L2.T l) = some o := ef
 have G_done_by := @mz P w K mg base a T
 have b_done_by := lG T.eP
 have G_left := @vC P w K mg base a T
 have b_left := uo T.lD
 have G_Budgets_planned_by := @bF P w K mg base a T
 have b_Budgets_planned_by := bG T.bx
 refine ⟨_, (af (aK (i := 5) ND rfl (Or.inl rfl) (cw (FA.pa (aa uu (aa uu (aa uu ad))))))
  (af (eh (by passes_own) rfl (bQ K (rz (FA.pa (aa (cw (FA.pa (aa ac (aa ac (aa ac ad))))) (aa (cw (FA.pa (aa ac (aa ac (aa ac ad))))) (aa (cw (FA.pa (aa ac (aa ac (aa ac ad))))) (aa (cw (FA.pa (aa ac (aa ac (aa ac ad))))) (aa (cw (FA.pa (aa ac (aa ac (aa ac ad))))) (aa (cw (FA.pa (aa ac (aa ac (aa ac ad))))) ad))))))) (ah aO (fv 4) ac) (fun _ _ => rfl))) (aI (i := 6) ND rfl (Or.inl rfl)) (ak (bz (bE (bV K HU) (fv 6) ac (a_ _)) (ak (iz (ao G_done_by (hr.mono (by decide)) rfl T.nZ T.eP.kp b_done_by .nil aC (FA.pa (aa (aA (Zs HU) (fv 0) (aq [98, 117, 100, 103, 101, 116, 115]) (fun _ _ => rfl)) (aa (aX (aD K) (aA (Zs HU) (fv 0) (aq [106, 111, 117, 114, 110, 97, 108, 115]) (fun _ _ => rfl)) (fv 1) (fun _ _ => rfl)) (aa (fv 2) (aa (fv 3) ad)))))) (n9 (fv 5) ac il))) (ak (bz (bE (bV K HU) (fv 6) ac (a_ _)) (ak (iz (ao G_left (hr.mono (by decide)) rfl T.xw T.lD.kp b_left .nil aC (FA.pa (aa (aA (Zs HU) (fv 0) (aq [98, 117, 100, 103, 101, 116, 115]) (fun _ _ => rfl)) (aa (aX (aD K) (aA (Zs HU) (fv 0) (aq [106, 111, 117, 114, 110, 97, 108, 115]) (fun _ _ => rfl)) (fv 1) (fun _ _ => rfl)) (aa (fv 2) (aa (fv 3) ad)))))) (n9 (fv 5) ac il))) (ak (iz (bY (aA (Zs HU) (fv 0) (aq [98, 117, 100, 103, 101, 116, 115]) (fun _ _ => rfl)) T.aY T.aZ G_Budgets_planned_by (hr.mono (by decide)) b_Budgets_planned_by .nil aC (FA.pa (aa (fv 2) (aa (fv 3) ad)))) (n9 (fv 5) ac il))))))))
  (ak (aG (fv 5))))), ?_⟩
 walk_at "rd"
 refine ⟨by omega, fun q fq => mQ ?_⟩
 walk_at "rd"
 obtain ⟨H1, ee, s1, g1, N1⟩ := bq (o := HO.lst [V.non, V.non, V.non]) fq hN rfl
 rw [ee]
 refine ⟨N1, by omega, fun p0 f0 => ?_⟩
 obtain ⟨A0, ee, b0, c0, NA0⟩ := bq (o := HO.lst [V.int 0, V.int 1, V.int 2]) f0 N1 rfl
 rw [ee]
 refine ⟨by omega, fun p1 f1 => ?_⟩
 obtain ⟨A1, ee, b1, c1, NA1⟩ := bq (o := HO.lst [V.int 1, V.int 0, V.int 2]) f1 NA0 rfl
 rw [ee]
 refine ⟨by omega, fun p2 f2 => ?_⟩
 obtain ⟨A2', ee, b2, c2, NA2⟩ := bq (o := HO.lst [V.int 2, V.int 1, V.int 0]) f2 NA1 rfl
 rw [ee]
 refine ⟨by omega, fun p3 f3 => ?_⟩
 obtain ⟨A3, ee, b3, c3, NA3⟩ := bq (o := HO.lst [V.int 1, V.int 2, V.int 0]) f3 NA2 rfl
 rw [ee]
 refine ⟨by omega, fun p4 f4 => ?_⟩
 obtain ⟨A4, ee, b4, c4, NA4⟩ := bq (o := HO.lst [V.int 0, V.int 2, V.int 1]) f4 NA3 rfl
 rw [ee]
 refine ⟨by omega, fun p5 f5 => ?_⟩
 obtain ⟨A5, ee, b5, c5, NA5⟩ := bq (o := HO.lst [V.int 2, V.int 0, V.int 1]) f5 NA4 rfl
 rw [ee]
 have b01 := b0.trans b1
 have b02 := b01.trans b2
 have b03 := b02.trans b3
 have b04 := b03.trans b4
 have b45 := b4.trans b5
 have b35 := b3.trans b45
 have b25 := b2.trans b35
 refine ⟨b04.trans b5, by omega, fun p6 f6 => ?_⟩
 obtain ⟨pj, xs, ex, fr, gx, hx⟩ : ∃ pj, ∃ xs : List Int, atI [V.ref p0, V.ref p1, V.ref p2, V.ref p3, V.ref p4, V.ref p5] (tu % 6) = some (.ref pj) /\ H1 pj = none /\ A5 pj = some (.lst (xs.map V.int)) /\ xs ∈ PRM := by
  have h6 : tu % 6 = 0 \/ tu % 6 = 1 \/ tu % 6 = 2 \/ tu % 6 = 3 \/ tu % 6 = 4 \/ tu % 6 = 5 := by omega
  rcases h6 with h | h | h | h | h | h <;> rw [h]
  ·exact ⟨p0, [0, 1, 2], rfl, f0, (b1.trans b25) _ _ c0, by decide⟩
  ·exact ⟨p1, [1, 0, 2], rfl, b0.free f1, b25 _ _ c1, by decide⟩
  ·exact ⟨p2, [2, 1, 0], rfl, b01.free f2, b35 _ _ c2, by decide⟩
  ·exact ⟨p3, [1, 2, 0], rfl, b02.free f3, b45 _ _ c3, by decide⟩
  ·exact ⟨p4, [0, 2, 1], rfl, b03.free f4, b5 _ _ c4, by decide⟩
  ·exact ⟨p5, [2, 0, 1], rfl, b04.free f5, c5, by decide⟩
 refine BG ex fr gx rfl ?_
 have hx2 : (∀ w ∈ xs, w = 0 \/ w = 1 \/ w = 2) /\ (0 : Int) ∈ xs /\ (1 : Int) ∈ xs /\ (2 : Int) ∈ xs := by
  have : ∀ xs ∈ PRM, (∀ w ∈ xs, w = 0 \/ w = 1 \/ w = 2) /\ (0 : Int) ∈ xs /\ (1 : Int) ∈ xs /\ (2 : Int) ∈ xs := by decide
  exact this xs hx
 clear b0 b1 b2 b3 b4 b5 b01 b02 b03 b04 b45 b35 b25 c0 c1 c2 c3 c4 c5 f0 f1 f2 f3 f4 f5 f6 NA0 NA1 NA2 NA3 NA4 NA5 ex gx hx
 obtain ⟨H2, ee, s2, g2, N2⟩ := bq (o := HO.lst (xs.map V.int)) fr N1 rfl
 rw [ee]
 have s12 := s1.trans s2
 have nq : pj ≠ q := Ne.symm (ai g1 fr)
 refine jP (SqL.of g2) (nk (xs := xs.map V.int) (fun i σ' G => Same H G /\ NoT G /\ G pj = some (.lst (xs.map V.int)) /\ G q = some (.lst (oS [dnB y.B o mo, plB o mo - dnB y.B o mo, plB o mo] (xs.take i))) /\ ∃ x6, σ' = [some (.ref m.md), some (.int ia), some (L2.T l), some (.int mo), some (.int tu), some (.ref q), x6]) ⟨s12, N2, g2, s2 _ _ g1, none, rfl⟩ (fun i σ' G _ h => SqL.of h.2.2.1) ?_ ?_)
 ·rintro i x σ' G hxi ⟨sG, nG, gp, gq, x6, rfl⟩
  rw [List.getElem?_map] at hxi
  obtain ⟨wy, ew, rfl⟩ := Zb.mp hxi
  have hw := hx2.1 wy (tM ew)
  have et : xs.take (i + 1) = xs.take i ++ [wy] := by rw [ZQ, ew]; rfl
  have M1 := M.same sG
  have Y1 := Y.same sG
  obtain ⟨dx, hp⟩ := M1.bu.ob
  have fin : ∀ v, v = V.int (([dnB y.B o mo, plB o mo - dnB y.B o mo, plB o mo] : List Int).getD wy.toNat 0) -> ∀ j, j = wy.toNat -> Same H (upd G q (.lst ((oS [dnB y.B o mo, plB o mo - dnB y.B o mo, plB o mo] (xs.take i)).set j v))) /\ NoT (upd G q (.lst ((oS [dnB y.B o mo, plB o mo - dnB y.B o mo, plB o mo] (xs.take i)).set j v))) /\ upd G q (.lst ((oS [dnB y.B o mo, plB o mo - dnB y.B o mo, plB o mo] (xs.take i)).set j v)) pj = some (.lst (xs.map V.int)) /\ upd G q (.lst ((oS [dnB y.B o mo, plB o mo - dnB y.B o mo, plB o mo] (xs.take i)).set j v)) q = some (.lst (oS [dnB y.B o mo, plB o mo - dnB y.B o mo, plB o mo] (xs.take (i + 1)))) := fun v ev j ej => by
   subst ev ej
   rw [et, <- Ed hw]
   exact ⟨cI sG fq, aJ nG rfl, (ar nq).trans gp, aj⟩
  have la : ∀ z, (oS [dnB y.B o mo, plB o mo - dnB y.B o mo, plB o mo] z).length = 3 := fun z => by simp [oS]
  walk_at "rd"
  by_cases w0 : wy = 0
  ·subst w0
   refine itp rfl ⟨_, _, rfl, M1.gBudgets, _, _, rfl, M1.gJours, ?_⟩
   walk_at "rd"
   refine ⟨_, _, .inl (SqL.of M1.jl), yj, nG, m.d, m.os, _, _, _, _, M1.bu, pl, Y1.jb, ?_⟩
   rw [fV]
   obtain ⟨a1, a2, a3, a4⟩ := fin _ rfl 0 rfl
   exact ⟨q, _, 0, 0, rfl, rfl, gq, by rw [la]; rfl, a1, a2, a3, a4, _, rfl⟩
  refine itn w0 ?_
  by_cases w1 : wy = 1
  ·subst w1
   refine itp rfl ⟨_, _, rfl, M1.gBudgets, _, _, rfl, M1.gJours, ?_⟩
   walk_at "rd"
   refine ⟨_, _, .inl (SqL.of M1.jl), yj, nG, m.d, m.os, _, _, _, _, M1.bu, pl, Y1.jb, ?_⟩
   rw [fV]
   obtain ⟨a1, a2, a3, a4⟩ := fin _ rfl 1 rfl
   exact ⟨q, _, 1, 1, rfl, rfl, gq, by rw [la]; rfl, a1, a2, a3, a4, _, rfl⟩
  have w2 : wy = 2 := by omega
  subst w2
  refine itn w1 ⟨_, _, rfl, M1.gBudgets, ?_⟩
  walk_at "rd"
  refine ⟨_, _, hp, ip "planned_by" _, nG, m.d, m.os, M1.bu, ?_⟩
  rw [fV]
  obtain ⟨a1, a2, a3, a4⟩ := fin _ rfl 2 rfl
  exact ⟨q, _, 2, 2, rfl, rfl, gq, by rw [la]; rfl, a1, a2, a3, a4, _, rfl⟩
 ·rintro σ' G ⟨sG, nG, gp, gq, x6, rfl⟩
  walk_at "rd"
  rw [zc, ZT] at gq
  refine k q G fq sG nG (gq.trans ?_)
  have : oS [dnB y.B o mo, plB o mo - dnB y.B o mo, plB o mo] xs = [.int (dnB y.B o mo), .int (plB o mo - dnB y.B o mo), .int (plB o mo)] := by
   simp [oS, xp, xp.loop, hx2.2]
  rw [this]
structure Yk (J : Addr) (H : Hp) (m : Md) (i : Int) (y : Sd) : Prop where
 at_ : SdAt J H y
 r : atI [V.ref m.s.r, V.ref m.t.r] i = some (.ref y.r)
 j : atI [V.ref m.s.j, V.ref m.t.j] i = some (.ref y.j)
 ln : y.R.length <= 200
 pa : ∀ e ∈ y.R, e.2.pa.length <= 200
theorem Yk.same {J : Addr} {H H' : Hp} {m : Md} {i : Int} {y : Sd} (x : Yk J H m i y) (s : Same H H') : Yk J H' m i y := ⟨x.at_.same s, x.r, x.j, x.ln, x.pa⟩
def sp_ze (S O J : Addr) : Sp := sp5 fun x i n mo tu H Q _ => NoT H /\ asR x fun md => asI i fun i => asT n fun l => asI mo fun mo => asI tu fun tu => ∃ m y, m.md = md /\ Ms S O J H m /\ Yk J H m i y /\ ∀ H', Same H H' -> NoT H' -> Q (.bl true) H'
theorem ng (T : Txt K mg a) : bg P w K mg base (XE P w) 8 a.jK a.mG ["_law_made", "_law_at", "_law_name", "_law_month_here", "_law_turn"] (sp_ze a.au a.aw a.av) := by
 refine T.d5.okX mH (fun vs H Q E h => sp5.len h) (fun cdv A outer s H vs Q E hr h => ?_)
 obtain ⟨x0, x1, x2, x3, x4, rfl, h⟩ := sp5.inv h
 try dsimp only [sp_ze, sp5] at h
 have ND := mH.nd
 have HU := bj hr
 obtain ⟨hN, h1⟩ := h
 obtain ⟨md, rfl, h2⟩ := asR.inv h1
 obtain ⟨ia, rfl, h3⟩ := asI.inv h2
 obtain ⟨l, rfl, h4⟩ := asT.inv h3
 obtain ⟨mo, rfl, h5⟩ := asI.inv h4
 obtain ⟨tu, rfl, m, y, em, M, Y, k⟩ := asI.inv h5
 have em : m.md = md := em
 subst em
 have gt := M.term l
 have G__law_whole := @kX P w K mg base a T
 have b__law_whole := km T.dw
 have G__law_answers := @pH P w K mg base a T
 have b__law_answers := pM T.fS
 have G__law_due := @oX P w K mg base a T
 have b__law_due := pz T.gf
 have G__law_none := @vo P w K mg base a T
 have b__law_none := uA T.jr
 refine ⟨_, (af (bz (w8 (n8 (Zs HU) (fv 2) (aA (Zs HU) (fv 0) (aq [116, 101, 114, 109, 115]) (fun _ _ => rfl))) (by with_unfolding_all rfl)) (ak (aG (ao G__law_none (hr.mono (by decide)) rfl T.w4 T.jr.kp b__law_none .nil aC (FA.pa (aa (fv 0) (aa (fv 2) ad)))))) aV)
  (af (aK (i := 5) ND rfl (Or.inl rfl) (ao G__law_due (hr.mono (by decide)) rfl T.qh T.gf.kp b__law_due .nil aC (FA.pa (aa (fv 0) (aa (fv 1) (aa (fv 2) (aa (fv 3) ad)))))))
  (af (iz (ao G__law_answers (hr.mono (by decide)) rfl T.rp T.fS.kp b__law_answers .nil aC (FA.pa (aa (fv 0) (aa (fv 1) (aa (fv 2) (aa (fv 3) (aa (fv 4) ad))))))) (DT K (n := 3) rfl (ba (aI (i := 6) ND rfl (Or.inl rfl)) (ba (aI (i := 7) ND rfl (Or.inl rfl)) (ba (aI (i := 8) ND rfl (Or.inl rfl)) gR)))))
  (af (bz (L2.PW.pt (pv (b8 (b_ (ao G__law_whole (hr.mono (by decide)) rfl T.iN T.dw.kp b__law_whole .nil aC (FA.pa (aa (fv 6) ad))))) (lq (bE (j4 K HU) (fv 6) (fv 5) (a_ _))))) (ak (aG fW)) aV)
  (ak (aG (dl (ao G__law_whole (hr.mono (by decide)) rfl T.iN T.dw.kp b__law_whole .nil aC (FA.pa (aa (fv 7) ad))) (cV (dF (bV K HU) (fv 7) (ah cE (fv 8) (fv 5)) (a_ _)))))))))), ?_⟩
 walk_at "rd"
 refine ⟨_, _, rfl, M.gTerms, _, _, rfl, gt, ?_⟩
 rw [Yw]
 cases ef : fnd m.os l with
 | none => exact itp rfl ⟨hN, m, rfl, M, ef, k⟩
 | some o =>
  refine itn (by intro z; cases z) ⟨hN, m, o, y, rfl, M, Y.at_, Y.r, Y.ln, Y.pa, ef, hN, m, o, y, rfl, M, Y.at_, Y.j, ef, fun q H' fq s' n' gq => ?_⟩
  refine ⟨q, _, rfl, SqL.of gq, rfl, _, _, rfl, _, _, rfl, _, _, rfl, rfl, n', asK.of rfl (itn (by intro z; cases z) ?_)⟩
  walk_at "rd"
  refine ⟨n', ?_⟩
  walk_at "rd"
  exact k H' s' n'
open K17 K3
def TpAt (G : Hp) (v : V) (e : List V) : Prop := ∃ q, v = .ref q /\ G q = some (.tup e)
theorem eqx {n : Nat} {H : Hp} {v : V} (f : da v = true) : EqH K H n v v true := by
 have h := EqH.flat (K := K) (H := H) (n := n) f f
 have e : eqV v v = true := by cases v <;> simp [eqV] at f |- <;> simp [da] at f
 rw [e] at h; exact h
theorem xZ {H : Hp} {p q : Addr} {xs ys : List V} {es : List (List V)} (hp : H p = some (.lst xs)) (hq : H q = some (.lst ys)) (h : A2 (TpAt H) xs es) (h' : A2 (TpAt H) ys es) (fl : ∀ e ∈ es, e.all da = true) : EqR K H p q true := by
 have := EqR.lst (K := K) (e := fun _ => true) (SqL.of hp) (SqL.of hq) (h.len.trans h'.len.symm) fun j x y gx gy => by
  obtain ⟨e, g1, q1, rfl, e1⟩ := h.at_ gx
  obtain ⟨e', g2, q2, rfl, e2⟩ := h'.at_ gy
  rw [g1] at g2; cases g2
  by_cases hq : q1 = q2
  ·subst hq; exact .same
  ·have := EqH.tup (K := K) (H := H) (n := 49) (e := fun _ => true) hq (SqT.of e1) (SqT.of e2) fun j x y gx gy => by
    rw [gx] at gy; cases gy
    exact eqx (Zo.mp (fl e (tM g1)) _ (tM gx))
   rwa [show (((xp (min e.length e.length)).all fun _ => true) && e.length == e.length) = true by simp] at this
 rwa [show (xp xs.length).all (fun _ => true) = true by simp] at this
theorem MkA.tp {β : Type} {mk : β -> List V} {H G : Hp} {vs : List V} {es : List β} (h : A2 (MkA mk H G) vs es) : A2 (TpAt G) vs (es.map mk) := by
 induction h with
 | nil => exact .nil
 | cons r _ ih => obtain ⟨q, e, _, g⟩ := r; exact .cons ⟨q, e, g⟩ ih
theorem TpAt.same {G G' : Hp} {vs : List V} {es : List (List V)} (h : A2 (TpAt G) vs es) (s : Same G G') : A2 (TpAt G') vs es := h.imp fun _ _ _ _ ⟨q, e, g⟩ => ⟨q, e, s _ _ g⟩
theorem TpAt.kp {W : List Addr} {G G' : Hp} {vs : List V} {es : List (List V)} (h : A2 (TpAt G) vs es) (k : Keep W G G') (t : LW W G) : A2 (TpAt G') vs es := h.imp fun _ _ _ _ ⟨q, e, g⟩ => ⟨q, e, k _ _ g (t.no g)⟩
theorem yJ {H' : Hp} {t r : Addr} {vs : List V} {es : List (List V)} {e : List V} (ht : H' t = none) (hr : H' r = some (.lst vs)) (ha : A2 (TpAt H') vs es) : A2 (TpAt (upd (upd H' t (.tup e)) r (.lst (vs ++ [.ref t])))) (vs ++ [.ref t]) (es ++ [e]) := by
 have nt : t ≠ r := Ne.symm (ai hr ht)
 refine (ha.imp fun v y _ _ h => ?_).snoc ⟨t, rfl, (ar nt).trans aj⟩
 obtain ⟨q, rfl, e⟩ := h
 exact ⟨q, rfl, (ar (cW e hr)).trans ((ar (ai e ht)).trans e)⟩
def HdN (H H' : Hp) (v : V) : Prop := ∃ q c d xs ys es, v = .ref q /\ (H q = none /\ H c = none /\ H d = none) /\ H' q = some (.lst [.ref c, .ref d]) /\ H' c = some (.lst xs) /\ H' d = some (.lst ys) /\ A2 (TpAt H') xs es /\ A2 (TpAt H') ys es /\ ∀ e ∈ es, e.all da = true
theorem HdN.same {H G G' : Hp} {v : V} (x : HdN H G v) (s : Same G G') : HdN H G' v := by
 obtain ⟨q, c, d, xs, ys, es, e, f, h1, h2, h3, t1, t2, fl⟩ := x
 exact ⟨q, c, d, xs, ys, es, e, f, s _ _ h1, s _ _ h2, s _ _ h3, TpAt.same t1 s, TpAt.same t2 s, fl⟩
theorem Ms.held {S O J : Addr} {H H' : Hp} {m : Md} (x : Ms S O J H m) (A : Ap m) (hh : H m.hq = some (.lst m.hs)) (k : Keep [m.hq] H H') : Ms S O J H' m := by
 obtain ⟨dp, ep⟩ := x.bu.ob
 obtain ⟨dj, ej⟩ := x.s.jb.at_.ob
 obtain ⟨dk, ek⟩ := x.t.jb.at_.ob
 obtain ⟨kvs, ev, _⟩ := x.kv
 have q : ∀ {y : Addr} {o : HO}, H y = some o -> (∀ l, o ≠ .lst l) -> y ∉ [m.hq] := fun e n => n1 (cW e hh (n _))
 have a := A.mu
 have b := (A.im m.hq (by simp))
 simp only [nW, ze, yU, or_false, not_or] at a b
 refine x.kp k (LW.one hh) ?_ (fun o ho => ?_) ?_
 ·unfold Md.fix
  simp only [List.forall_mem_cons, yU, false_imp_iff, implies_true, and_true]
  exact ⟨q ev (by intro _ z; cases z), q ep (by intro _ z; cases z), q x.bu.dc (by intro _ z; cases z), n1 a.1.1, n1 (Ne.symm b.1.2.2.2.2.2), n1 (Ne.symm b.1.1), q ej (by intro _ z; cases z), n1 (Ne.symm a.2.1.1), q x.s.jb.at_.dc (by intro _ z; cases z), n1 (Ne.symm b.1.2.1), q ek (by intro _ z; cases z), n1 (Ne.symm a.2.1.2), q x.t.jb.at_.dc (by intro _ z; cases z)⟩
 ·obtain ⟨dx, eo⟩ := (x.bu.od o ho).ob
  exact ⟨q eo (by intro _ z; cases z), n1 (b.2 o ho)⟩
 ·rcases x.tm with e | ⟨o, e⟩
  ·exact .inl (k _ _ e (q e (by intro _ z; cases z)))
  ·exact .inr ⟨o, k _ _ e (q e (by intro _ z; cases z))⟩
theorem Hb {B : List Bk} {o : Bd} {mo : Int} (h : mo < o.f) : dnB B o mo = 0 := by
 unfold dnB SWI
 have : B.filter (dyP (FD o.f) (FD ((if o.l < mo then o.l else mo) + 1) - 1)) = [] := by
  rw [List.filter_eq_nil_iff]
  intro b _ z
  unfold dyP at z
  rw [sW, decide_eq_true_eq, decide_eq_true_eq] at z
  have : (if o.l < mo then o.l else mo) + 1 <= o.f := by split <;> omega
  have := K3.FD_mono this
  omega
 rw [this]; rfl
def sp_xf (S O J : Addr) : Sp := sp3 fun x i mo H Q _ => NoT H /\ asR x fun md => asI i fun i => asI mo fun mo => ∃ m y, m.md = md /\ Ms S O J H m /\ Ap m /\ H m.tq = some (.dK (m.os.map (kyT m.la))) /\ Yk J H m i y /\ (y = m.s \/ y = m.t) /\ H m.hq = some (.lst m.hs) /\ m.hs.length <= 1000 /\
 ∀ H' v, H' m.hq = some (.lst (m.hs ++ [v])) -> Keep [m.hq] H H' -> NoT H' -> HdN H H' v -> Q (.bl true) H'
theorem nI (T : Txt K mg a) : bg P w K mg base (XE P w) 7 a.gP a.mU ["_law_made", "_law_at", "_law_month_here"] (sp_xf a.au a.aw a.av) := by
 refine T.dt.okX mK (fun vs H Q E h => sp3.len h) (fun cdv A outer s H vs Q E hr h => ?_)
 obtain ⟨x0, x1, x2, rfl, h⟩ := sp3.inv h
 try dsimp only [sp_xf, sp3] at h
 have ND := mK.nd
 have HU := bj hr
 obtain ⟨hN, h1⟩ := h
 obtain ⟨md, rfl, h2⟩ := asR.inv h1
 obtain ⟨ia, rfl, h3⟩ := asI.inv h2
 obtain ⟨mo, rfl, m, y, em, M, AP, hd, Y, hy, hh, lh, k⟩ := asI.inv h3
 have em : m.md = md := em
 subst em
 have sz : 2000 <= sizeLine := by rw [ue]; decide
 have pl : ∀ o ∈ m.os, o.pt.length <= 200 := fun o ho => (M.ok o ho).pl
 have ol := M.ol
 have G_over := @DV P w K mg base a T
 have b_over := Eh T.vj
 have G__law_whole := @kX P w K mg base a T
 have b__law_whole := km T.dw
 have G_Budgets_planned_by := @bF P w K mg base a T
 have b_Budgets_planned_by := bG T.bx
 have G__law_due := @oX P w K mg base a T
 have b__law_due := pz T.gf
 have c2 : ∃ u, PSs (d7 (XE P w) P w K mg base ["_law_made", "_law_at", "_law_month_here", "_law_due_here", "_law_name", "_law_rest", "_law_found", "_law_pair"] "_law_over" (ae ce) a.gP cdv A outer s H E) (ZL 2 (ay ce)) u /\ ∀ G dq vs es x4 x5, Same H G -> NoT G -> H dq = none -> G dq = some (.lst vs) -> A2 (TpAt G) vs es -> (∀ ls : List (List Nat), ls.Perm (m.os.map (·.nm)) -> InO ls -> es = ((ovL y.B m.os mo ls).filter ovN).map mkO) ->
  u { nx := fun _ H' => Q .non H', rt := Q } [some (.ref m.md), some (.int ia), some (.int mo), some (.ref dq), x4, x5, none, none] G := by
  refine ⟨_, (af (aK (i := 6) ND rfl (Or.inl rfl) (ao G_over (hr.mono (by decide)) rfl T.Cs T.vj.kp b_over .nil aC (FA.pa (aa (aA (Zs HU) (fv 0) (aq [98, 117, 100, 103, 101, 116, 115]) (fun _ _ => rfl)) (aa (aX (aD K) (aA (Zs HU) (fv 0) (aq [106, 111, 117, 114, 110, 97, 108, 115]) (fun _ _ => rfl)) (fv 1) (fun _ _ => rfl)) (aa (fv 2) ad))))))
   (af (bz (L2.PW.pt (pv (b8 (b_ (aE (cb K) rfl T.aW aS (FA.pa (aa (fv 6) (aa (dH (v := .ty "list") rfl T.vB pN rfl) ad)))))) (lq (bE (j4 K HU) (fv 6) (fv 3) (a_ _))))) (ak (aG fW)) aV)
   (af (eh (by passes_own) rfl (bQ K (fv 6)) (aI (i := 7) ND rfl (Or.inl rfl)) (ak (bz (L2.PW.pt (pv (b8 (b_ (aE (cb K) rfl T.aW aS (FA.pa (aa (fv 7) (aa (dH (v := .ty "tuple") rfl T.vm qf rfl) ad)))))) (lq (b8 (b_ (ao G__law_whole (hr.mono (by decide)) rfl T.iN T.dw.kp b__law_whole .nil aC (FA.pa (aa (aX (aD K) (fv 7) ac (fun _ _ => rfl)) ad)))))))) (ak (aG fW)) aV)))
   (af (dv (fM K Zi Zk Zl d4 (fv 6) (FA.pa (aa (dQ (FA.pa (aa (aq [109, 111, 114, 101]) (aa ac ad)))) ad))))
   (af (dv (fM K Zi Zk Zl d4 (aA (Zs HU) (fv 0) (aq [104, 101, 108, 100]) (fun _ _ => rfl)) (FA.pa (aa (cw (FA.pa (aa (fv 6) (aa (ah xH (fv 3) (cw (FA.pa (aa (dQ (FA.pa (aa (aq [109, 111, 114, 101]) (aa ac ad)))) ad)))) ad)))) ad))))
   (ak (aG (dF (bV K HU) (ao G_over (hr.mono (by decide)) rfl T.Cs T.vj.kp b_over .nil aC (FA.pa (aa (aA (Zs HU) (fv 0) (aq [98, 117, 100, 103, 101, 116, 115]) (fun _ _ => rfl)) (aa (aX (aD K) (aA (Zs HU) (fv 0) (aq [106, 111, 117, 114, 110, 97, 108, 115]) (fun _ _ => rfl)) (fv 1) (fun _ _ => rfl)) (aa (fv 2) ad))))) (fv 3) (a_ _))))))))), fun G dq vs es x4 x5 s nG fd gd tp ee => ?_⟩
  have M1 := M.same s
  have Y1 := Y.same s
  walk_at "rd"
  refine ⟨_, _, rfl, M1.gBudgets, _, _, rfl, M1.gJours, ?_⟩
  walk_at "rd"
  refine ⟨_, _, .inl (SqL.of M1.jl), Y1.j, nG, m.d, m.os, _, _, _, _, M1.bu, pl, by omega, Y1.at_.jb, fun ls po io D vs2 G2 fD s2 n2 gD mk2 => ?_⟩
  have tp2 := MkA.tp mk2
  rw [<- ee ls po io] at tp2
  rw [show bJ G2 (V.ref D) = some "list" by simp [bJ, gD]]
  have fl : ∀ e ∈ es, e.all da = true := fun e he => by
   rw [ee ls po io] at he
   obtain ⟨z, _, rfl⟩ := rf.mp he
   rfl
  have gd2 := s2 _ _ gd
  refine itn (by decide) ⟨true, xZ gD gd2 tp2 (TpAt.same tp s2) fl, itn (by decide) (mQ ?_)⟩
  walk_at "rd"
  refine jP (SqL.of gD) (nk (xs := vs2) (fun i σ' G' => G' = G2 /\ ∃ x7, σ' = [some (.ref m.md), some (.int ia), some (.int mo), some (.ref dq), x4, x5, some (.ref D), x7]) ⟨rfl, none, rfl⟩ (fun i σ' H' _ h => by rw [h.1]; exact SqL.of gD) ?_ ?_)
  ·rintro i x σ' G' hx ⟨rfl, x7, rfl⟩
   obtain ⟨e, he, q, rfl, eq⟩ := tp2.at_ hx
   have he := tM he
   rw [ee ls po io] at he
   obtain ⟨z, _, rfl⟩ := rf.mp he
   walk_at "rd"
   rw [show bJ G' (V.ref q) = some "tuple" by simp [bJ, eq]]
   exact itn (by decide) ⟨_, _, .inr (SqT.of eq), a9 (j := 1) rfl, n2, asK.of rfl (itn (by intro z; cases z) ⟨_, rfl⟩)⟩
  rintro σ' G' ⟨rfl, x7, rfl⟩
  have le : es.length <= 7 := by
   rw [ee ls po io, zc]
   refine qM (Z6 _ _) ?_
   unfold ovL
   rw [zc, po.length_eq, zc]; exact ol
  have lv := tp.len
  have lv2 := tp2.len
  walk_at "rd"
  refine ⟨.inl ⟨_, SqL.of gD⟩, by omega, fun p fp => ⟨D, vs2, .ref p, rfl, rfl, (ar (ai gD fp)).trans gD, by omega, ?_⟩⟩
  have t4 := yJ (e := [L2.T [109, 111, 114, 101], V.int 1]) fp gD tp2
  have S4 : Same G (upd (upd G' p (HO.tup [L2.T [109, 111, 114, 101], V.int 1])) D (HO.lst (vs2 ++ [V.ref p]))) := cI (s2.trans (az _ fp)) fD
  have g4 : upd (upd G' p (HO.tup [L2.T [109, 111, 114, 101], V.int 1])) D (HO.lst (vs2 ++ [V.ref p])) D = _ := aj
  have N4 : NoT (upd (upd G' p (HO.tup [L2.T [109, 111, 114, 101], V.int 1])) D (HO.lst (vs2 ++ [V.ref p]))) := aJ (aJ n2 rfl) rfl
  generalize upd (upd G' p (HO.tup [L2.T [109, 111, 114, 101], V.int 1])) D (HO.lst (vs2 ++ [V.ref p])) = G4 at t4 S4 g4 N4 |-
  have M4 := M1.same S4
  have hh4 := S4 _ _ (s _ _ hh)
  have gd4 := S4 _ _ gd
  have fD0 := s.free fD
  refine ⟨_, _, rfl, M4.gHeld, (show tyV K "list" (V.ref m.hq) G4 from Or.inl ⟨rfl, _, SqL.of hh4⟩), by omega, fun p1 f1 => ?_⟩
  obtain ⟨G5, e5, s5, g5, N5⟩ := bq (o := HO.tup [L2.T [109, 111, 114, 101], V.int 1]) f1 N4 rfl
  rw [e5]
  refine ⟨by omega, fun p2 f2 => ?_⟩
  obtain ⟨G6, e6, s6, g6, N6⟩ := bq (o := HO.lst [V.ref p1]) f2 N5 rfl
  rw [e6]
  refine ⟨vs, [V.ref p1], s6 _ _ (s5 _ _ gd4), g6, by rw [t8]; omega, fun p3 f3 => ?_⟩
  obtain ⟨G7, e7, s7, g7, N7⟩ := bq (o := HO.lst (vs ++ [V.ref p1])) f3 N6 rfl
  rw [e7]
  refine ⟨by omega, fun p4 f4 => ?_⟩
  obtain ⟨G8, e8, s8, g8, N8⟩ := bq (o := HO.lst [V.ref D, V.ref p3]) f4 N7 rfl
  rw [e8]
  have s46 := s5.trans s6
  have s47 := s46.trans s7
  have s48 := s47.trans s8
  have h4 := s.trans S4
  have h8 := h4.trans s48
  refine ⟨m.hq, m.hs, .ref p4, rfl, rfl, h8 _ _ hh, by omega, ?_⟩
  have k9 : Keep [m.hq] G8 (upd G8 m.hq (.lst (m.hs ++ [.ref p4]))) := Keep.refl.put (.head _)
  have g9 : upd G8 m.hq (.lst (m.hs ++ [.ref p4])) m.hq = _ := aj
  have N9 : NoT (upd G8 m.hq (.lst (m.hs ++ [.ref p4]))) := aJ N8 rfl
  generalize upd G8 m.hq (.lst (m.hs ++ [.ref p4])) = G9 at k9 g9 N9 |-
  have LW9 : LW [m.hq] G8 := LW.one (h8 _ _ hh)
  have K9 : Keep [m.hq] H G9 := (Keep.same h8).trans k9
  have nw : ∀ {x}, H x = none -> x ∉ [m.hq] := fun h => n1 (Ne.symm (ai hh h))
  have M9 := M.held AP hh K9
  have y9 : SdAt a.av G9 y := by
   rcases hy with rfl | rfl
   ·exact M9.s
   ·exact M9.t
  have tp9 : A2 (TpAt G9) vs es := TpAt.kp (TpAt.same tp (S4.trans s48)) k9 LW9
  have gd9 : G9 dq = some (.lst vs) := k9 _ _ (s48 _ _ gd4) (nw fd)
  have f3' : H p3 = none := h4.free (s46.free f3)
  have f4' : H p4 = none := h4.free (s47.free f4)
  have hn : HdN H G9 (.ref p4) := by
   refine ⟨p4, D, p3, _, _, es ++ [[L2.T [109, 111, 114, 101], V.int 1]], rfl, ⟨f4', fD0, f3'⟩, k9 _ _ g8 (nw f4'), k9 _ _ (s48 _ _ g4) (nw fD0), k9 _ _ (s8 _ _ g7) (nw f3'), TpAt.kp (TpAt.same t4 s48) k9 LW9, tp9.snoc ⟨p1, rfl, k9 _ _ (s8 _ _ (s7 _ _ (s6 _ _ g5))) (nw (h4.free f1))⟩, fun e he => ?_⟩
   rcases tD.mp he with h | h
   ·exact fl e h
   ·rw [zr.mp h]; rfl
  refine ⟨_, _, rfl, M9.gBudgets, _, _, rfl, M9.gJours, ?_⟩
  walk_at "rd"
  refine ⟨_, _, .inl (SqL.of M9.jl), Y1.j, N9, m.d, m.os, _, _, _, _, M9.bu, pl, by omega, y9.jb, fun ls2 po2 io2 D2 vs3 G10 fD2 s10 n10 gD2 mk3 => ?_⟩
  have tp3 := MkA.tp mk3
  rw [<- ee ls2 po2 io2] at tp3
  exact ⟨true, xZ gD2 (s10 _ _ gd9) tp3 (TpAt.same tp9 s10) fl, k _ _ (s10 _ _ g9) (K9.trans (Keep.same s10)) n10 (hn.same s10)⟩
 obtain ⟨u2, hu2, c2⟩ := c2
 refine ⟨_, (af (aK (i := 3) ND rfl (Or.inl rfl) (cw (FA.pa ad)))
  (af (eh (by passes_own) rfl (bQ K (aE (v_ rfl) rfl T.qN oJ (FA.pa (aa (aA (Zs HU) (fv 0) (aq [116, 101, 114, 109, 115]) (fun _ _ => rfl)) ad)))) (aI (i := 4) ND rfl (Or.inl rfl)) (ak (bz (bE fw (aX (aD K) (aA (Zs HU) (aA (Zs HU) (fv 0) (aq [116, 101, 114, 109, 115]) (fun _ _ => rfl)) (fv 4) (fun _ _ => rfl)) ac (fun _ _ => rfl)) (fv 2) (a_ _)) (af (aK (i := 5) ND rfl (Or.inl rfl) (ah cE (bY (aA (Zs HU) (fv 0) (aq [98, 117, 100, 103, 101, 116, 115]) (fun _ _ => rfl)) T.aY T.aZ G_Budgets_planned_by (hr.mono (by decide)) b_Budgets_planned_by .nil aC (FA.pa (aa (fv 4) (aa (fv 2) ad)))) (ao G__law_due (hr.mono (by decide)) rfl T.qh T.gf.kp b__law_due .nil aC (FA.pa (aa (fv 0) (aa (fv 1) (aa (fv 4) (aa (fv 2) ad))))))))
  (ak (bz (bE wH (fv 5) ac (a_ _)) (ak (dv (fM K Zi Zk Zl d4 (fv 3) (FA.pa (aa (dQ (FA.pa (aa (fv 4) (aa (zG ur (fv 5)) ad)))) ad))))) aV))) aV)))
  hu2)), ?_⟩
 walk_at "rd"
 refine ⟨o3 _, fun dq fd => mQ ?_⟩
 obtain ⟨H1, ee, s1, g1, N1⟩ := bq (o := HO.lst []) fd hN rfl
 rw [ee]
 walk_at "rd"
 refine ⟨_, _, rfl, (M.same s1).gTerms, ?_⟩
 walk_at "rd"
 refine ⟨_, m.os.map (·.nm), s1 _ _ hd, by rw [vD, vD]; rfl, by rw [zc]; omega, fun ls po io sq fs => ?_⟩
 obtain ⟨H2, ee, s2, g2, N2⟩ := bq (o := HO.lst (ls.map L2.T)) fs N1 rfl
 rw [ee]
 have s12 := s1.trans s2
 have ll : ls.length <= 7 := by rw [po.length_eq, zc]; exact ol
 have mem : ∀ l ∈ ls, ∃ c, fnd m.os l = some c := fun l hl => by
  obtain ⟨c, hc, rfl⟩ := rf.mp (po.mem_iff.mp hl)
  exact ⟨c, xI M.bu.np hc⟩
 have nsd : sq ≠ dq := Ne.symm (ai g1 fs)
 refine jP (SqL.of g2) (nk (xs := ls.map L2.T) (fun i σ' G => Same H G /\ NoT G /\ G sq = some (.lst (ls.map L2.T)) /\ ∃ vs x4 x5, G dq = some (.lst vs) /\ vs.length <= i /\ A2 (TpAt G) vs (((ovL y.B m.os mo (ls.take i)).filter ovN).map mkO) /\ σ' = [some (.ref m.md), some (.int ia), some (.int mo), some (.ref dq), x4, x5, none, none]) ⟨s12, N2, g2, [], none, none, s2 _ _ g1, zM _, .nil, rfl⟩ (fun i σ' G _ h => SqL.of h.2.2.1) ?_ ?_)
 ·rintro i x σ' G hx ⟨sG, nG, gs, vs, x4, x5, gd, lv, tp, rfl⟩
  rw [List.getElem?_map] at hx
  obtain ⟨l, el, rfl⟩ := Zb.mp hx
  have li := (List.getElem?_eq_some_iff.mp el).1
  obtain ⟨c, ec⟩ := mem l (tM el)
  have hc := (iI ec).1
  have M1 := M.same sG
  have Y1 := Y.same sG
  obtain ⟨dx, hp⟩ := M1.bu.ob
  have gt := M1.term l
  rw [ec] at gt
  have fV : gb m.os (L2.T l) = some c := ec
  have et : ovL y.B m.os mo (ls.take (i + 1)) = ovL y.B m.os mo (ls.take i) ++ [(l, plB c mo - dnB y.B c mo)] := by
   unfold ovL
   rw [ZQ, el, sY]
   simp [ec]
  have no : ¬ plB c mo - dnB y.B c mo < 0 -> ((ovL y.B m.os mo (ls.take (i + 1))).filter ovN).map mkO = ((ovL y.B m.os mo (ls.take i)).filter ovN).map mkO := fun z => by
   rw [et, Ze, Zg (by unfold ovN; simpa using z), Yh, ZF]
  walk_at "rd"
  refine ⟨_, _, rfl, M1.gTerms, _, _, rfl, gt, _, _, .inr (SqT.of (M1.tt c hc)), a9 (j := 2) rfl, ?_⟩
  walk_at "rd"
  by_cases hm : c.f <= mo
  case neg =>
   refine itn hm ⟨sG, nG, gs, vs, _, _, gd, by omega, ?_, rfl, rfl⟩
   rw [no (by rw [yh (by omega), Hb (by omega)]; decide)]
   exact tp
  refine itp hm ⟨_, _, rfl, M1.gBudgets, ?_⟩
  walk_at "rd"
  refine ⟨_, _, hp, ip "planned_by" _, nG, m.d, m.os, M1.bu, ?_⟩
  rw [fV]
  refine ⟨nG, m, c, y, rfl, M1, Y1.at_, Y1.r, Y1.ln, Y1.pa, ec, ?_⟩
  by_cases hr : plB c mo - dnB y.B c mo < 0
  case neg =>
   refine itn hr ⟨sG, nG, gs, vs, _, _, gd, by omega, ?_, rfl, rfl⟩
   rw [no hr]
   exact tp
  refine itp hr ⟨.inl ⟨_, SqL.of gd⟩, by omega, fun p fp => ⟨_, _, _, rfl, rfl, (ar (ai gd fp)).trans gd, by omega, cI (sG.trans (az _ fp)) fd, aJ (aJ nG rfl) rfl, (ar nsd).trans ((az _ fp) _ _ gs), _, _, _, aj, by rw [wz, t8]; omega, ?_, rfl, rfl⟩⟩
  rw [et, Ze, Zh (by unfold ovN; exact decide_eq_true hr), Yh, sY]
  exact yJ fp gd tp
 ·rintro σ' G ⟨sG, nG, gs, vs, x4, x5, gd, lv, tp, rfl⟩
  rw [zc, ZT] at tp
  refine c2 G dq vs _ x4 x5 sG nG fd gd tp fun ls' po' io' => ?_
  rw [xk (po'.trans po.symm) io' io]
open K17 K3
theorem Yk.held {S O J : Addr} {H H' : Hp} {m : Md} {i : Int} {y : Sd} (Y : Yk J H m i y) (hy : y = m.s \/ y = m.t) (M : Ms S O J H' m) : Yk J H' m i y := by
 rcases hy with rfl | rfl
 ·exact ⟨M.s, Y.r, Y.j, Y.ln, Y.pa⟩
 ·exact ⟨M.t, Y.r, Y.j, Y.ln, Y.pa⟩
theorem HdN.mono {H H1 H2 : Hp} {v : V} (x : HdN H1 H2 v) (s : Same H H1) : HdN H H2 v := by
 obtain ⟨q, c, d, xs, ys, es, e, f, h⟩ := x
 exact ⟨q, c, d, xs, ys, es, e, ⟨s.free f.1, s.free f.2.1, s.free f.2.2⟩, h⟩
def sp_tD (S O J : Addr) : Sp := sp5 fun x i one oth tu H Q _ => NoT H /\ asR x fun md => asI i fun i => asR one fun o1 => asR oth fun o2 => asI tu fun tu => ∃ m y l1 l2, ∃ m1 m2 : Int, m.md = md /\ Ms S O J H m /\ Ap m /\ H m.tq = some (.dK (m.os.map (kyT m.la))) /\ Yk J H m i y /\ (y = m.s \/ y = m.t) /\ H m.hq = some (.lst m.hs) /\ m.hs.length <= 1000 /\ H o1 = some (.tup [L2.T l1, .int m1]) /\ H o2 = some (.tup [L2.T l2, .int m2]) /\
 ∀ H' v, H' m.hq = some (.lst (m.hs ++ [v])) -> Keep [m.hq] H H' -> NoT H' -> HdN H H' v -> Q (.bl true) H'
theorem qS (T : Txt K mg a) : bg P w K mg base (XE P w) 9 a.dE a.jv ["_law_made", "_law_at", "_law_one", "_law_other", "_law_turn"] (sp_tD a.au a.aw a.av) := by
 refine T.gW.okX jk (fun vs H Q E h => sp5.len h) (fun cdv A outer s H vs Q E hr h => ?_)
 obtain ⟨x0, x1, x2, x3, x4, rfl, h⟩ := sp5.inv h
 try dsimp only [sp_tD, sp5] at h
 have ND := jk.nd
 have HU := bj hr
 obtain ⟨hN, h1⟩ := h
 obtain ⟨md, rfl, h2⟩ := asR.inv h1
 obtain ⟨ia, rfl, h3⟩ := asI.inv h2
 obtain ⟨o1, rfl, h4⟩ := asR.inv h3
 obtain ⟨o2, rfl, h5⟩ := asR.inv h4
 obtain ⟨tu, rfl, m, y, l1, l2, m1, m2, em, M, AP, hd, Y, hy, hh, lh, g1, g2, k⟩ := asI.inv h5
 have em : m.md = md := em
 subst em
 have sz : 2000 <= sizeLine := by rw [ue]; decide
 have G__law_over := @nI P w K mg base a T
 have b__law_over := nD T.dt
 have G__law_told := @ng P w K mg base a T
 have b__law_told := nU T.d5
 have c2 : ∃ u, PSs (d7 (XE P w) P w K mg base ["_law_made", "_law_at", "_law_one", "_law_other", "_law_turn", "_law_k", "_law_query"] "_law_looked" (ae bp) a.dE cdv A outer s H E) (ZL 2 (ay bp)) u /\ ∀ G x5 x6, ((tu % 2 = 1 /\ Q (.bl true) G) \/ (¬ tu % 2 = 1 /\ Same H G /\ NoT G)) ->
  u { nx := fun _ H' => Q .non H', rt := Q } [some (.ref m.md), some (.int ia), some (.ref o1), some (.ref o2), some (.int tu), x5, x6] G := by
  refine ⟨_, (ak (aG (tY (dF (bV K HU) (ah aO (fv 4) ac) ac (a_ _)) (cV (ao G__law_over (hr.mono (by decide)) rfl T.gE T.dt.kp b__law_over .nil aC (FA.pa (aa (fv 0) (aa (fv 1) (aa (aX (aD K) (fv 2) ac (fun _ _ => rfl)) ad))))))))), fun G x5 x6 h => ?_⟩
  walk_at "rd"
  rcases h with ⟨ht, q⟩ | ⟨ht, sG, nG⟩
  ·exact itp ht q
  refine itn ht ⟨_, _, .inr (SqT.of (sG _ _ g1)), a9 (j := 1) rfl, ?_⟩
  have M1 := M.same sG
  walk_at "rd"
  exact ⟨nG, m, y, rfl, M1, AP, sG _ _ hd, Y.same sG, hy, sG _ _ hh, lh, fun H' v e kp n hn => k H' v e ((Keep.same sG).trans kp) n (hn.mono sG)⟩
 obtain ⟨u2, hu2, c2⟩ := c2
 have c1 : ∃ u, PSs (d7 (XE P w) P w K mg base ["_law_made", "_law_at", "_law_one", "_law_other", "_law_turn", "_law_k", "_law_query"] "_law_looked" (ae bp) a.dE cdv A outer s H E) (ZL 1 (ay bp)) u /\ ∀ G, Ms a.au a.aw a.av G m -> Yk a.av G m ia y -> NoT G -> G o1 = some (.tup [L2.T l1, .int m1]) -> G o2 = some (.tup [L2.T l2, .int m2]) -> (∀ G', Same G G' -> NoT G' -> (tu % 2 = 1 /\ Q (.bl true) G') \/ (¬ tu % 2 = 1 /\ Same H G' /\ NoT G')) ->
  u { nx := fun _ H' => Q .non H', rt := Q } [some (.ref m.md), some (.int ia), some (.ref o1), some (.ref o2), some (.int tu), none, none] G := by
  refine ⟨_, (af (eh (by passes_own) rfl (A9 K rfl T.pw (dQ (FA.pa (aa (fv 2) (aa (fv 3) (aa (fv 2) ad)))))) (iM K (n := 2) rfl (ba (aI (i := 5) ND rfl (Or.inl rfl)) (ba (aI (i := 6) ND rfl (Or.inl rfl)) gR))) (ak (bz (b8 (b_ (ao G__law_told (hr.mono (by decide)) rfl T.jA T.d5.kp b__law_told .nil aC (FA.pa (aa (fv 0) (aa (fv 1) (aa (aX (aD K) (fv 6) ac (fun _ _ => rfl)) (aa (aX (aD K) (fv 6) ac (fun _ _ => rfl)) (aa (ah aP (fv 4) (rz (FA.pa (aa ac (aa ac (aa ac ad)))) (fv 5) (fun _ _ => rfl))) ad))))))))) (ak (aG fW)) aV)))
   hu2), fun G MG YG nG e1 e2 kk => D6 ?_⟩
  walk_at "rd"
  refine ⟨by omega, fun p fp => ?_⟩
  obtain ⟨G1, ee, s1, gp, N1⟩ := bq (o := HO.tup [V.ref o1, V.ref o2, V.ref o1]) fp nG rfl
  rw [ee]
  refine ⟨⟨_, SqT.of gp⟩, Ei (xs := [V.ref o1, V.ref o2, V.ref o1]) (fun i σ' G' => Same G1 G' /\ NoT G' /\ ∃ x5 x6, σ' = [some (.ref m.md), some (.int ia), some (.ref o1), some (.ref o2), some (.int tu), x5, x6]) ⟨Same.refl _, N1, none, none, rfl⟩ (fun i σ' G' h => SqT.of (h.1 _ _ gp)) ?_ ?_⟩
  ·rintro i x σ' G' r hx fr ⟨sG, nG', x5, x6, rfl⟩
   obtain ⟨ll, lm, eo⟩ : ∃ ll, ∃ lm : Int, ∃ o, x = .ref o /\ G o = some (.tup [L2.T ll, .int lm]) := by
    rcases i with _ | _ | _ | i
    ·cases hx; exact ⟨_, _, _, rfl, e1⟩
    ·cases hx; exact ⟨_, _, _, rfl, e2⟩
    ·cases hx; exact ⟨_, _, _, rfl, e1⟩
    ·cases hx
   obtain ⟨o, rfl, eo⟩ := eo
   have i3 : i < 3 := (List.getElem?_eq_some_iff.mp hx).1
   obtain ⟨G2, ee, s2, gr, N2⟩ := bq (o := HO.tup [V.int i, V.ref o]) fr nG' rfl
   rw [ee]
   have sA := s1.trans (sG.trans s2)
   have eo2 := sA _ _ eo
   walk_at "rd"
   refine ⟨_, _, rfl, SqT.of gr, rfl, _, _, rfl, _, _, rfl, rfl, ?_⟩
   walk_at "rd"
   refine ⟨_, _, .inr (SqT.of eo2), a9 (j := 0) rfl, _, _, .inr (SqT.of eo2), a9 (j := 1) rfl, N2, by omega, fun p3 f3 => ug (ns := [2, 12, 72]) (by omega) (by show _ < (3 : Int); omega) ?_⟩
   walk_at "rd"
   have cd : DX tu (([2, 12, 72] : List Int).getD (Z1 (i : Int)) 0) := by
    have : i = 0 \/ i = 1 \/ i = 2 := by omega
    rcases this with rfl | rfl | rfl <;> exact ⟨by decide, by decide⟩
   exact ⟨cd, N2, m, y, rfl, MG.same sA, YG.same sA, fun H' s' n' => ⟨sG.trans (s2.trans s'), n', _, _, rfl, rfl⟩⟩
  ·rintro σ' G' ⟨sG, nG', x5, x6, rfl⟩
   exact c2 _ _ _ (kk _ (s1.trans sG) nG')
 obtain ⟨u1, hu1, c1⟩ := c1
 refine ⟨_, (af (bz (L2.PW.pt (rT (bE (bV K HU) (ah aO (fv 4) ac) ac (a_ _)) (pW (b8 (b_ (ao G__law_over (hr.mono (by decide)) rfl T.gE T.dt.kp b__law_over .nil aC (FA.pa (aa (fv 0) (aa (fv 1) (aa (aX (aD K) (fv 2) ac (fun _ _ => rfl)) ad)))))))))) (ak (aG fW)) aV)
  hu1), ?_⟩
 walk_at "rd"
 by_cases ht : tu % 2 = 1
 ·refine itp ht ⟨_, _, .inr (SqT.of g1), a9 (j := 1) rfl, ?_⟩
  walk_at "rd"
  refine ⟨hN, m, y, rfl, M, AP, hd, Y, hy, hh, lh, fun H' v e kp n hn => ?_⟩
  have M1 := M.held AP hh kp
  exact c1 H' M1 (Y.held hy M1) n (kp _ _ g1 (LW.no (LW.one hh) g1)) (kp _ _ g2 (LW.no (LW.one hh) g2)) fun G' s n' => .inl ⟨ht, k G' v (s _ _ e) (kp.trans (Keep.same s)) n' (hn.same s)⟩
 ·exact itn ht (c1 H M Y hN g1 g2 fun G' s n => .inr ⟨ht, s, n⟩)
open K17 K3
structure Nm (H : Hp) (m : Md) : Prop where
 nq : H m.nq = some (.lst (m.nms.map L2.T))
 nl : m.nms.length = 7
 nd : m.nms.Nodup
 nn : ∀ l ∈ m.nms, nm l = true
 pq : H m.pq = some (.lst (m.ps.map L2.T))
 pl : 2 <= m.ps.length /\ m.ps.length <= 10
 pk : ∀ l ∈ m.ps, POk l
 cq : H m.cq = some (.lst (m.cu.map L2.T))
 cl : m.cu.length = 3
 ck : ∀ l ∈ m.cu, cur l = true
 bs : 0 <= m.base /\ m.base <= 4792
 hh : H m.hq = some (.lst m.hs)
 td : H m.tq = some (.dK (m.os.map (kyT m.la)))
 ni : ∀ o ∈ m.os, o.nm ∈ m.nms
def Md.more (m : Md) (b : Bd) (q : Addr) : Md := { m with os := m.os ++ [b], la := fun l => if l = b.nm then q else m.la l }
theorem BD {m : Md} {b : Bd} {q : Addr} (h : fnd m.os b.nm = none) : eX (m.os.map (kyT m.la)) (.inr ⟨⟨b.nm⟩⟩) (.ref q) = (m.more b q).os.map (kyT (m.more b q).la) := by
 rw [wu _ (by rw [rg, h]; rfl)]
 show _ = (m.os ++ [b]).map _
 rw [sY]
 congr 1
 ·refine Zr fun o ho => ?_
  show (_, V.ref (m.la o.nm)) = (_, V.ref (if o.nm = b.nm then q else m.la o.nm))
  rw [if_neg (nN h o ho)]
 ·show _ = [(_, V.ref (if b.nm = b.nm then q else m.la b.nm))]
  rw [if_pos rfl]
theorem Ms.put {S O J : Addr} {H H' : Hp} {m : Md} (M : Ms S O J H m) (AP : Ap m) (N : Nm H m) {b : Bd} {q : Addr} (sa : SAt S O H' m.p m.d (m.os ++ [b])) (k : Keep [m.d, m.tq] H H') (g : H' q = some (.tup [L2.T b.pt, L2.T b.cu, .int b.f, .int b.l, .int b.t])) (gt : H' m.tq = some (.dK ((m.more b q).os.map (kyT (m.more b q).la))))
 (hf : fnd m.os b.nm = none) (ok : OOk b) (ln : m.os.length <= 6) (fp : H b.pa = none) (hb : b.nm ∈ m.nms) : Ms S O J H' (m.more b q) /\ Ap (m.more b q) /\ Nm H' (m.more b q) := by
 have t : LW [m.d, m.tq] H := fun y hy => by
  rcases ze.mp hy with rfl | hy
  ·exact ⟨_, M.bu.dc, fun _ z => nomatch z⟩
  ·rw [zr.mp hy]; exact ⟨_, N.td, fun _ z => nomatch z⟩
 have no : ∀ {y : Addr} {o : HO}, H y = some o -> (∀ l, o ≠ .dK l) -> y ∉ [m.d, m.tq] := fun e n z => by
  rcases ze.mp z with rfl | z
  ·exact cW e M.bu.dc (n _) rfl
  ·exact cW e N.td (n _) (zr.mp z)
 have dd := AP.dd
 have tt := AP.tt
 simp only [ze, yU, or_false, not_or] at dd tt
 obtain ⟨dj, ej⟩ := M.s.jb.at_.ob
 obtain ⟨dk, ek⟩ := M.t.jb.at_.ob
 have no2 : ∀ {y : Addr}, y ≠ m.d -> y ≠ m.tq -> y ∉ [m.d, m.tq] := fun h1 h2 z => by
  rcases ze.mp z with z | z
  ·exact h1 z
  ·exact h2 (zr.mp z)
 refine ⟨⟨?_, sa, .inl gt, fun o ho => ?_, fun o ho => ?_, ?_, k _ _ M.rl (no M.rl (by intro _ z; cases z)), k _ _ M.jl (no M.jl (by intro _ z; cases z)), M.s.kp k t ⟨no M.s.r (by intro _ z; cases z), no ej (by intro _ z; cases z), no M.s.jb.at_.ls (by intro _ z; cases z), no2 (Ne.symm dd.2.2.1) (Ne.symm tt.2.2.1)⟩, M.t.kp k t ⟨no M.t.r (by intro _ z; cases z), no ek (by intro _ z; cases z), no M.t.jb.at_.ls (by intro _ z; cases z), no2 (Ne.symm dd.2.2.2) (Ne.symm tt.2.2.2)⟩⟩, ⟨AP.dd, AP.tt, AP.mu, fun x hx => ⟨(AP.im x hx).1, fun o ho => ?_⟩⟩, ⟨k _ _ N.nq (no N.nq (by intro _ z; cases z)), N.nl, N.nd, N.nn, k _ _ N.pq (no N.pq (by intro _ z; cases z)), N.pl, N.pk, k _ _ N.cq (no N.cq (by intro _ z; cases z)), N.cl, N.ck, N.bs, k _ _ N.hh (no N.hh (by intro _ z; cases z)), gt, fun o ho => ?_⟩⟩
 ·obtain ⟨kvs, e, h⟩ := M.kv
  exact ⟨kvs, k _ _ e (no2 (Ne.symm dd.1) (Ne.symm tt.1)), h⟩
 ·rcases tD.mp ho with h | h
  ·have e : (m.more b q).la o.nm = m.la o.nm := if_neg (nN hf o h)
   rw [e]
   exact k _ _ (M.tt o h) (t.no (M.tt o h))
  ·rw [zr.mp h]
   have e : (m.more b q).la b.nm = q := if_pos rfl
   rw [e]; exact g
 ·rcases tD.mp ho with h | h
  ·exact M.ok o h
  ·rw [zr.mp h]; exact ok
 ·show (m.os ++ [b]).length <= 7
  rw [wz, t8]; omega
 ·rcases tD.mp ho with h | h
  ·exact (AP.im x hx).2 o h
  ·rw [zr.mp h]
   rintro rfl
   simp only [ze, yU, or_false] at hx
   rcases hx with e | e | e | e <;> rw [e] at fp
   ·have z : H m.rq = none := fp
    rw [M.rl] at z; cases z
   ·have z : H m.hq = none := fp
    rw [N.hh] at z; cases z
   ·have z : H m.s.b = none := fp
    rw [M.s.jb.at_.ls] at z; cases z
   ·have z : H m.t.b = none := fp
    rw [M.t.jb.at_.ls] at z; cases z
 ·rcases tD.mp ho with h | h
  ·exact N.ni o h
  ·rw [zr.mp h]; exact hb
theorem Nm.same {H H' : Hp} {m : Md} (x : Nm H m) (s : Same H H') : Nm H' m := ⟨s _ _ x.nq, x.nl, x.nd, x.nn, s _ _ x.pq, x.pl, x.pk, s _ _ x.cq, x.cl, x.ck, x.bs, s _ _ x.hh, s _ _ x.td, x.ni⟩
theorem POk.okP {l : List Nat} (h : POk l) : okP (L2.T l) := fun l' e => by
 cases e
 exact ⟨h.lo, by have := h.len; omega⟩
theorem du8 {H : Hp} {os : List Bd} {l pt cu : List Nat} {f la t : Int} {q : Addr} {ws : List Int} (hn : nm l = true) (hp : POk pt) (hc : cur cu = true) (h0 : 0 <= f) (h1 : f <= la) (h2 : la <= 4799) (h3 : la < f + 60) (ht : -1000000000000000 <= t /\ t <= 1000000000000000) (hq : H q = some (.lst (ws.map V.int))) (hw : (∀ w ∈ ws, 0 <= w /\ w <= 1000000000) /\ 1 <= ws.length /\ ws.length <= 60 /\ 0 < ws.sum) (hl : (ws.length : Int) = la - f + 1) (hf : fnd os l = none) :
 duB H os ⟨L2.T l, L2.T pt, L2.T cu, .int f, .int la, .int t, .ref q⟩ = 8 := by
 have a1 : nameV (L2.T l) = true := hn
 have a2 : t6 (L2.T pt) = true := hp.pn
 have a3 : zY (L2.T cu) = true := hc
 have a4 : mns (.int f) (.int la) = true := by
  show ((decide (0 <= f) && decide (f <= 4799)) && (decide (0 <= la) && decide (la <= 4799)) && (decide (f <= la) && decide (la < f + 60))) = true
  simp only [sW, decide_eq_true_eq]
  omega
 have a5 : amg (.int t) (-1000000000000000) 1000000000000000 = true := by
  show (decide _ && decide _) = true
  rw [decide_eq_true ht.1, decide_eq_true ht.2]; rfl
 have a6 : shV H ⟨L2.T l, L2.T pt, L2.T cu, .int f, .int la, .int t, .ref q⟩ = true := by
  unfold shV
  dsimp only
  rw [EM hq]
  show (wOk (ws.map V.int) && decide (((ws.map V.int).length : Int) = la - f + 1)) = true
  rw [zc, decide_eq_true hl, Bool.and_true]
  unfold wOk
  rw [u0, zc, decide_eq_true hw.2.1, decide_eq_true hw.2.2.1, decide_eq_true hw.2.2.2, List.all_map, Zo.mpr fun w hm => by show (decide _ && decide _) = true; rw [decide_eq_true (hw.1 w hm).1, decide_eq_true (hw.1 w hm).2]; rfl]
  rfl
 have a7 : (gb os (L2.T l)).isSome = false := by
  show (fnd os l).isSome = false
  rw [hf]; rfl
 unfold duB
 rw [if_pos a1, if_pos a2, if_pos a3, if_pos a4, if_pos a5, if_pos a6, a7]; rfl
theorem tok {H : Hp} {l pt cu : List Nat} {f la t : Int} {q : Addr} {ws : List Int} (hn : ok l) (hp : POk pt) (hc : ok cu) (hq : H q = some (.lst (ws.map V.int))) (hw : ws.length <= 60) : TOk H ⟨L2.T l, L2.T pt, L2.T cu, .int f, .int la, .int t, .ref q⟩ :=
 ⟨⟨fun _ e => by cases e; exact hn, _, rfl⟩, ⟨hp.okP, _, rfl⟩, ⟨fun _ e => by cases e; exact hc, _, rfl⟩, ⟨_, rfl⟩, ⟨_, rfl⟩, ⟨_, rfl⟩, .inl ⟨q, _, rfl, hq, by rw [zc]; omega, fun y hy => by
  obtain ⟨i, _, rfl⟩ := rf.mp hy
  exact ⟨_, rfl⟩⟩⟩
theorem Dz {ws : List Int} (h : ∀ w ∈ ws, 0 <= w) {x : Int} (hx : x ∈ ws) (h0 : 0 < x) : 0 < ws.sum := by
 induction ws with
 | nil => cases hx
 | cons y ws ih =>
  rw [Zn]
  have hy := h y (.head _)
  have hr : 0 <= ws.sum := by
   clear ih hx
   induction ws with
   | nil => exact Yy _
   | cons z ws ih2 =>
    rw [Zn]
    have := h z (.tail _ (.head _))
    have := ih2 fun w hw => h w (by rcases ze.mp hw with rfl | hw; exact .head _; exact .tail _ (.tail _ hw))
    omega
  rcases ze.mp hx with rfl | hx
  ·omega
  ·have := ih (fun w hw => h w (.tail _ hw)) hx
   omega
theorem GG {S O J : Addr} {G H' : Hp} {m : Md} {b : Bd} {l pt cu : List Nat} {f la t : Int} {q p1 : Addr} (M : Ms S O J G m) (AP : Ap m) (N : Nm G m) (ml : l ∈ m.nms) (hf : fnd m.os l = none) (ol : m.os.length <= 6) (hp : POk pt) (h1 : f <= la) (bo : BOf G ⟨L2.T l, L2.T pt, L2.T cu, .int f, .int la, .int t, .ref q⟩ b) (fp : G b.pa = none) (sa : SAt S O H' m.p m.d (m.os ++ [b])) (kp : Keep [m.d] G H') (nT : NoT H') (f1 : H' p1 = none) :
 ∃ H4, DGet (upd H' p1 (.tup [L2.T pt, L2.T cu, .int f, .int la, .int t])) m.md (L2.T bL) (some (.ref m.tq)) /\ DPut (upd H' p1 (.tup [L2.T pt, L2.T cu, .int f, .int la, .int t])) m.tq (L2.T l) (.ref p1) H4 /\ Ms S O J H4 (m.more b p1) /\ Ap (m.more b p1) /\ Nm H4 (m.more b p1) /\ NoT H4 /\ Keep [m.d, m.tq] G H4 /\ b.nm = l := by
 obtain ⟨nm', ob, ag, wt, pa, pt', cu', f', l', t', ws'⟩ := b
 obtain ⟨e1, e2, e3, e4, e5, e6, e7, hok, hln, hfl, htt⟩ := bo
 dsimp only at e1 e2 e3 e4 e5 e6 e7 hok hln hfl htt fp sa |-
 cases e1; cases e2; cases e3; cases e4; cases e5; cases e6
 have sz := szl
 have dd := AP.dd
 have tt := AP.tt
 simp only [ze, yU, or_false, not_or] at dd tt
 obtain ⟨H1, ee, s1, g1, N1⟩ := bq (o := HO.tup [L2.T pt, L2.T cu, .int f, .int la, .int t]) f1 nT rfl
 rw [ee]
 have td' := kp _ _ N.td (n1 tt.2.1)
 have td := s1 _ _ td'
 have npq : p1 ≠ m.tq := Ne.symm (ai td' f1)
 have em := BD (m := m) (b := ⟨l, ob, ag, wt, pa, pt, cu, f, la, t, ws'⟩) (q := p1) hf
 have kq : Keep [m.tq] H' (upd H1 m.tq (.dK (eX (m.os.map (kyT m.la)) (.inr ⟨⟨l⟩⟩) (.ref p1)))) := (Keep.same s1).put (.head _)
 have no : ∀ {y : Addr} {o : HO}, H' y = some o -> (∀ l, o ≠ .dK l) -> y ∉ [m.tq] := fun e n => n1 (cW e td' (n _))
 obtain ⟨dx, eo⟩ := sa.ob
 have sa4 := sa.keep kq (no eo (by intro _ z; cases z)) (n1 (Ne.symm tt.2.1)) fun o ho => by
  have A := sa.od o ho
  obtain ⟨dz, ez⟩ := A.ob
  exact ⟨no ez (by intro _ z; cases z), no A.ag.ag (by intro _ z; cases z), no A.ag.wt (by intro _ z; cases z), no A.pa (by intro _ z; cases z)⟩
 have k4 : Keep [m.d, m.tq] G (upd H1 m.tq (.dK (eX (m.os.map (kyT m.la)) (.inr ⟨⟨l⟩⟩) (.ref p1)))) := (kp.mono fun c hc => by rw [zr.mp hc]; exact .head _).trans (kq.mono fun c hc => by rw [zr.mp hc]; exact .tail _ (.head _))
 obtain ⟨kvs, ev, g⟩ := M.kv
 have ev1 := s1 _ _ (kp _ _ ev (n1 (Ne.symm dd.1)))
 obtain ⟨a1, a2, a3⟩ := M.put AP N sa4 k4 ((ar npq).trans g1) (aj.trans (by rw [em])) hf ⟨by have := hp.len; show pt.length <= 200; omega, ⟨hok.2.2.1, hok.2.2.2⟩, hln, ⟨hfl.1, h1, hfl.2⟩⟩ ol fp ml
 exact ⟨_, .inl ⟨_, .inr ⟨⟨bL⟩⟩, .inl ev1, rfl, (g (bL, .ref m.tq) (.tail _ (.tail _ (.head _)))).symm⟩, DPut.k (k := .inr ⟨⟨l⟩⟩) td (by rw [zc]; omega), a1, a2, a3, aJ N1 rfl, k4, rfl⟩
open K17 K3
def Gv : Stmt -> List Stmt
 | .For _ _ b _ _ => b
 | _ => []
noncomputable abbrev wf : List Stmt := Gv ((ay a8).getD 0 (.Pass ⟨0, 0, 0, 0⟩))
structure BI (S O J : Addr) (H G : Hp) (m : Md) (os : List Bd) (la : List Nat -> Addr) : Prop where
 nT : NoT G
 kp : Keep [m.d, m.tq] H G
 ms : Ms S O J G { m with os := os, la := la }
 ap : Ap { m with os := os, la := la }
 nm : Nm G { m with os := os, la := la }
theorem BI.same {S O J : Addr} {H G G' : Hp} {m : Md} {os : List Bd} {la : List Nat -> Addr} (x : BI S O J H G m os la) (s : Same G G') (n : NoT G') : BI S O J H G' m os la := ⟨n, x.kp.trans (Keep.same s), x.ms.same s, x.ap, x.nm.same s⟩
abbrev sgB (p md : Addr) (x2 x3 x4 x5 x6 x7 x8 x9 x10 : Option V) : L2.St := [some (.ref p), some (.ref md), x2, x3, x4, x5, x6, x7, x8, x9, x10]
theorem Ev {l : List Nat} (h : nm l = true) : ok l := by
 unfold nm lie at h
 simp only [sW, decide_eq_true_eq, Zo] at h
 exact ⟨fun c hc => by have := h.2 c hc; omega, by omega⟩
theorem Bm {l : List Nat} (h : cur l = true) : ok l := by
 unfold cur lie at h
 simp only [sW, decide_eq_true_eq, Zo] at h
 exact ⟨fun c hc => by have := h.2 c hc; omega, by omega⟩
def sp_o3 (K : W.Frag) (S O J : Addr) : Sp := sp2 fun x y H Q _ => NoT H /\ asR x fun p => asR y fun md => ∃ (ns : List Int) (m : Md), m.md = md /\ (∀ H', Keep [m.d, m.tq] H H' -> SqL K H' p (ns.map V.int)) /\ Ms S O J H m /\ Ap m /\ Nm H m /\ m.os = [] /\
 ∀ H' os la, Ms S O J H' { m with os := os, la := la } -> Ap { m with os := os, la := la } -> Nm H' { m with os := os, la := la } -> os.length <= 5 -> Keep [m.d, m.tq] H H' -> NoT H' -> Q .non H'
theorem pD (T : Txt K mg a) : bg P w K mg base (XE P w) 8 a.bK a.i4 ["_law_script", "_law_made"] (sp_o3 K a.au a.aw a.av) := by
 refine T.fY.okX iV (fun vs H Q E h => sp2.len h) (fun cdv A outer s H vs Q E hr h => ?_)
 obtain ⟨x0, x1, rfl, h⟩ := sp2.inv h
 try dsimp only [sp_o3, sp2] at h
 have ND := iV.nd
 obtain ⟨hN, h1⟩ := h
 obtain ⟨p, rfl, h2⟩ := asR.inv h1
 obtain ⟨md, rfl, ns, m, em, hSS, M, AP, N, eo, k⟩ := asR.inv h2
 have hS := hSS H Keep.refl
 have em : m.md = md := em
 subst em
 have sz : 2000 <= sizeLine := by rw [ue]; decide
 have G__law_cell_at := @dG P w K mg base a T
 have b__law_cell_at := dJ T.aU
 have G_Budgets_put := @jO P w K mg base a T
 have b_Budgets_put := jC T.gY
 have G__law_mixed := @eR P w K mg base a T
 have b__law_mixed := eT T.aQ
 have HU := bj hr
 have b10 : ∃ u, PSs (d7 (XE P w) P w K mg base ["_law_script", "_law_made", "_law_k", "_law_cell", "_law_name", "_law_many", "_law_first_here", "_law_total", "_law_weights", "_law_path", "_law_currency"] "_law_budgets" (ae a8) a.bK cdv A outer s H E) (ZL 10 wf) u /\ ∀ (D : fI) os la l pt cu (f many t : Int) q8 (ws : List Int) x2 x3 G, BI a.au a.aw a.av H G m os la -> os.length <= 5 -> l ∈ m.nms -> fnd os l = none -> POk pt -> cur cu = true -> (0 <= f /\ 1 <= many /\ many <= 5 /\ f + many - 1 <= 4799) -> (-1000000000000000 <= t /\ t <= 1000000000000000) -> G q8 = some (.lst (ws.map V.int)) -> ((∀ w ∈ ws, 0 <= w /\ w <= 1000000000) /\ 1 <= ws.length /\ ws.length <= 60 /\ 0 < ws.sum) -> (ws.length : Int) = many ->
  (∀ G' b la', BI a.au a.aw a.av H G' m (os ++ [b]) la' -> b.nm = l -> D.nx (sgB p m.md x2 x3 (some (L2.T l)) (some (.int many)) (some (.int f)) (some (.int t)) (some (.ref q8)) (some (L2.T pt)) (some (L2.T cu))) G') ->
  u D (sgB p m.md x2 x3 (some (L2.T l)) (some (.int many)) (some (.int f)) (some (.int t)) (some (.ref q8)) (some (L2.T pt)) (some (L2.T cu))) G := by
  refine ⟨_, (af (dv (bY (aA (Zs HU) (fv 1) (aq [98, 117, 100, 103, 101, 116, 115]) (fun _ _ => rfl)) T.aY T.ja G_Budgets_put (hr.mono (by decide)) b_Budgets_put .nil aC (FA.pa (aa (fv 4) (aa (fv 9) (aa (fv 10) (aa (fv 6) (aa (ah cE (ah aH (fv 6) (fv 5)) ac) (aa (fv 7) (aa (fv 8) ad))))))))))
   (ak (eW (Zs HU) (aA (Zs HU) (fv 1) (aq [116, 101, 114, 109, 115]) (fun _ _ => rfl)) (fv 4) (dQ (FA.pa (aa (fv 9) (aa (fv 10) (aa (fv 6) (aa (ah cE (ah aH (fv 6) (fv 5)) ac) (aa (fv 7) ad))))))) rfl))), fun D os la l pt cu f many t q8 ws x2 x3 G B lo ml hf hp hc hm ht hq hw hl kk => ?_⟩
  have MB := B.ms
  obtain ⟨dx, hpb⟩ := MB.bu.ob
  walk_at "rd"
  refine ⟨_, _, rfl, MB.gBudgets, ?_⟩
  walk_at "rd"
  have dB : duB G os ⟨L2.T l, L2.T pt, L2.T cu, .int f, .int (f + many - 1), .int t, .ref q8⟩ = 8 := du8 (N.nn l ml) hp hc hm.1 (by omega) hm.2.2.2 (by omega) ht hq hw (by omega) hf
  refine ⟨_, _, hpb, ip "put" _, B.nT, m.d, os, tok (Ev (N.nn l ml)) hp (Bm hc) hq hw.2.2.1, MB.bu, by omega, fun C e => ?_, fun _ b H' bo _ fp sa kp nT => ⟨by omega, fun p1 f1 => ?_⟩⟩
  ·rw [dB] at e; cases e
  obtain ⟨H4, g1, g2, M4, A4, N4, T4, K4, en⟩ := GG MB B.ap B.nm ml hf (Nat.le_succ_of_le lo) hp (by omega) bo fp sa kp nT f1
  exact ⟨_, _, rfl, g1, _, H4, rfl, g2, kk H4 b _ ⟨T4, B.kp.trans K4, M4, A4, N4⟩ en⟩
 obtain ⟨u10, hu10, b10⟩ := b10
 have b7 : ∃ u, PSs (d7 (XE P w) P w K mg base ["_law_script", "_law_made", "_law_k", "_law_cell", "_law_name", "_law_many", "_law_first_here", "_law_total", "_law_weights", "_law_path", "_law_currency"] "_law_budgets" (ae a8) a.bK cdv A outer s H E) (ZL 7 wf) u /\ ∀ (D : fI) os la l (c f many t : Int) q8 (vs : List Int) x2 x9 x10 G0 G, BI a.au a.aw a.av H G0 m os la -> Same G0 G -> NoT G -> os.length <= 5 -> l ∈ m.nms -> fnd os l = none -> (0 <= f /\ 1 <= many /\ many <= 5 /\ f + many - 1 <= 4799) -> (-1000000000000000 <= t /\ t <= 1000000000000000) -> G0 q8 = none -> G q8 = some (.lst (vs.map V.int)) -> (∀ w ∈ vs, 0 <= w /\ w <= 4) -> (vs.length : Int) = many ->
  (∀ G' b la' x9 x10, BI a.au a.aw a.av H G' m (os ++ [b]) la' -> b.nm = l -> D.nx (sgB p m.md x2 (some (.int c)) (some (L2.T l)) (some (.int many)) (some (.int f)) (some (.int t)) (some (.ref q8)) x9 x10) G') ->
  u D (sgB p m.md x2 (some (.int c)) (some (L2.T l)) (some (.int many)) (some (.int f)) (some (.int t)) (some (.ref q8)) x9 x10) G := by
  refine ⟨_, (af (iz (ah aH ac (ah aO (ah aP (fv 3) ac) ac)) (n9 (fv 8) (ah aO (ah aP (fv 3) ac) (fv 5)) il))
   (af (aK (i := 9) ND rfl (Or.inl rfl) (aX (aD K) (aA (Zs HU) (fv 1) (aq [112, 97, 116, 104, 115]) (fun _ _ => rfl)) (ah aO (ah aP (ao G__law_mixed (hr.mono (by decide)) rfl T.bc T.aQ.kp b__law_mixed .nil aC (FA.pa (aa (fv 3) (aa ac ad)))) ac) (aE (dM K) rfl T.iQ fh (FA.pa (aa (aA (Zs HU) (fv 1) (aq [112, 97, 116, 104, 115]) (fun _ _ => rfl)) ad)))) (fun _ _ => rfl)))
   (af (aK (i := 10) ND rfl (Or.inl rfl) (aX (aD K) (aA (Zs HU) (fv 1) (aq [99, 117, 114, 114, 101, 110, 99, 105, 101, 115]) (fun _ _ => rfl)) (ah aO (ah aP (ao G__law_mixed (hr.mono (by decide)) rfl T.bc T.aQ.kp b__law_mixed .nil aC (FA.pa (aa (fv 3) (aa ac ad)))) ac) ac) (fun _ _ => rfl)))
   hu10))), fun D os la l c f many t q8 vs x2 x9 x10 G0 G B0 s0 n0 lo ml hf hm ht f8 hq hv hl kk => ?_⟩
  walk_at "rd"
  have b0 : 0 <= c / 7 % many := ZE _ (by omega)
  have b1 : c / 7 % many < many := ZU _ (by omega)
  obtain ⟨j, ej⟩ := mW b0
  have lj : j < vs.length := by omega
  refine ⟨by omega, _, _, _, j, rfl, rfl, hq, by rw [ej, zc]; exact B_ lj, ?_⟩
  have ev : (vs.map V.int).set j (V.int (1 + c / 35 % 4)) = (vs.set j (1 + c / 35 % 4)).map V.int := by rw [List.map_set]
  rw [ev]
  have sm : Same G0 (upd G q8 (.lst ((vs.set j (1 + c / 35 % 4)).map V.int))) := cI s0 f8
  have gq : upd G q8 (.lst ((vs.set j (1 + c / 35 % 4)).map V.int)) q8 = _ := aj
  have nq : NoT (upd G q8 (.lst ((vs.set j (1 + c / 35 % 4)).map V.int))) := aJ n0 rfl
  generalize upd G q8 (.lst ((vs.set j (1 + c / 35 % 4)).map V.int)) = G1 at sm gq nq |-
  have B := B0.same sm nq
  refine ⟨_, _, rfl, B.ms.gPaths, nq, _, _, rfl, B.ms.gPaths, ?_⟩
  walk_at "rd"
  refine ⟨_, .inl (SqL.of B.nm.pq), ?_⟩
  walk_at "rd"
  obtain ⟨u, hu, eu⟩ := qg (ps := m.ps) (MX c 6 / 3) (by have := N.pl; omega)
  obtain ⟨w1, hw1, ew1⟩ := za (cu := m.cu) (MX c 7 / 3) N.cl
  refine ⟨by rw [zc]; have := N.pl; show 0 < ((m.ps.length : Nat) : Int); omega, _, _, .inl (SqL.of B.nm.pq), eu, _, _, rfl, B.ms.gCurs, nq, ?_⟩
  walk_at "rd"
  have hv' : ∀ w ∈ vs.set j (1 + c / 35 % 4), 0 <= w /\ w <= 1000000000 := fun w hw => by
   rcases List.mem_or_eq_of_mem_set hw with h | rfl
   ·have := hv w h; omega
   ·omega
  refine ⟨_, _, .inl (SqL.of B.nm.cq), ew1, b10 D os la l u w1 f many t q8 _ x2 _ G1 B lo ml hf (N.pk u hu) (N.ck w1 hw1) hm ht gq ⟨hv', by rw [List.length_set]; omega, by rw [List.length_set]; omega, Dz (fun w hw => (hv' w hw).1) (List.mem_set lj _) (by omega)⟩ (by rw [List.length_set]; exact hl) fun G' b la' B' en => kk G' b la' _ _ B' en⟩
 obtain ⟨u7, hu7, b7⟩ := b7
 have b6 : ∃ u, PSs (d7 (XE P w) P w K mg base ["_law_script", "_law_made", "_law_k", "_law_cell", "_law_name", "_law_many", "_law_first_here", "_law_total", "_law_weights", "_law_path", "_law_currency"] "_law_budgets" (ae a8) a.bK cdv A outer s H E) (ZL 6 wf) u /\ ∀ (D : fI) os la l (c f many t : Int) x2 x8 x9 x10 G, BI a.au a.aw a.av H G m os la -> os.length <= 5 -> l ∈ m.nms -> fnd os l = none -> (0 <= f /\ 1 <= many /\ many <= 5 /\ f + many - 1 <= 4799) -> (-1000000000000000 <= t /\ t <= 1000000000000000) ->
  (∀ G' b la' x7 x8 x9 x10, BI a.au a.aw a.av H G' m (os ++ [b]) la' -> b.nm = l -> D.nx (sgB p m.md x2 (some (.int c)) (some (L2.T l)) (some (.int many)) (some (.int f)) x7 x8 x9 x10) G') ->
  u D (sgB p m.md x2 (some (.int c)) (some (L2.T l)) (some (.int many)) (some (.int f)) (some (.int t)) x8 x9 x10) G := by
  refine ⟨_, (af (ic (i0 := 8) ND rfl (Or.inl rfl) rfl (cl := _) (x := "_law_one") (xs := ["_law_one"]) (fr := ["_law_cell"]) (ks := [3]) (by walk_at "cq") rfl (cU rfl T.dI (FA.pa (aa (fv 5) ad))) (fun _ _ _ _ _ => (aI (i := 0) (dD (l := ["_law_one", "_law_cell"]) (by decide)) rfl (Or.inl rfl))) (fun _ _ _ _ _ => cF) (fun _ _ _ _ _ => (ah aO (ah aP (ao G__law_mixed (hr.mono (by decide)) rfl T.bc T.aQ.kp b__law_mixed .nil rS (FA.pa (aa (fv 1) (aa (fv 0) ad)))) ac) ac)))
   hu7), fun D os la l c f many t x2 x8 x9 x10 G B lo ml hf hm ht kk => ?_⟩
  walk_at "rd"
  refine cmR (fun H' => NoT H' /\ Same G H') (fun D ys hD => ⟨aJ B.nT rfl, az _ hD⟩) many.toNat (fun _ => true) (fun j : Nat => V.int (MX c j / 3 % 5)) (fun R r => ?_) (by omega) (fun j hj H' R _ r => r) (fun j hj _ H' R cc r => ?_) (fun q hq => ?_)
  ·walk_at "rd"
   rw [show ((many.toNat : Nat) : Int) = many by omega] at r; exact r
  ·walk_at "rd"
   exact ⟨cc.1, ⟨by omega, by omega⟩, r⟩
  have ev : List.map (fun j : Nat => V.int (MX c j / 3 % 5)) (List.filter (fun _ => true) (xp many.toNat)) = ((xp many.toNat).map fun j : Nat => MX c j / 3 % 5).map V.int := by
   rw [pb.mpr (by simp), vD]; rfl
  rw [ev]
  obtain ⟨G1, ee, s1, g1, N1⟩ := bq (o := HO.lst (((xp many.toNat).map fun j : Nat => MX c j / 3 % 5).map V.int)) hq B.nT rfl
  rw [ee]
  refine b7 D os la l c f many t q _ x2 x9 x10 G G1 B s1 N1 lo ml hf hm ht hq g1 (fun w hw => ?_) (by rw [zc, Yv]; omega) fun G' b la' x9 x10 B' en => kk G' b la' _ _ x9 x10 B' en
  obtain ⟨j, _, rfl⟩ := rf.mp hw
  omega
 obtain ⟨u6, hu6, b6⟩ := b6
 have b5 : ∃ u, PSs (d7 (XE P w) P w K mg base ["_law_script", "_law_made", "_law_k", "_law_cell", "_law_name", "_law_many", "_law_first_here", "_law_total", "_law_weights", "_law_path", "_law_currency"] "_law_budgets" (ae a8) a.bK cdv A outer s H E) (ZL 5 wf) u /\ ∀ (D : fI) os la l (c f many : Int) x2 x8 x9 x10 G, BI a.au a.aw a.av H G m os la -> os.length <= 5 -> l ∈ m.nms -> fnd os l = none -> (0 <= f /\ 1 <= many /\ many <= 5 /\ f + many - 1 <= 4799) -> (0 <= c /\ c < 2147483647) ->
  (∀ G' b la' x7 x8 x9 x10, BI a.au a.aw a.av H G' m (os ++ [b]) la' -> b.nm = l -> D.nx (sgB p m.md x2 (some (.int c)) (some (L2.T l)) (some (.int many)) (some (.int f)) x7 x8 x9 x10) G') ->
  u D (sgB p m.md x2 (some (.int c)) (some (L2.T l)) (some (.int many)) (some (.int f)) (some (.int (c / 20 % 61 - 30))) x8 x9 x10) G := by
  refine ⟨_, (af (bz (bE (bV K HU) (ah aO (ah aP (fv 3) ac) ac) ac (a_ _)) (ak (aK (i := 7) ND rfl (Or.inl rfl) (ah cC (ah aO (ah cC (fv 3) (fv 3)) (ah ju ac ac)) (ah cE ac (ah cC ac (ah aO (ah aP (fv 3) ac) ac)))))) aV)
   hu6), fun D os la l c f many x2 x8 x9 x10 G B lo ml hf hm hc kk => ?_⟩
  walk_at "rd"
  by_cases h1 : c / 20 % 3 = 1
  ·refine itp h1 ?_
   have e : (10 : Int) ^ Z1 15 = 1000000000000000 := by decide
   rw [e]
   generalize c * c = cc
   refine ⟨.inl (by omega), by decide, by decide, .inr (by omega), b6 D os la l c f many _ x2 x8 x9 x10 G B lo ml hf hm ?_ kk⟩
   have h : c / 60 % 2 = 0 \/ c / 60 % 2 = 1 := by omega
   rcases h with h | h <;> rw [h] <;> omega
  ·exact itn h1 (b6 D os la l c f many _ x2 x8 x9 x10 G B lo ml hf hm (by omega) kk)
 obtain ⟨u5, hu5, b5⟩ := b5
 have b0 : ∃ u, PSs (d7 (XE P w) P w K mg base ["_law_script", "_law_made", "_law_k", "_law_cell", "_law_name", "_law_many", "_law_first_here", "_law_total", "_law_weights", "_law_path", "_law_currency"] "_law_budgets" (ae a8) a.bK cdv A outer s H E) wf u /\ ∀ (D : fI) os la l (i : Nat) x3 x4 x5 x6 x7 x8 x9 x10 G, BI a.au a.aw a.av H G m os la -> os.length <= 5 -> i <= 5 -> m.nms[(((i : Int) + ns.getD 5 0) % 7).toNat]? = some l -> fnd os l = none ->
  (∀ G' b la' x3 x4 x5 x6 x7 x8 x9 x10, BI a.au a.aw a.av H G' m (os ++ [b]) la' -> b.nm = l -> D.nx (sgB p m.md (some (.int (0 + (i : Int)))) x3 x4 x5 x6 x7 x8 x9 x10) G') ->
  u D (sgB p m.md (some (.int (0 + (i : Int)))) x3 x4 x5 x6 x7 x8 x9 x10) G := by
  refine ⟨_, (af (aK (i := 3) ND rfl (Or.inr rfl) (ao G__law_mixed (hr.mono (by decide)) rfl T.bc T.aQ.kp b__law_mixed .nil aC (FA.pa (aa (ao G__law_cell_at (hr.mono (by decide)) rfl T.bi T.aU.kp b__law_cell_at .nil aC (FA.pa (aa (fv 0) (aa (ah aH ac (ah aO (fv 2) ac)) ad)))) (aa (fv 2) ad)))))
   (af (aK (i := 4) ND rfl (Or.inl rfl) (aX (aD K) (aA (Zs HU) (fv 1) (aq [110, 97, 109, 101, 115]) (fun _ _ => rfl)) (ah aO (ah aH (fv 2) (ao G__law_cell_at (hr.mono (by decide)) rfl T.bi T.aU.kp b__law_cell_at .nil aC (FA.pa (aa (fv 0) (aa ac ad))))) ac) (fun _ _ => rfl)))
   (af (aK (i := 5) ND rfl (Or.inl rfl) (ah aH ac (ah aO (fv 3) ac)))
   (af (aK (i := 6) ND rfl (Or.inl rfl) (ah aH (aA (Zs HU) (fv 1) (aq [98, 97, 115, 101]) (fun _ _ => rfl)) (ah aO (ah aP (fv 3) ac) ac)))
   (af (aK (i := 7) ND rfl (Or.inl rfl) (ah cE (ah aO (ah aP (fv 3) ac) ac) ac))
   hu5))))), fun D os la l i x3 x4 x5 x6 x7 x8 x9 x10 G B lo li gl hf kk => ?_⟩
  have sG := hSS _ B.kp
  walk_at "rd"
  refine ⟨ns, sG, by omega, B.nT, ⟨by omega, by omega⟩, _, _, rfl, B.ms.gNames, ns, sG, ?_⟩
  walk_at "rd"
  have hMX := Ey (ns.getD (4 + (0 + (i : Int)) % 2).toNat 0) (0 + (i : Int))
  generalize MX (ns.getD (4 + (0 + (i : Int)) % 2).toNat 0) (0 + (i : Int)) = c at hMX |-
  have e5 : ns.getD (Z1 5) 0 = ns.getD 5 0 := rfl
  rw [e5, Int.zero_add]
  have bs := N.bs
  obtain ⟨j, ej⟩ := mW (show 0 <= ((i : Int) + ns.getD 5 0) % 7 by omega)
  rw [ej] at gl |-
  refine ⟨_, _, .inl (SqL.of B.nm.nq), a9 (j := j) (by show (m.nms.map L2.T)[j]? = _; rw [List.getElem?_map, show m.nms[j]? = some l from gl]; rfl), _, _, rfl, B.ms.gBase, ?_⟩
  walk_at "rd"
  refine b5 D os la l c _ _ _ x8 x9 x10 G B lo (tM gl) hf ⟨?_, by omega, by omega, ?_⟩ hMX fun G' b la' x7 x8 x9 x10 B' en => by
   have := kk G' b la' (some (.int c)) (some (L2.T l)) (some (.int (1 + c % 5))) (some (.int (m.base + c / 5 % 4))) x7 x8 x9 x10 B' en
   rwa [Int.zero_add] at this
  ·omega
  ·omega
 obtain ⟨ub, hub, b0⟩ := b0
 have G__law_cell_at := @dG P w K mg base a T
 have b__law_cell_at := dJ T.aU
 refine ⟨_, (ak (eh (by passes_own) rfl (cU rfl T.dI (FA.pa (aa (ah aO (ao G__law_cell_at (hr.mono (by decide)) rfl T.bi T.aU.kp b__law_cell_at .nil aC (FA.pa (aa (fv 0) (aa ac ad)))) ac) ad))) (aI (i := 2) ND rfl (Or.inl rfl)) hub)), ?_⟩
 refine h_ ?_
 walk_at "rd"
 refine ⟨ns, hS, ?_⟩
 generalize ns.getD (Z1 4) 0 = c4
 refine ⟨by omega, by omega, eI (lo := 0) (n := (c4 % 6).toNat) (fun i σ' G => ∃ os la x2 x3 x4 x5 x6 x7 x8 x9 x10, BI a.au a.aw a.av H G m os la /\ os.length <= i /\ (∀ o ∈ os, ∃ j : Nat, j < i /\ m.nms[(((j : Int) + ns.getD 5 0) % 7).toNat]? = some o.nm) /\ σ' = sgB p m.md x2 x3 x4 x5 x6 x7 x8 x9 x10) ⟨[], m.la, none, none, none, none, none, none, none, none, none, ⟨hN, Keep.refl, by rw [<- eo]; exact M, by rw [<- eo]; exact AP, by rw [<- eo]; exact N⟩, zM _, (fun _ h => nomatch h), rfl⟩ ?_ ?_⟩
 ·rintro i σ' G hi ⟨os, la, x2, x3, x4, x5, x6, x7, x8, x9, x10, B, lo, hos, rfl⟩
  have nl := N.nl
  have hk : (((i : Int) + ns.getD 5 0) % 7).toNat < m.nms.length := by omega
  have gl := List.getElem?_eq_getElem hk
  walk_at "rd"
  refine b0 _ os la _ i x3 x4 x5 x6 x7 x8 x9 x10 G B (by omega) (by omega) gl ?_ fun G' b la' x3 x4 x5 x6 x7 x8 x9 x10 B' en => ⟨_, la', _, x3, x4, x5, x6, x7, x8, x9, x10, B', by rw [wz, t8]; omega, fun o ho => ?_, rfl⟩
  ·cases ef : fnd os m.nms[(((i : Int) + ns.getD 5 0) % 7).toNat] with
   | none => rfl
   | some o =>
    obtain ⟨mo, eo⟩ := iI ef
    obtain ⟨j, hj, gj⟩ := hos o mo
    rw [eo, <- gl] at gj
    have hx : (((j : Int) + ns.getD 5 0) % 7).toNat = (((i : Int) + ns.getD 5 0) % 7).toNat := by
     have hj' : (((j : Int) + ns.getD 5 0) % 7).toNat < m.nms.length := by omega
     rw [List.getElem?_eq_getElem hj', gl] at gj
     exact (List.getElem_inj N.nd).mp (nc gj)
    omega
  ·rcases tD.mp ho with h | h
   ·obtain ⟨j, hj, gj⟩ := hos o h
    exact ⟨j, by omega, gj⟩
   ·rw [zr.mp h, en]
    exact ⟨i, by omega, gl⟩
 ·rintro σ' G ⟨os, la, x2, x3, x4, x5, x6, x7, x8, x9, x10, B, lo, hos, rfl⟩
  exact k G os la B.ms B.ap B.nm (by omega) B.kp B.nT
open K17 K3
theorem Co {ks : List (List Nat)} : ∀ {ls : List (List Nat)}, ls.Nodup -> (∀ l ∈ ls, l ∈ ks) -> ls.length <= ks.length
 | [], _, _ => o3 _
 | l :: ls, h, g => by
  rw [nW] at h
  have := Co (ks := ks.erase l) h.2 fun x hx => (List.mem_erase_of_ne (by rintro rfl; exact h.1 hx)).mpr (g x (.tail _ hx))
  have e := List.length_erase_of_mem (g l (.head _))
  have : 0 < ks.length := List.length_pos_of_mem (g l (.head _))
  rw [sX]; omega
theorem F7 {H : Hp} {m : Md} (N : Nm H m) (h : m.os.length <= 6) : ∃ l r, m.nms.filter (fun l => (fnd m.os l).isNone) = l :: r /\ l ∈ m.nms /\ fnd m.os l = none := by
 cases e : m.nms.filter (fun l => (fnd m.os l).isNone) with
 | nil =>
  have : m.nms.length <= (m.os.map (·.nm)).length := Co N.nd fun l hl => by
   have := List.filter_eq_nil_iff.mp e l hl
   cases ef : fnd m.os l with
   | none => rw [ef] at this; exact absurd rfl this
   | some o => obtain ⟨mo, rfl⟩ := iI ef; exact rf.mpr ⟨o, mo, rfl⟩
  rw [N.nl, zc] at this
  omega
 | cons l r =>
  have hm : l ∈ m.nms.filter (fun l => (fnd m.os l).isNone) := by rw [e]; exact .head _
  obtain ⟨h1, h2⟩ := List.mem_filter.mp hm
  exact ⟨l, r, rfl, h1, by cases ef : fnd m.os l with | none => rfl | some o => rw [ef] at h2; cases h2⟩
def A8 (os : List Bd) (v : V) : Bool := (gb os v).isNone
def sp_xi (S O J : Addr) : Sp := sp1 fun x H Q _ => NoT H /\ asR x fun md => ∃ m, m.md = md /\ Ms S O J H m /\ Ap m /\ Nm H m /\ m.os.length <= 5 /\ Yk J H m 0 m.s /\
 ∀ H' os la, Ms S O J H' { m with os := os, la := la } -> Ap { m with os := os, la := la } -> Nm H' { m with os := os, la := la } -> Keep [m.d, m.tq] H H' -> NoT H' -> Q (.bl true) H'
theorem lx (T : Txt K mg a) : bg P w K mg base (XE P w) 9 a.ed a.fX ["_law_made"] (sp_xi a.au a.aw a.av) := by
 refine T.eA.okX fQ (fun vs H Q E h => sp1.len h) (fun cdv A outer s H vs Q E hr h => ?_)
 obtain ⟨x0, rfl, h⟩ := sp1.inv h
 try dsimp only [sp_xi, sp1] at h
 have ND := fQ.nd
 have HU := bj hr
 obtain ⟨hN, h1⟩ := h
 obtain ⟨md, rfl, m, em, M, AP, N, ol, Y, k⟩ := asR.inv h1
 have em : m.md = md := em
 subst em
 have sz : 2000 <= sizeLine := by rw [ue]; decide
 have G__law_told := @ng P w K mg base a T
 have b__law_told := nU T.d5
 have G_Budgets_put := @jO P w K mg base a T
 have b_Budgets_put := jC T.gY
 refine ⟨_, (af (aK (i := 1) ND rfl (Or.inl rfl) (aX (aD K) (cB rfl (cl := _) (x := "_law_name") (xs := ["_law_name"]) (fr := ["_law_made"]) (ks := [0]) (by walk_at "cq") rfl (bQ K (aA (Zs HU) (fv 0) (aq [110, 97, 109, 101, 115]) (fun _ _ => rfl))) (fun _ _ _ _ _ => (aI (i := 0) (dD (l := ["_law_name", "_law_made"]) (by decide)) rfl (Or.inl rfl))) (fun _ _ _ _ _ => (pT (w8 (n8 (Zs HU) (fv 0) (aA (Zs HU) (fv 1) (aq [116, 101, 114, 109, 115]) (fun _ _ => rfl))) (by with_unfolding_all rfl)))) (fun _ _ _ _ _ => (fv 0))) ac (fun _ _ => rfl)))
  (af (bz (b8 (b_ (ao G__law_told (hr.mono (by decide)) rfl T.jA T.d5.kp b__law_told .nil aC (FA.pa (aa (fv 0) (aa ac (aa (fv 1) (aa (aA (Zs HU) (fv 0) (aq [98, 97, 115, 101]) (fun _ _ => rfl)) (aa ac ad))))))))) (ak (aG fW)) aV)
  (af (aK (i := 2) ND rfl (Or.inl rfl) (aX (aD K) (aA (Zs HU) (fv 0) (aq [112, 97, 116, 104, 115]) (fun _ _ => rfl)) ac (fun _ _ => rfl)))
  (af (aK (i := 3) ND rfl (Or.inl rfl) (aX (aD K) (aA (Zs HU) (fv 0) (aq [99, 117, 114, 114, 101, 110, 99, 105, 101, 115]) (fun _ _ => rfl)) ac (fun _ _ => rfl)))
  (af (dv (bY (aA (Zs HU) (fv 0) (aq [98, 117, 100, 103, 101, 116, 115]) (fun _ _ => rfl)) T.aY T.ja G_Budgets_put (hr.mono (by decide)) b_Budgets_put .nil aC (FA.pa (aa (fv 1) (aa (fv 2) (aa (fv 3) (aa (aA (Zs HU) (fv 0) (aq [98, 97, 115, 101]) (fun _ _ => rfl)) (aa (ah aH (aA (Zs HU) (fv 0) (aq [98, 97, 115, 101]) (fun _ _ => rfl)) ac) (aa ac (aa (cw (FA.pa (aa ac (aa ac ad)))) ad))))))))))
  (af (eW (Zs HU) (aA (Zs HU) (fv 0) (aq [116, 101, 114, 109, 115]) (fun _ _ => rfl)) (fv 1) (dQ (FA.pa (aa (fv 2) (aa (fv 3) (aa (aA (Zs HU) (fv 0) (aq [98, 97, 115, 101]) (fun _ _ => rfl)) (aa (ah aH (aA (Zs HU) (fv 0) (aq [98, 97, 115, 101]) (fun _ _ => rfl)) ac) (aa ac ad))))))) rfl)
  (ak (aG (ao G__law_told (hr.mono (by decide)) rfl T.jA T.d5.kp b__law_told .nil aC (FA.pa (aa (fv 0) (aa ac (aa (fv 1) (aa (aA (Zs HU) (fv 0) (aq [98, 97, 115, 101]) (fun _ _ => rfl)) (aa (aA (Zs HU) (fv 0) (aq [98, 97, 115, 101]) (fun _ _ => rfl)) ad))))))))))))))), ?_⟩
 walk_at "rd"
 refine v6 ?_
 walk_at "rd"
 refine ⟨_, _, rfl, M.gNames, m.nq, rfl, ⟨_, SqL.of N.nq⟩, Bj m.nq _ (A8 m.os) N.nq (by rw [zc, N.nl]; omega) (fun x hx G R s r => ?_) (fun x hx G R s r => r) (fun D hD => ?_)⟩
 ·obtain ⟨l, hl, rfl⟩ := rf.mp hx
  have M1 := M.same s
  have gt := M1.term l
  walk_at "rd"
  refine ⟨_, _, rfl, M1.gTerms, _, _, rfl, gt, ?_⟩
  rw [Yw]
  have e : A8 m.os (L2.T l) = (fnd m.os l).isNone := rfl
  rw [e] at r
  cases ef : fnd m.os l <;> rw [ef] at r <;> exact r
 obtain ⟨l, rr, el, ml, hf⟩ := F7 N (by omega)
 have ef : (m.nms.map L2.T).filter (A8 m.os) = (l :: rr).map L2.T := by
  rw [List.filter_map, <- el]; rfl
 rw [ef]
 obtain ⟨H1, ee, s1, g1, N1⟩ := bq (o := HO.lst ((l :: rr).map L2.T)) hD hN rfl
 rw [ee]
 have M1 := M.same s1
 refine ⟨_, _, .inl (SqL.of g1), a9 (j := 0) rfl, _, _, rfl, M1.gBase, ?_⟩
 walk_at "rd"
 refine ⟨N1, m, m.s, rfl, M1, Y.same s1, fun H2 s2 N2 => ?_⟩
 have s12 := s1.trans s2
 have M2 := M.same s12
 have Nm2 := N.same s12
 obtain ⟨u, hu, eu⟩ : ∃ u, u ∈ m.ps /\ m.ps[0]? = some u := by
  have hp := N.pl
  cases e : m.ps with
  | nil => rw [e] at hp; exact absurd hp.1 (by decide)
  | cons u r => exact ⟨u, .head _, rfl⟩
 obtain ⟨c1, hc1, ec1⟩ : ∃ u, u ∈ m.cu /\ m.cu[0]? = some u := by
  have hp := N.cl
  cases e : m.cu with
  | nil => rw [e] at hp; exact absurd hp (by decide)
  | cons u r => exact ⟨u, .head _, rfl⟩
 refine ⟨_, _, rfl, M2.gPaths, _, _, .inl (SqL.of Nm2.pq), a9 (j := 0) (by rw [List.getElem?_map, eu]; rfl), _, _, rfl, M2.gCurs, _, _, .inl (SqL.of Nm2.cq), a9 (j := 0) (by rw [List.getElem?_map, ec1]; rfl), ?_⟩
 walk_at "rd"
 obtain ⟨dx, hpb⟩ := M2.bu.ob
 refine ⟨_, _, rfl, M2.gBudgets, ?_⟩
 walk_at "rd"
 refine ⟨_, _, hpb, ip "put" _, _, _, rfl, M2.gBase, _, _, rfl, M2.gBase, ?_⟩
 walk_at "rd"
 refine ⟨by omega, fun q fq => ?_⟩
 obtain ⟨H3, ee, s3, g3, N3⟩ := bq (o := HO.lst [V.int 1, V.int 1]) fq N2 rfl
 rw [ee]
 have s13 := s12.trans s3
 have M3 := M.same s13
 have Nm3 := N.same s13
 have hp := N.pk u hu
 have hc := N.ck c1 hc1
 have bs := N.bs
 have hw : (∀ w ∈ ([1, 1] : List Int), 0 <= w /\ w <= 1000000000) /\ 1 <= ([1, 1] : List Int).length /\ ([1, 1] : List Int).length <= 60 /\ 0 < ([1, 1] : List Int).sum := by decide
 have dB : duB H3 m.os ⟨L2.T l, L2.T u, L2.T c1, .int m.base, .int (m.base + 1), .int 7, .ref q⟩ = 8 := du8 (ws := [1, 1]) (N.nn l ml) hp hc bs.1 (by omega) (by omega) (by omega) (by decide) g3 hw (by show (2 : Int) = _; omega) hf
 refine ⟨N3, m.d, m.os, tok (ws := [1, 1]) (Ev (N.nn l ml)) hp (Bm hc) g3 hw.2.2.1, M3.bu, by omega, fun C e => ?_, fun _ b H4 bo _ fp sa kp nT => ?_⟩
 ·rw [dB] at e; cases e
 have gB : DGet H4 m.md (L2.T cT) (some (.int m.base)) := by
  obtain ⟨kvs, ev, g⟩ := M3.kv
  have dd := AP.dd
  exact .inl ⟨_, .inr ⟨⟨cT⟩⟩, .inl (kp _ _ ev (n1 fun z => dd (by rw [z]; exact .head _))), rfl, (g _ (.head _)).symm⟩
 refine ⟨_, _, rfl, gB, _, _, rfl, gB, ?_⟩
 walk_at "rd"
 refine ⟨by omega, fun p1 f1 => ?_⟩
 obtain ⟨H5, h1, h2, M5, A5, N5, T5, K5, en⟩ := GG M3 AP Nm3 ml hf (by omega) hp (by omega) bo fp sa kp nT f1
 refine ⟨_, _, rfl, h1, _, H5, rfl, h2, _, _, rfl, M5.gBase, _, _, rfl, M5.gBase, ?_⟩
 walk_at "rd"
 have Y5 : Yk a.av H5 (m.more b p1) 0 m.s := ⟨M5.s, Y.r, Y.j, Y.ln, Y.pa⟩
 exact ⟨T5, m.more b p1, m.s, rfl, M5, Y5, fun H6 s6 n6 => k H6 _ _ (M5.same s6) A5 (N5.same s6) (((Keep.same s13).trans K5).trans (Keep.same s6)) n6⟩
open K17 K3
def HdO (H : Hp) (W : List Addr) (v : V) : Prop := ∃ q c d xs ys es, v = .ref q /\ (q ∉ W /\ c ∉ W /\ d ∉ W) /\ H q = some (.lst [.ref c, .ref d]) /\ H c = some (.lst xs) /\ H d = some (.lst ys) /\ A2 (TpAt H) xs es /\ A2 (TpAt H) ys es /\ ∀ e ∈ es, e.all da = true
theorem HdO.kp {H H' : Hp} {W W' : List Addr} {v : V} (x : HdO H W v) (k : Keep W' H H') (t : LW W' H) (h : ∀ y ∈ W', y ∈ W \/ ∃ kvs, H y = some (.dK kvs)) : HdO H' W v := by
 obtain ⟨q, c, d, xs, ys, es, e, f, h1, h2, h3, t1, t2, fl⟩ := x
 have no : ∀ {y : Addr} {l : List V}, H y = some (.lst l) -> y ∉ W -> y ∉ W' := fun e n z => by
  rcases h _ z with z | ⟨kvs, z⟩
  ·exact n z
  ·rw [e] at z; cases z
 exact ⟨q, c, d, xs, ys, es, e, f, k _ _ h1 (no h1 f.1), k _ _ h2 (no h2 f.2.1), k _ _ h3 (no h3 f.2.2), TpAt.kp t1 k t, TpAt.kp t2 k t, fl⟩
theorem HdN.old {H H' : Hp} {W : List Addr} {v : V} (x : HdN H H' v) (h : ∀ y ∈ W, ∃ o, H y = some o) : HdO H' W v := by
 obtain ⟨q, c, d, xs, ys, es, e, f, h1, h2, h3, t1, t2, fl⟩ := x
 have no : ∀ {y : Addr}, H y = none -> y ∉ W := fun e n => by
  obtain ⟨o, z⟩ := h _ n
  rw [e] at z; cases z
 exact ⟨q, c, d, xs, ys, es, e, ⟨no f.1, no f.2.1, no f.2.2⟩, h1, h2, h3, t1, t2, fl⟩
def Md.lv (m : Md) : List Addr := [m.rq, m.hq, m.s.b, m.t.b]
structure LI (S O J : Addr) (H0 H : Hp) (m : Md) (i : Nat) : Prop where
 sm : Same H0 H
 nT : NoT H
 ms : Ms S O J H m
 ap : Ap m
 nm : Nm H m
 fr : ∀ x ∈ [m.d, m.tq, m.rq, m.hq, m.s.b, m.t.b], H0 x = none
 hd : ∀ v ∈ m.hs, HdO H m.lv v
 ls : m.s.BM.length <= i /\ m.s.R.length <= 6 * i
 lt : m.t.BM.length <= i /\ m.t.R.length <= 6 * i
 lh : m.hs.length <= i
 ps : ∀ e ∈ m.s.R, e.2.pa.length <= 200
 pt : ∀ e ∈ m.t.R, e.2.pa.length <= 200
section
variable {S O J : Addr} {H0 H H' : Hp} {m : Md} {i : Nat}
theorem j_ {W : List Addr} (s : Same H0 H) (k : Keep W H H') (f : ∀ x ∈ W, H0 x = none) : Same H0 H' := fun c z e => k _ _ (s _ _ e) fun n => by
 rw [f c n] at e; cases e
theorem LI.same (L : LI S O J H0 H m i) (s : Same H H') (n : NoT H') : LI S O J H0 H' m i :=
 ⟨L.sm.trans s, n, L.ms.same s, L.ap, L.nm.same s, L.fr, fun v hv => (L.hd v hv).kp (W' := []) (Keep.same s) LW.nil (fun _ z => nomatch z), L.ls, L.lt, L.lh, L.ps, L.pt⟩
theorem LI.yk (L : LI S O J H0 H m i) (hi : i <= 30) {x : Int} (hx : x = 0 \/ x = 1) : ∃ y, Yk J H m x y /\ (y = m.s \/ y = m.t) := by
 have h1 := L.ls
 have h2 := L.lt
 rcases hx with rfl | rfl
 ·exact ⟨m.s, ⟨L.ms.s, rfl, rfl, by omega, L.ps⟩, .inl rfl⟩
 ·exact ⟨m.t, ⟨L.ms.t, rfl, rfl, by omega, L.pt⟩, .inr rfl⟩
theorem LI.al (L : LI S O J H0 H m i) : ∀ y ∈ m.lv, ∃ o, H y = some (.lst o) := fun y hy => by
 unfold Md.lv at hy
 simp only [ze, yU, or_false] at hy
 rcases hy with rfl | rfl | rfl | rfl
 ·exact ⟨_, L.ms.rl⟩
 ·exact ⟨_, L.nm.hh⟩
 ·exact ⟨_, L.ms.s.jb.at_.ls⟩
 ·exact ⟨_, L.ms.t.jb.at_.ls⟩
theorem LI.over (L : LI S O J H0 H m i) {v : V} (e : H' m.hq = some (.lst (m.hs ++ [v]))) (k : Keep [m.hq] H H') (n : NoT H') (hv : HdN H H' v) : LI S O J H0 H' { m with hs := m.hs ++ [v] } (i + 1) := by
 have M := L.ms.held L.ap L.nm.hh k
 have b := (L.ap.im m.hq (by simp)).1
 simp only [ze, yU, or_false, not_or] at b
 have N := L.nm
 have h1 := L.ls
 have h2 := L.lt
 refine ⟨j_ L.sm k fun x hx => by rw [zr.mp hx]; exact L.fr _ (by simp), n, ⟨M.kv, M.bu, M.tm, M.tt, M.ok, M.ol, M.rl, M.jl, M.s, M.t⟩, ⟨L.ap.dd, L.ap.tt, L.ap.mu, L.ap.im⟩, ⟨k _ _ N.nq (n1 (Ne.symm b.2.2.1)), N.nl, N.nd, N.nn, k _ _ N.pq (n1 (Ne.symm b.2.2.2.1)), N.pl, N.pk, k _ _ N.cq (n1 (Ne.symm b.2.2.2.2.1)), N.cl, N.ck, N.bs, e, k _ _ N.td (n1 (cW N.td N.hh)), N.ni⟩, L.fr, fun w hw => ?_, ⟨by show m.s.BM.length <= _; omega, by show m.s.R.length <= _; omega⟩, ⟨by show m.t.BM.length <= _; omega, by show m.t.R.length <= _; omega⟩, ?_, L.ps, L.pt⟩
 ·rcases tD.mp hw with h | h
  ·exact (L.hd w h).kp k (LW.one N.hh) fun y hy => .inl (by rw [zr.mp hy]; unfold Md.lv; simp)
  ·rw [zr.mp h]
   exact hv.old fun y hy => by obtain ⟨o, z⟩ := L.al y hy; exact ⟨_, z⟩
 ·show (m.hs ++ [v]).length <= _
  rw [wz, t8]; have := L.lh; omega
theorem LI.buds (L : LI S O J H0 H m i) {os : List Bd} {la : List Nat -> Addr} (M : Ms S O J H' { m with os := os, la := la }) (A : Ap { m with os := os, la := la }) (N : Nm H' { m with os := os, la := la }) (k : Keep [m.d, m.tq] H H') (n : NoT H') : LI S O J H0 H' { m with os := os, la := la } i := by
 have dk : ∀ y ∈ [m.d, m.tq], ∃ kvs, H y = some (.dK kvs) := fun y hy => by
  rcases ze.mp hy with rfl | hy
  ·exact ⟨_, L.ms.bu.dc⟩
  ·rw [zr.mp hy]; exact ⟨_, L.nm.td⟩
 exact ⟨j_ L.sm k fun x hx => L.fr x (by
  rcases ze.mp hx with rfl | hx
  ·exact .head _
  ·rw [zr.mp hx]; exact .tail _ (.head _)), n, M, A, N, L.fr, fun v hv => (L.hd v hv).kp k (fun y hy => by obtain ⟨o, z⟩ := dk y hy; exact ⟨_, z, fun _ z => nomatch z⟩) fun y hy => .inr (dk y hy), L.ls, L.lt, L.lh, L.ps, L.pt⟩
theorem Ms.book (M : Ms S O J H m) (A : Ap m) (N : Nm H m) {b : Addr} {x : Addr} (hx : x = m.s.b \/ x = m.t.b) (k : Keep [x, m.rq] H H') : (∃ kvs, H' m.md = some (.dK kvs) /\ ∀ e ∈ m.tbl, dS kvs (.inr ⟨⟨e.1⟩⟩) = some e.2) /\ SAt S O H' m.p m.d m.os /\ H' m.tq = some (.dK (m.os.map (kyT m.la))) /\ (∀ o ∈ m.os, H' (m.la o.nm) = some (.tup [L2.T o.pt, L2.T o.cu, .int o.f, .int o.l, .int o.t])) /\ H' m.jq = some (.lst [.ref m.s.j, .ref m.t.j]) /\ Nm H' m /\ LW [x, m.rq] H /\ (∀ {y : Addr} {o : HO}, H y = some o -> (∀ l, o ≠ .lst l) -> y ∉ [x, m.rq]) /\ (∀ y ∈ [m.s.r, m.t.r], y ∉ [x, m.rq]) := by
 have hl : ∀ y ∈ [x, m.rq], ∃ l, H y = some (.lst l) := fun y hy => by
  rcases ze.mp hy with rfl | hy
  ·rcases hx with rfl | rfl
   ·exact ⟨_, M.s.jb.at_.ls⟩
   ·exact ⟨_, M.t.jb.at_.ls⟩
  ·rw [zr.mp hy]; exact ⟨_, M.rl⟩
 have t : LW [x, m.rq] H := fun y hy => by obtain ⟨l, z⟩ := hl y hy; exact ⟨_, z, fun _ z => nomatch z⟩
 have no : ∀ {y : Addr} {o : HO}, H y = some o -> (∀ l, o ≠ .lst l) -> y ∉ [x, m.rq] := fun e n z => by
  obtain ⟨l, q⟩ := hl _ z
  rw [e] at q; cases q; exact n _ rfl
 have im : ∀ y ∈ [x, m.rq], y ∈ [m.rq, m.hq, m.s.b, m.t.b] := fun y hy => by
  rcases ze.mp hy with rfl | hy
  ·rcases hx with rfl | rfl <;> simp
  ·rw [zr.mp hy]; simp
 have ni : ∀ y ∈ [m.s.r, m.t.r, m.nq, m.pq, m.cq, m.jq], y ∉ [x, m.rq] := fun y hy z => (A.im y (im y z)).1 hy
 have hhq : m.hq ∉ [x, m.rq] := fun z => by
  have mu := A.mu
  simp only [nW, ze, yU, or_false, not_or] at mu z
  rcases z with z | z
  ·rcases hx with rfl | rfl
   ·exact mu.2.1.1 z
   ·exact mu.2.1.2 z
  ·exact mu.1.1 z.symm
 obtain ⟨dp, ep⟩ := M.bu.ob
 obtain ⟨kvs, ev, g⟩ := M.kv
 have td := k _ _ N.td (no N.td (by intro _ z; cases z))
 refine ⟨⟨kvs, k _ _ ev (no ev (by intro _ z; cases z)), g⟩, M.bu.keep k (no ep (by intro _ z; cases z)) (no M.bu.dc (by intro _ z; cases z)) fun o ho => ?_, td, fun o ho => k _ _ (M.tt o ho) (t.no (M.tt o ho)), k _ _ M.jl (ni _ (by simp)), ⟨k _ _ N.nq (ni _ (by simp)), N.nl, N.nd, N.nn, k _ _ N.pq (ni _ (by simp)), N.pl, N.pk, k _ _ N.cq (ni _ (by simp)), N.cl, N.ck, N.bs, k _ _ N.hh hhq, td, N.ni⟩, t, no, fun y hy => ni y ?_⟩
 ·have B := M.bu.od o ho
  obtain ⟨dz, ez⟩ := B.ob
  exact ⟨no ez (by intro _ z; cases z), t.no B.ag.ag, t.no B.ag.wt, fun z => (A.im _ (im _ z)).2 o ho rfl⟩
 ·rcases ze.mp hy with rfl | hy
  ·simp
  ·rw [zr.mp hy]; simp
theorem LI.book (L : LI S O J H0 H m i) {y y' : Sd} {m' : Md} (hy : (y = m.s /\ m' = { m with s := y' }) \/ (y = m.t /\ m' = { m with t := y' })) (ej : y'.j = y.j /\ y'.b = y.b /\ y'.u = y.u) (fr : H y'.r = none) (k : Keep [y.b, m.rq] H H') (Y' : SdAt J H' y') (rl : H' m.rq = some (.lst [.ref m'.s.r, .ref m'.t.r])) (nT : NoT H') (l1 : y'.BM.length <= i + 1 /\ y'.R.length <= 6 * (i + 1)) (l2 : ∀ e ∈ y'.R, e.2.pa.length <= 200) : LI S O J H0 H' m' (i + 1) := by
 obtain ⟨j1, j2, j3⟩ := ej
 have A := L.ap
 have M := L.ms
 have hx : y.b = m.s.b \/ y.b = m.t.b := by
  rcases hy with ⟨rfl, _⟩ | ⟨rfl, _⟩
  ·exact .inl rfl
  ·exact .inr rfl
 obtain ⟨kv, bu, td, tt, jl, N, t, no, nr⟩ := M.book A L.nm (b := y.b) hx k
 have h1 := L.ls
 have h2 := L.lt
 have h3 := L.lh
 have mu := A.mu
 simp only [nW, ze, yU, or_false, not_or] at mu
 obtain ⟨dj, e1⟩ := M.s.jb.at_.ob
 obtain ⟨dk, e2⟩ := M.t.jb.at_.ob
 have frr : ∀ x ∈ [m.rq, m.hq, m.s.b, m.t.b], x ≠ y'.r := fun x hx z => by
  obtain ⟨o, q⟩ := L.al x hx
  rw [z, fr] at q; cases q
 have hdk : ∀ v ∈ m.hs, HdO H' m.lv v := fun v hv => (L.hd v hv).kp k t fun z hz => .inl (by
  unfold Md.lv
  rcases ze.mp hz with rfl | hz
  ·rcases hx with e | e <;> rw [e] <;> simp
  ·rw [zr.mp hz]; simp)
 have sm : Same H0 H' := j_ L.sm k fun z hz => L.fr z (by
  rcases ze.mp hz with rfl | hz
  ·rcases hx with e | e <;> rw [e] <;> simp
  ·rw [zr.mp hz]; simp)
 have im6 : ∀ {x : Addr}, x ∈ [m.rq, m.hq, m.s.b, m.t.b] -> x ≠ m.s.r /\ x ≠ m.t.r /\ x ≠ m.nq /\ x ≠ m.pq /\ x ≠ m.cq /\ x ≠ m.jq := fun hx => by
  have := (A.im _ hx).1
  simp only [ze, yU, or_false, not_or] at this
  exact this
 rcases hy with ⟨rfl, rfl⟩ | ⟨rfl, rfl⟩
 ·have ot : SdAt J H' m.t := M.t.kp k t ⟨nr _ (by simp), no e2 (by intro _ z; cases z), fun z => by
   rcases ze.mp z with z | z
   ·exact mu.2.2.1 z.symm
   ·exact mu.1.2.2 (zr.mp z).symm, no M.t.jb.at_.dc (by intro _ z; cases z)⟩
  refine ⟨sm, nT, ⟨kv, bu, .inl td, tt, M.ok, M.ol, rl, by rw [show ({ m with s := y' } : Md).s.j = m.s.j from j1]; exact jl, Y', ot⟩, ⟨by have := A.dd; rwa [<- j3] at this, by have := A.tt; rwa [<- j3] at this, by have := A.mu; rwa [<- j2] at this, fun x hx => ?_⟩, ⟨N.nq, N.nl, N.nd, N.nn, N.pq, N.pl, N.pk, N.cq, N.cl, N.ck, N.bs, N.hh, N.td, N.ni⟩, by have := L.fr; rwa [<- j2] at this, by
   have e : ({ m with s := y' } : Md).lv = m.lv := by unfold Md.lv; rw [<- j2]
   rw [e]; exact hdk, l1, ⟨by show m.t.BM.length <= _; omega, by show m.t.R.length <= _; omega⟩, Nat.le_succ_of_le h3, l2, L.pt⟩
  have hx' : x ∈ [m.rq, m.hq, m.s.b, m.t.b] := by rw [<- j2]; exact hx
  refine ⟨?_, (A.im x hx').2⟩
  have q := im6 hx'
  show x ∉ [y'.r, m.t.r, m.nq, m.pq, m.cq, m.jq]
  simp only [ze, yU, or_false, not_or]
  exact ⟨frr x hx', q.2⟩
 ·have ot : SdAt J H' m.s := M.s.kp k t ⟨nr _ (by simp), no e1 (by intro _ z; cases z), fun z => by
   rcases ze.mp z with z | z
   ·exact mu.2.2.1 z
   ·exact mu.1.2.1 (zr.mp z).symm, no M.s.jb.at_.dc (by intro _ z; cases z)⟩
  refine ⟨sm, nT, ⟨kv, bu, .inl td, tt, M.ok, M.ol, rl, by rw [show ({ m with t := y' } : Md).t.j = m.t.j from j1]; exact jl, ot, Y'⟩, ⟨by have := A.dd; rwa [<- j3] at this, by have := A.tt; rwa [<- j3] at this, by have := A.mu; rwa [<- j2] at this, fun x hx => ?_⟩, ⟨N.nq, N.nl, N.nd, N.nn, N.pq, N.pl, N.pk, N.cq, N.cl, N.ck, N.bs, N.hh, N.td, N.ni⟩, by have := L.fr; rwa [<- j2] at this, by
   have e : ({ m with t := y' } : Md).lv = m.lv := by unfold Md.lv; rw [<- j2]
   rw [e]; exact hdk, ⟨by show m.s.BM.length <= _; omega, by show m.s.R.length <= _; omega⟩, l1, Nat.le_succ_of_le h3, L.ps, l2⟩
  have hx' : x ∈ [m.rq, m.hq, m.s.b, m.t.b] := by rw [<- j2]; exact hx
  refine ⟨?_, (A.im x hx').2⟩
  have q := im6 hx'
  show x ∉ [m.s.r, y'.r, m.nq, m.pq, m.cq, m.jq]
  simp only [ze, yU, or_false, not_or]
  exact ⟨q.1, frr x hx', q.2.2⟩
end
end
section
variable {pS : Addr} {ns : List Int} {P : Program} {w : World} {K : W.Frag} {mg : Str -> Option Value} {base : Heap} {a : Adr}
open K17 K3
noncomputable abbrev zh : List Stmt := Gv ((ay dy).getD 9 (.Pass ⟨0, 0, 0, 0⟩))
abbrev sig (pS md : Addr) (x2 x3 x4 x5 x6 x7 x8 : Option V) : L2.St := [some (.ref pS), some (.ref md), x2, x3, x4, x5, x6, x7, x8]
theorem Ez {H : Hp} {m : Md} (N : Nm H m) (x : Int) : ∃ l, atI (m.nms.map L2.T) (x % 7) = some (L2.T l) := by
 obtain ⟨l, _, e⟩ := qg (ps := m.nms) x (by rw [N.nl]; decide)
 rw [zc, N.nl] at e
 exact ⟨l, e⟩
theorem LI.side {S O J : Addr} {H0 H : Hp} {m : Md} {i : Nat} (L : LI S O J H0 H m i) {x : Int} (hx : x = 0 \/ x = 1) : ∃ (y : Sd) (st : Sd -> Md) (jx : Nat), (∀ y', (y = m.s /\ st y' = { m with s := y' }) \/ (y = m.t /\ st y' = { m with t := y' })) /\ SdAt J H y /\ atI [V.ref m.s.j, V.ref m.t.j] x = some (.ref y.j) /\ atI [V.ref m.s.r, V.ref m.t.r] x = some (.ref y.r) /\ ixN 2 x = some jx /\ (∀ y', [V.ref m.s.r, V.ref m.t.r].set jx (.ref y'.r) = [V.ref (st y').s.r, V.ref (st y').t.r]) /\ (y.BM.length <= i /\ y.R.length <= 6 * i) /\ (∀ e ∈ y.R, e.2.pa.length <= 200) /\ y.b ∈ m.lv /\ ∀ y', (st y').md = m.md /\ (st y').base = m.base /\ (st y').os = m.os := by
 rcases hx with rfl | rfl
 ·exact ⟨m.s, fun y' => { m with s := y' }, 0, fun y' => .inl ⟨rfl, rfl⟩, L.ms.s, rfl, rfl, rfl, fun y' => rfl, L.ls, L.ps, by unfold Md.lv; simp, fun y' => ⟨rfl, rfl, rfl⟩⟩
 ·exact ⟨m.t, fun y' => { m with t := y' }, 1, fun y' => .inr ⟨rfl, rfl⟩, L.ms.t, rfl, rfl, rfl, fun y' => rfl, L.lt, L.pt, by unfold Md.lv; simp, fun y' => ⟨rfl, rfl, rfl⟩⟩
theorem LI.y0 {S O J : Addr} {H0 H : Hp} {m : Md} {i : Nat} (L : LI S O J H0 H m i) (hi : i <= 30) : Yk J H m 0 m.s := ⟨L.ms.s, rfl, rfl, by have := L.ls; omega, L.ps⟩
theorem LI.y1 {S O J : Addr} {H0 H : Hp} {m : Md} {i : Nat} (L : LI S O J H0 H m i) (hi : i <= 30) : Yk J H m 1 m.t := ⟨L.ms.t, rfl, rfl, by have := L.lt; omega, L.pt⟩
theorem E3 (x y : V) : nj (wo "put") [(wo "bookings", x), (wo "undoings", y)] = none := by rw [fG (by decide +kernel), fG (by decide +kernel)]; rfl
theorem GK {β : Type} {n : Nat} {g : TG} {ks : List Nat} {te : TE} {σ : L2.St} {H1 : Hp} {Q : VK} (a : Addr) (xs : List V) (ys : List β) (cl : β -> L2.St) (mk : β -> List V) (hN : NoT H1) (ha : H1 a = some (.lst xs)) (hz : xs.length < sizeLine) (hcl : ∀ y ∈ ys, (cl y).length = n)
 (he : A2 (fun x y => ∀ G (R1 : L2.St -> Hp -> Prop), Same H1 G -> NoT G -> (∀ zs : L2.St, zs.length = n -> R1 (cl y ++ ks.map fun k => (σ[k]?).join) G -> g x (zs ++ ks.map fun k => (σ[k]?).join) G R1) /\ ∀ (R : VK), (∀ q G', G q = none -> Same G G' -> NoT G' -> G' q = some (.tup (mk y)) -> R (.ref q) G') -> te (cl y ++ ks.map fun k => (σ[k]?).join) G R) xs ys)
 (k : ∀ D vs G, H1 D = none -> Same H1 G -> NoT G -> G D = some (.lst vs) -> A2 (MkA mk H1 G) vs ys -> Q (.ref D) G) : CEl (Itl K a) n g ks (fun _ H Q => Q true H) te σ H1 Q := by
 refine CI a xs (fun D i vs G => H1 D = none /\ Same H1 G /\ NoT G /\ G D = some (.lst vs) /\ vs.length <= i /\ A2 (fun v y => MkA mk H1 G v y /\ v ≠ .ref D) vs (ys.take i)) hz ?_ ?_ ?_ ?_
 ·exact fun D hD => ⟨hD, az _ hD, aJ hN rfl, aj, zM _, .nil⟩
 ·rintro D i vs G ⟨hD, sm, _, gd, ly, _⟩
  exact ⟨gd, SqL.of (sm _ _ ha), ly⟩
 ·rintro D i x vs G zs N1 N0 hx ⟨hD, sm, nG, gd, ly, A⟩ hzs n1 n0
  obtain ⟨y, hy, hh⟩ := A2.at_ he hx
  have my := tM hy
  obtain ⟨h1, h3⟩ := hh G _ sm nG
  refine h1 zs hzs ⟨⟨cl y, hcl y my, rfl⟩, ?_⟩
  have et : ys.take (i + 1) = ys.take i ++ [y] := by rw [ZQ, hy]; rfl
  refine itp rfl (h3 _ fun l G' fl sG' nG' gl => ?_)
  have nl : l ≠ D := Ne.symm (ai gd fl)
  have m2 := sm.trans sG'
  refine n1 _ _ (sG' _ _ gd) ⟨hD, cI m2 hD, aJ nG' rfl, aj, by rw [wz, t8]; omega, ?_⟩
  rw [et]
  refine (A.imp fun v y' _ _ h => ?_).snoc ⟨⟨l, rfl, sm.free fl, (ar nl).trans gl⟩, fun z => nl (by cases z; rfl)⟩
  obtain ⟨⟨q', rfl, f', e'⟩, n'⟩ := h
  have nq : q' ≠ D := fun z => n' (by rw [z])
  exact ⟨⟨q', rfl, f', (ar nq).trans (sG' _ _ e')⟩, n'⟩
 ·rintro D vs G ⟨hD, sm, nG, gd, ly, A⟩
  rw [he.len, ZT] at A
  exact k D vs G hD sm nG gd (A.imp fun _ _ _ _ h => h.1)
theorem A2.zip {α β : Type} {R : α -> β -> Prop} {as : List α} {bs : List β} (h : A2 R as bs) : A2 (fun x e => x = e.1 /\ R x e.2) as (as.zip bs) := by
 induction h with
 | nil => exact .nil
 | cons r _ ih => exact .cons ⟨rfl, r⟩ ih
theorem A2.mapR {α β γ : Type} {R : α -> γ -> Prop} {f : β -> γ} {as : List α} {bs : List β} (h : A2 (fun x y => R x (f y)) as bs) : A2 R as (bs.map f) := by
 induction h with
 | nil => exact .nil
 | cons r _ ih => exact .cons r ih
theorem A2.zipR {α β γ : Type} {R : γ -> α × β -> Prop} {S : γ -> β -> Prop} {as : List α} {cs : List γ} : ∀ {bs : List β}, as.length = bs.length -> A2 R cs (as.zip bs) -> (∀ c e, R c e -> S c e.2) -> A2 S cs bs := by
 induction as generalizing cs with
 | nil => intro bs l h _; cases bs with
  | nil => cases h; exact .nil
  | cons _ _ => cases l
 | cons x as ih => intro bs l h g; cases bs with
  | nil => cases l
  | cons y bs =>
   cases h with
   | cons r t => exact .cons (g _ _ r) (ih (Nat.succ.inj l) t g)
def mk4 (mo : Int) (r : Row) : List V := [.int mo, L2.T r.pa, L2.T r.cu, .int r.am]
theorem Dr {c : Int} {k j : Nat} (hk : k < 7) (hj : j < 7) (h : K17.nms c k = K17.nms c j) : k = j := by
 have ll : ∀ k, (K17.nms c k).length = (wd (c / 250) (1 + c / 10 % 25) (1 + c % 10).toNat).length + if k < 6 then 1 else 0 := fun k => by
  unfold K17.nms
  split
  ·rw [wz, wz, qK, YS, t8]; omega
  ·rfl
 by_cases k6 : k < 6
 ·by_cases j6 : j < 6
  ·unfold K17.nms at h
   rw [if_pos k6, if_pos j6] at h
   have h1 := List.append_cancel_left (List.append_cancel_right h)
   have h2 := (List.cons.inj h1).1
   omega
  ·have := congrArg ZN h
   rw [ll, ll, if_pos k6, if_neg j6] at this
   omega
 ·by_cases j6 : j < 6
  ·have := congrArg ZN h
   rw [ll, ll, if_neg k6, if_pos j6] at this
   omega
  ·omega
theorem vJ {f : Nat -> List Nat} (h : ∀ k j, k < 7 -> j < 7 -> f k = f j -> k = j) : ((xp 7).map f).Nodup := by
 unfold List.Nodup
 rw [List.pairwise_map]
 exact (Yp (n := 7)).imp_of_mem fun ha hb ne e => ne (h _ _ (ZW.mp ha) (ZW.mp hb) e)
theorem FJ {c : Int} : (((xp 7).map fun k => ((K17.nms c 0 ++ [97, 98, 99, 100, 101, 102, 103, 104]).take 12).take (1 + k)).Nodup) /\ ∀ l ∈ (xp 7).map fun k => ((K17.nms c 0 ++ [97, 98, 99, 100, 101, 102, 103, 104]).take 12).take (1 + k), nm l = true := by
 obtain ⟨h1, h2, h3⟩ := K17.mh (c := c) (k := 0)
 have lw : 9 <= ((K17.nms c 0 ++ [97, 98, 99, 100, 101, 102, 103, 104]).take 12).length := by
  rw [qK, wz]
  show 9 <= min 12 (_ + 8)
  omega
 have hx : ∀ x ∈ (K17.nms c 0 ++ [97, 98, 99, 100, 101, 102, 103, 104]).take 12, 97 <= x /\ x <= 122 := fun x hx => by
  rcases tD.mp (ZI hx) with h | h
  ·exact h3 x h
  ·simp only [ze, yU, or_false] at h
   omega
 generalize (K17.nms c 0 ++ [97, 98, 99, 100, 101, 102, 103, 104]).take 12 = l at lw hx
 refine ⟨vJ fun k j hk hj e => ?_, fun z hz => ?_⟩
 ·have := congrArg ZN e
  rw [qK, qK] at this
  omega
 ·obtain ⟨k, hk, rfl⟩ := rf.mp hz
  have hk := ZW.mp hk
  have e : (l.take (1 + k)).length = 1 + k := by rw [qK]; omega
  unfold nm lie
  rw [e, decide_eq_true (by omega : 1 <= 1 + k), decide_eq_true (by omega : 1 + k <= 12), Z0, Z0, Zo]
  intro x hm
  have := hx x (ZI hm)
  simp; omega
theorem Ch {kvs : List (Key × V)} {k : Key} {v : V} : (eX kvs k v).length <= kvs.length + 1 := by
 unfold eX
 split
 ·rw [zc]; omega
 ·rw [wz]; exact zM _
structure Pre (S O : Addr) (H0 G : Hp) (md p d tq rq r0 r1 hq : Addr) (bas : Int) (tbl : List (List Nat × V)) (n : Nat) : Prop where
 sm : Same H0 G
 nT : NoT G
 kv : ∃ kvs, G md = some (.dK kvs) /\ kvs.length <= n /\ ∀ e ∈ tbl, dS kvs (.inr ⟨⟨e.1⟩⟩) = some e.2
 bu : SAt S O G p d []
 tk : G tq = some (.dK [])
 rl : G rq = some (.lst [.ref r0, .ref r1])
 g0 : G r0 = some (.lst [])
 g1 : G r1 = some (.lst [])
 hh : G hq = some (.lst [])
 fr : ∀ x ∈ [md, d, tq, rq, hq], H0 x = none
 nd : [md, d, tq].Nodup /\ rq ∉ [r0, r1, hq] /\ hq ∉ [r0, r1]
 bs : 0 <= bas /\ bas <= 4792
section
variable {S O : Addr} {H0 G G' : Hp} {md p d tq rq r0 r1 hq : Addr} {bas : Int} {tbl : List (List Nat × V)} {n : Nat}
theorem Pre.same (R : Pre S O H0 G md p d tq rq r0 r1 hq bas tbl n) (s : Same G G') (nT : NoT G') : Pre S O H0 G' md p d tq rq r0 r1 hq bas tbl n :=
 ⟨R.sm.trans s, nT, by obtain ⟨kvs, e, h⟩ := R.kv; exact ⟨kvs, s _ _ e, h⟩, R.bu.same s, s _ _ R.tk, s _ _ R.rl, s _ _ R.g0, s _ _ R.g1, s _ _ R.hh, R.fr, R.nd, R.bs⟩
theorem Pre.more (R : Pre S O H0 G md p d tq rq r0 r1 hq bas tbl n) {n' : Nat} (h : n <= n') : Pre S O H0 G md p d tq rq r0 r1 hq bas tbl n' :=
 ⟨R.sm, R.nT, by obtain ⟨kvs, e, l, h⟩ := R.kv; exact ⟨kvs, e, by omega, h⟩, R.bu, R.tk, R.rl, R.g0, R.g1, R.hh, R.fr, R.nd, R.bs⟩
theorem Pre.nw (R : Pre S O H0 G md p d tq rq r0 r1 hq bas tbl n) {x : Addr} (h : G x = none) : x ∉ [rq, hq] := fun z => by
 rcases ze.mp z with rfl | z
 ·rw [R.rl] at h; cases h
 ·rw [zr.mp z, R.hh] at h; cases h
theorem Pre.put (R : Pre S O H0 G md p d tq rq r0 r1 hq bas tbl n) {key : List Nat} {v : V} {tbl' : List (List Nat × V)} (hn : n <= 100) (h : ∀ e ∈ tbl', e = (key, v) \/ (e ∈ tbl /\ e.1 ≠ key)) : ∃ G', DPut G md (L2.T key) v G' /\ Pre S O H0 G' md p d tq rq r0 r1 hq bas tbl' (n + 1) /\ Keep [md] G G' := by
 obtain ⟨kvs, e, ln, g⟩ := R.kv
 have sz : 2000 <= sizeLine := by rw [ue]; decide
 have k : Keep [md] G (upd G md (.dK (eX kvs (.inr ⟨⟨key⟩⟩) v))) := Keep.refl.put (.head _)
 have nd := R.nd.1
 simp only [nW, ze, yU, or_false, not_or] at nd
 have no : ∀ {y : Addr} {o : HO}, G y = some o -> (∀ l, o ≠ .dK l) -> y ∉ [md] := fun e' n => n1 (cW e' e (n _))
 obtain ⟨dx, ep⟩ := R.bu.ob
 refine ⟨_, DPut.k (k := .inr ⟨⟨key⟩⟩) e (by omega), ⟨j_ R.sm k fun x hx => by rw [zr.mp hx]; exact R.fr _ (.head _), aJ R.nT rfl, ⟨_, aj, qM Ch (by omega), fun e he => ?_⟩, R.bu.keep k (no ep (by intro _ z; cases z)) (n1 (Ne.symm nd.1.1)) (fun _ z => nomatch z), k _ _ R.tk (n1 (Ne.symm nd.1.2)), k _ _ R.rl (no R.rl (by intro _ z; cases z)), k _ _ R.g0 (no R.g0 (by intro _ z; cases z)), k _ _ R.g1 (no R.g1 (by intro _ z; cases z)), k _ _ R.hh (no R.hh (by intro _ z; cases z)), R.fr, R.nd, R.bs⟩, k⟩
 rw [vU]
 rcases h e he with rfl | ⟨h1, h2⟩
 ·rw [if_pos rfl]
 ·rw [if_neg (fun z => h2 (by cases z; rfl))]; exact g e h1
end
def sp_law (K : W.Frag) : Sp := sp1 fun x H Q _ => asR x fun p => NoT H /\ ∃ ns : List Int, SqL K H p (ns.map V.int) /\ ns.length <= 63 /\ Q (.bl true) H
set_option maxHeartbeats 4000000 in
theorem Fp (T : Txt K mg a) : bg P w K mg base (XE P w) 13 a.jQ a.B5 ["_law_script"] (sp_law K) := by
 refine T.GV.okG Bp (fun vs H Q E h => sp1.len h) (fun cdv A outer s H vs Q E hr h => ?_)
 obtain ⟨x0, rfl, h⟩ := sp1.inv h
 try dsimp only [sp_law, sp1] at h
 have ND := Bp.nd
 have HU := bj hr
 obtain ⟨pS, rfl, hN, ns, hS, hl, k⟩ := asR.inv h
 have G__law_over := @nI P w K mg base a T
 have b__law_over := nD T.dt
 have G__law_planned_well := @jG P w K mg base a T
 have b__law_planned_well := ji T.cz
 have G__law_comes_then := @lx P w K mg base a T
 have b__law_comes_then := lT T.eA
 have G__law_looked := @qS P w K mg base a T
 have b__law_looked := rN T.gW
 have G__law_mixed := @eR P w K mg base a T
 have b__law_mixed := eT T.aQ
 have G__law_month := @sN P w K mg base a T
 have b__law_month := si T.fE
 have G_Journal_put := @qx P w K mg base a T
 have b_Journal_put := q_ T.kA
 have G__law_day := @wI P w K mg base a T
 have b__law_day := wj T.mq
 have G__law_rows := @uz P w K mg base a T
 have b__law_rows := uL T.jS
 have G__law_budgets := @pD P w K mg base a T
 have b__law_budgets := pF T.fY
 have G_Journal___init__ := @kh P w K mg base a T
 have b_Journal___init__ := kf T.fT
 have G__law_currencies := @lK P w K mg base a T
 have b__law_currencies := lM T.eg
 have G__law_cell_at := @dG P w K mg base a T
 have b__law_cell_at := dJ T.aU
 have G__law_paths := @sx P w K mg base a T
 have b__law_paths := sS T.iC
 have G__law_names := @kF P w K mg base a T
 have b__law_names := ko T.d9
 have G_Budgets___init__ := @kb P w K mg base a T
 have b_Budgets___init__ := kg T.fN
 have HU := bj hr
 have sz : 2000 <= sizeLine := by rw [ue]; decide
 have b7 : ∃ u, PSs (d7 (XE P w) P w K mg base ["_law_script", "_law_made", "_law_whole_here", "_law_k", "_law_at", "_law_rows_here", "_law_month_here", "_law_one", "_law_other"] "law" (ae dy) a.jQ cdv A outer s H (gcE H E)) (ZL 7 zh) u /\ ∀ (D : fI) m (i : Nat) (at_ : Int) (j : Nat) (c : Int) o1 o2 l1 l2 (m1 m2 : Int) G x2 x5 x6, LI a.au a.aw a.av H G m i -> i <= 20 -> (at_ = 0 \/ at_ = 1) -> ns[j]? = some c -> G o1 = some (.tup [L2.T l1, .int m1]) -> G o2 = some (.tup [L2.T l2, .int m2]) ->
  (∀ G' hs, LI a.au a.aw a.av H G' { m with hs := hs } (i + 1) -> D.nx (sig pS m.md x2 (some (.int j)) (some (.int at_)) x5 x6 (some (.ref o1)) (some (.ref o2))) G') ->
  u D (sig pS m.md x2 (some (.int j)) (some (.int at_)) x5 x6 (some (.ref o1)) (some (.ref o2))) G := by
  refine ⟨_, (ak (bz (b8 (b_ (ao G__law_looked (hr.mono (by decide)) rfl T.sH T.gW.kp b__law_looked .nil aC (FA.pa (aa (fv 1) (aa (fv 4) (aa (fv 7) (aa (fv 8) (aa (ah aP (ao G__law_mixed (hr.mono (by decide)) rfl T.bc T.aQ.kp b__law_mixed .nil aC (FA.pa (aa (aX (aD K) (fv 0) (fv 3) (fun _ _ => rfl)) (aa ac ad)))) ac) ad))))))))) (ak (aG fW)) aV)), fun D m i at_ j c o1 o2 l1 l2 m1 m2 G x2 x5 x6 L i20 ha ej e1 e2 kk => ?_⟩
  have eS : atI (ns.map V.int) (j : Int) = some (.int c) := a9 (by rw [List.getElem?_map, ej]; rfl)
  have sG := hS.same L.sm
  walk_at "rd"
  refine ⟨_, _, .inl sG, eS, ?_⟩
  walk_at "rd"
  obtain ⟨y, Y, hy⟩ := L.yk (by omega) ha
  exact ⟨L.nT, L.nT, m, y, l1, l2, m1, m2, rfl, L.ms, L.ap, L.nm.td, Y, hy, L.nm.hh, by have := L.lh; omega, e1, e2, fun H' v e kp n hn => kk H' _ (L.over e kp n hn)⟩
 obtain ⟨u7, hu7, b7⟩ := b7
 have b5 : ∃ u, PSs (d7 (XE P w) P w K mg base ["_law_script", "_law_made", "_law_whole_here", "_law_k", "_law_at", "_law_rows_here", "_law_month_here", "_law_one", "_law_other"] "law" (ae dy) a.jQ cdv A outer s H (gcE H E)) (ZL 5 zh) u /\ ∀ (D : fI) m (i : Nat) (at_ : Int) (j : Nat) (c : Int) G x2 x5 x6 x7 x8, LI a.au a.aw a.av H G m i -> i <= 20 -> (at_ = 0 \/ at_ = 1) -> ns[j]? = some c ->
  (∀ G' hs x7 x8, LI a.au a.aw a.av H G' { m with hs := hs } (i + 1) -> D.nx (sig pS m.md x2 (some (.int j)) (some (.int at_)) x5 x6 x7 x8) G') ->
  u D (sig pS m.md x2 (some (.int j)) (some (.int at_)) x5 x6 x7 x8) G := by
  refine ⟨_, (af (aK (i := 7) ND rfl (Or.inl rfl) (dQ (FA.pa (aa (aX (aD K) (aA (Zs HU) (fv 1) (aq [110, 97, 109, 101, 115]) (fun _ _ => rfl)) (ah aO (ah aP (aX (aD K) (fv 0) (fv 3) (fun _ _ => rfl)) ac) ac) (fun _ _ => rfl)) (aa (ao G__law_month (hr.mono (by decide)) rfl T.m9 T.fE.kp b__law_month .nil aC (FA.pa (aa (ao G__law_mixed (hr.mono (by decide)) rfl T.bc T.aQ.kp b__law_mixed .nil aC (FA.pa (aa (aX (aD K) (fv 0) (fv 3) (fun _ _ => rfl)) (aa ac ad)))) (aa (aA (Zs HU) (fv 1) (aq [98, 97, 115, 101]) (fun _ _ => rfl)) ad)))) ad)))))
   (af (aK (i := 8) ND rfl (Or.inl rfl) (dQ (FA.pa (aa (aX (aD K) (aA (Zs HU) (fv 1) (aq [110, 97, 109, 101, 115]) (fun _ _ => rfl)) (ah aO (ah aP (aX (aD K) (fv 0) (fv 3) (fun _ _ => rfl)) ac) ac) (fun _ _ => rfl)) (aa (ao G__law_month (hr.mono (by decide)) rfl T.m9 T.fE.kp b__law_month .nil aC (FA.pa (aa (ao G__law_mixed (hr.mono (by decide)) rfl T.bc T.aQ.kp b__law_mixed .nil aC (FA.pa (aa (aX (aD K) (fv 0) (fv 3) (fun _ _ => rfl)) (aa ac ad)))) (aa (aA (Zs HU) (fv 1) (aq [98, 97, 115, 101]) (fun _ _ => rfl)) ad)))) ad)))))
   hu7)), fun D m i at_ j c G x2 x5 x6 x7 x8 L i20 ha ej kk => ?_⟩
  have eS : atI (ns.map V.int) (j : Int) = some (.int c) := a9 (by rw [List.getElem?_map, ej]; rfl)
  have sG := hS.same L.sm
  walk_at "rd"
  obtain ⟨l1, el1⟩ := Ez L.nm (c / 3)
  obtain ⟨l2, el2⟩ := Ez L.nm (c / 21)
  refine ⟨_, _, rfl, L.ms.gNames, _, _, .inl sG, eS, ?_⟩
  walk_at "rd"
  refine ⟨_, _, .inl (SqL.of L.nm.nq), el1, _, _, .inl sG, eS, L.nT, ?_⟩
  walk_at "rd"
  refine ⟨_, _, rfl, L.ms.gBase, ?_⟩
  walk_at "rd"
  refine fun m1 => ⟨by omega, fun o1 f1 => ?_⟩
  obtain ⟨G1, ee, s1, g1, N1⟩ := bq (o := HO.tup [L2.T l1, V.int m1]) f1 L.nT rfl
  rw [ee]
  have L1 := L.same s1 N1
  have sG1 := hS.same L1.sm
  refine ⟨_, _, rfl, L1.ms.gNames, _, _, .inl sG1, eS, ?_⟩
  walk_at "rd"
  refine ⟨_, _, .inl (SqL.of L1.nm.nq), el2, _, _, .inl sG1, eS, L1.nT, ?_⟩
  walk_at "rd"
  refine ⟨_, _, rfl, L1.ms.gBase, ?_⟩
  walk_at "rd"
  refine fun m2 => ⟨by omega, fun o2 f2 => ?_⟩
  obtain ⟨G2, ee, s2, g2, N2⟩ := bq (o := HO.tup [L2.T l2, V.int m2]) f2 L1.nT rfl
  rw [ee]
  exact b7 D m i at_ j c o1 o2 l1 l2 m1 m2 G2 x2 x5 x6 (L1.same s2 N2) i20 ha ej (s2 _ _ g1) g2 fun G' hs L' => kk G' hs _ _ L'
 obtain ⟨u5, hu5, b5⟩ := b5
 have b3 : ∃ u, PSs (d7 (XE P w) P w K mg base ["_law_script", "_law_made", "_law_whole_here", "_law_k", "_law_at", "_law_rows_here", "_law_month_here", "_law_one", "_law_other"] "law" (ae dy) a.jQ cdv A outer s H (gcE H E)) (ZL 3 zh) u /\ ∀ (D : fI) m (i : Nat) (at_ : Int) (j : Nat) (c mo : Int) rr rs vs G x2 x7 x8, LI a.au a.aw a.av H G m i -> i <= 18 -> (at_ = 0 \/ at_ = 1) -> ns[j]? = some c -> G rr = some (.lst vs) -> A2 (RwAt G) vs rs -> rs.length <= 6 -> (∀ z ∈ rs, z.pa ∈ m.ps) -> rr ∉ m.lv ->
  (∀ G' m' x5 x6 x7 x8, LI a.au a.aw a.av H G' m' (i + 2) -> m'.md = m.md -> m'.base = m.base -> m'.os = m.os -> D.nx (sig pS m.md x2 (some (.int j)) (some (.int at_)) x5 x6 x7 x8) G') ->
  u D (sig pS m.md x2 (some (.int j)) (some (.int at_)) (some (.ref rr)) (some (.int mo)) x7 x8) G := by
  refine ⟨_, (af (dv (bY (aX (aD K) (aA (Zs HU) (fv 1) (aq [106, 111, 117, 114, 110, 97, 108, 115]) (fun _ _ => rfl)) (fv 4) (fun _ _ => rfl)) T.dO T.qj G_Journal_put (hr.mono (by decide)) b_Journal_put .nil aC (FA.pa (aa (ao G__law_day (hr.mono (by decide)) rfl T.xS T.mq.kp b__law_day .nil aC (FA.pa (aa (ah aP (ao G__law_mixed (hr.mono (by decide)) rfl T.bc T.aQ.kp b__law_mixed .nil aC (FA.pa (aa (aX (aD K) (fv 0) (fv 3) (fun _ _ => rfl)) (aa ac ad)))) ac) (aa (fv 6) ad)))) (aa (aq []) (aa (fL (zK K) rfl T.vB pN (FA.pa (aa (fv 5) ad))) (aa uu ad)))))))
   (af (iz (ah xH (aX (aD K) (aA (Zs HU) (fv 1) (aq [114, 111, 119, 115]) (fun _ _ => rfl)) (fv 4) (fun _ _ => rfl)) (cB rfl (cl := _) (x := "_law_row") (xs := ["_law_row"]) (fr := ["_law_month_here"]) (ks := [6]) (by walk_at "cq") rfl (bQ K (fv 5)) (fun _ _ _ _ _ => (aI (i := 0) (dD (l := ["_law_row", "_law_month_here"]) (by decide)) rfl (Or.inl rfl))) (fun _ _ _ _ _ => cF) (fun _ _ _ _ _ => (ah CT (dQ (FA.pa (aa (fv 1) ad))) (fv 0))))) (n9 (aA (Zs HU) (fv 1) (aq [114, 111, 119, 115]) (fun _ _ => rfl)) (fv 4) il))
   hu5)), fun D m i at_ j c mo rr rs vs G x2 x7 x8 L i20 ha ej er aR lr hrs nw kk => ?_⟩
  have eS : atI (ns.map V.int) (j : Int) = some (.int c) := a9 (by rw [List.getElem?_map, ej]; rfl)
  have sG := hS.same L.sm
  obtain ⟨y, st, jx, hy, Y, yj, yr, ix, es, ln, lp, yb, sf⟩ := L.side ha
  obtain ⟨dj, ej2⟩ := Y.jb.at_.ob
  walk_at "rd"
  refine ⟨_, _, rfl, L.ms.gJours, _, _, .inl (SqL.of L.ms.jl), yj, ?_⟩
  walk_at "rd"
  refine ⟨_, _, ej2, E3 _ _, _, _, .inl sG, eS, ?_⟩
  walk_at "rd"
  refine ⟨L.nT, L.nT, fun d d1 d2 => ⟨vs, .inl (SqL.of er), fun r1 f1 => ?_⟩⟩
  obtain ⟨G1, ee, s1, g1, N1⟩ := bq (o := HO.lst vs) f1 L.nT rfl
  rw [ee]
  have L1 := L.same s1 N1
  have Y1 := Y.same s1
  have lb : y.bs.length = y.BM.length := by rw [Y.jb.bk.len]; exact zc _
  refine ⟨N1, y.b, y.u, y.bs, vs, Y1.jb.at_, by omega, g1, fun tq q G2 ft gt fq gq J2 K2 N2 => ?_⟩
  have A := L.ap
  have t2 := LW.one Y1.jb.at_.ls
  have k02 : Keep [y.b, m.rq] G G2 := (Keep.same s1).trans (K2.mono fun c hc => by rw [zr.mp hc]; exact .head _)
  obtain ⟨⟨kvs, ev, gv⟩, _, _, _, _, _, LW0, no0, nr0⟩ := L.ms.book A L.nm (b := y.b) (x := y.b) (by rcases hy y with ⟨e, _⟩ | ⟨e, _⟩ <;> rw [e]; exact .inl rfl; exact .inr rfl) k02
  have nbq : y.b ≠ m.rq := by
   have mu := A.mu
   simp only [nW, ze, yU, or_false, not_or] at mu
   rcases hy y with ⟨e, _⟩ | ⟨e, _⟩ <;> rw [e]
   ·exact Ne.symm mu.1.2.1
   ·exact Ne.symm mu.1.2.2
  have yr0 : y.r ∉ [y.b, m.rq] := nr0 _ (by rcases hy y with ⟨e, _⟩ | ⟨e, _⟩ <;> rw [e] <;> simp)
  have gRo : DGet G2 m.md (L2.T cj) (some (.ref m.rq)) := .inl ⟨_, .inr ⟨⟨cj⟩⟩, .inl ev, rfl, (gv (cj, .ref m.rq) (.tail _ (.tail _ (.tail _ (.head _))))).symm⟩
  have rl2 : G2 m.rq = some (.lst [.ref m.s.r, .ref m.t.r]) := K2 _ _ (s1 _ _ L.ms.rl) (n1 (Ne.symm nbq))
  have er2 : G2 rr = some (.lst vs) := K2 _ _ (s1 _ _ er) (n1 fun z => nw (by rw [z]; exact yb))
  have aR2 := iq (K2) t2 (iq (Keep.same (S := []) s1) LW.nil aR)
  refine ⟨_, _, rfl, gRo, _, _, .inl (SqL.of rl2), yr, v6 ?_⟩
  walk_at "rd"
  have lv := aR.len
  refine ⟨⟨_, SqL.of er2⟩, GK rr vs (vs.zip rs) (fun e => [some e.1]) (fun e => mk4 mo e.2) N2 er2 (by omega) (fun _ _ => rfl) ?_ ?_⟩
  ·refine (A2.zip aR2).imp fun x e _ _ h => ?_
   obtain ⟨rfl, q0, e0, eq0⟩ := h
   intro G3 R1 s3 N3
   refine ⟨fun zs hz r => ?_, fun R r => ?_⟩
   ·obtain ⟨z1, rfl⟩ := ex1 hz
    exact r
   ·rw [e0]
    walk_at "rd"
    refine ⟨by omega, fun p1 f1 => ?_⟩
    obtain ⟨G4, ee, s4, g4, N4⟩ := bq (o := HO.tup [V.int mo]) f1 N3 rfl
    rw [ee]
    exact ⟨_, _, g4, s4 _ _ (s3 _ _ eq0), by simp, by simp, by show 1 + 3 <= sizeLine; omega, fun p2 f2 => r p2 _ (s4.free f2) (s4.trans (az _ f2)) (aJ N4 rfl) aj⟩
  intro D1 vs' G3 fD1 s3 N3 gD1 aM
  have yr3 : G3 y.r = some (.lst y.vs) := s3 _ _ (k02 _ _ Y.r yr0)
  have lr' := Y.rw.len
  have lv' := aM.len
  rw [List.length_zip] at lv'
  refine ⟨_, _, yr3, gD1, by omega, fun p3 f3 => ?_⟩
  obtain ⟨G4, ee, s4, g4, N4⟩ := bq (o := HO.lst (y.vs ++ vs')) f3 N3 rfl
  rw [ee]
  have s24 := s3.trans s4
  have gRo4 : DGet G4 m.md (L2.T cj) (some (.ref m.rq)) := .inl ⟨_, .inr ⟨⟨cj⟩⟩, .inl (s24 _ _ ev), rfl, (gv (cj, .ref m.rq) (.tail _ (.tail _ (.tail _ (.head _))))).symm⟩
  refine ⟨_, _, rfl, gRo4, m.rq, _, at_, jx, rfl, rfl, s24 _ _ rl2, ix, ?_⟩
  obtain ⟨y', ey⟩ : ∃ y' : Sd, y' = { y with r := p3, vs := y.vs ++ vs', bs := y.bs ++ [.ref q], BM := y.BM ++ [(mo, ⟨y.bs.length, d, rs⟩)] } := ⟨_, rfl⟩
  have er' : y'.r = p3 := by rw [ey]
  have es' := es y'
  rw [er'] at es'
  rw [es']
  have k5 : Keep [m.rq] G2 (upd G4 m.rq (.lst [V.ref (st y').s.r, V.ref (st y').t.r])) := (Keep.same s24).put (.head _)
  have g5 : upd G4 m.rq (.lst [V.ref (st y').s.r, V.ref (st y').t.r]) m.rq = _ := aj
  have N5 : NoT (upd G4 m.rq (.lst [V.ref (st y').s.r, V.ref (st y').t.r])) := aJ N4 rfl
  have k4 : Keep [m.rq] G4 (upd G4 m.rq (.lst [V.ref (st y').s.r, V.ref (st y').t.r])) := Keep.refl.put (.head _)
  generalize upd G4 m.rq (.lst [V.ref (st y').s.r, V.ref (st y').t.r]) = G5 at k5 g5 N5 k4 |-
  have k05 : Keep [y.b, m.rq] G G5 := k02.trans (k5.mono fun c hc => by rw [zr.mp hc]; exact .tail _ (.head _))
  have t5 := LW.one rl2
  have np3 : p3 ≠ m.rq := Ne.symm (ai (s3 _ _ rl2) f3)
  obtain ⟨dj2, ej3⟩ := J2.ob
  have Rs : y'.R = y.R ++ rs.map fun r => (mo, r) := by
   rw [ey]
   show ((y.BM ++ [(mo, (⟨y.bs.length, d, rs⟩ : Bk))]).flatMap fun e => e.2.rs.map fun r => (e.1, r)) = _
   rw [List.flatMap_append]
   show y.R ++ (rs.map (fun r => (mo, r)) ++ []) = _
   rw [ZF]
  have Bs : y'.B = y.B ++ [⟨y.bs.length, d, rs⟩] := by
   rw [ey]
   show (y.BM ++ [(mo, (⟨y.bs.length, d, rs⟩ : Bk))]).map (·.2) = _
   rw [sY]; rfl
  have pl : ∀ r ∈ rs, r.pa.length <= 200 := fun r hr => by have := (L.nm.pk _ (hrs r hr)).len; omega
  have p0 : G p3 = none := s1.free (K2.free (s3.free f3) (n1 fun z => by
   have h := s3.free f3
   rw [z, J2.ls] at h; cases h))
  have Y' : SdAt a.av G5 y' := by
   refine ⟨by rw [er', ey]; exact k4 _ _ g4 (n1 np3), ?_, ?_, ?_⟩
   ·rw [Rs, ey]
    refine A2.app (Y.rw.imp fun v e _ _ h => by obtain ⟨q', rfl, e'⟩ := h; exact ⟨q', rfl, k05 _ _ e' (LW0.no e')⟩) ?_
    have aN : A2 (fun v r => R4At G5 v (mo, r)) vs' rs := A2.zipR lv aM fun v e h => by
     obtain ⟨q', rfl, _, e'⟩ := h
     exact ⟨q', rfl, k4 _ _ (s4 _ _ e') (n1 (cW (s4 _ _ e') (s24 _ _ rl2)))⟩
    exact A2.mapR aN
   ·rw [Bs, ey]
    refine ⟨J2.keep k5 (n1 (cW ej3 rl2)) (n1 nbq) (n1 (cW J2.dc rl2)), (qL k05 LW0 Y.jb.bk).snoc ⟨q, tq, vs, rfl, k5 _ _ gq (t5.no gq), k5 _ _ gt (t5.no gt), iq k5 t5 aR2⟩, fun b hb => ?_, ?_⟩
    ·rcases tD.mp hb with h | h
     ·exact Y.jb.ok b h
     ·rw [zr.mp h]
      exact ⟨by show rs.length <= 10; omega, pl⟩
    ·have e : y.B.length = y.BM.length := zc _
     rw [wz, t8]; omega
   ·rw [ey]
    intro e he
    rcases tD.mp he with h | h
    ·exact Y.dm e h
    ·rw [zr.mp h]; exact ⟨d1, d2⟩
  have q := b5 D (st y') (i + 1) at_ j c G5 x2 (some (.ref rr)) (some (.int mo)) x7 x8 (L.book (hy y') (by rw [ey]; exact ⟨rfl, rfl, rfl⟩) (by rw [er']; exact p0) k05 Y' g5 N5 ⟨?_, ?_⟩ ?_) (by omega) ha ej fun G' hs x7 x8 L' => ?_
  ·rw [(sf y').1] at q
   exact q
  ·rw [ey]
   show (y.BM ++ _).length <= _
   rw [wz, t8]; omega
  ·rw [Rs, wz, zc]; omega
  ·rw [Rs]
   intro e he
   rcases tD.mp he with h | h
   ·exact lp e h
   ·obtain ⟨r, hr, rfl⟩ := rf.mp h
    exact pl r hr
  ·rw [(sf y').1]
   exact kk G' _ _ _ x7 x8 L' (sf y').1 (sf y').2.1 (sf y').2.2
 obtain ⟨u3, hu3, b3⟩ := b3
 have b0 : ∃ u, PSs (d7 (XE P w) P w K mg base ["_law_script", "_law_made", "_law_whole_here", "_law_k", "_law_at", "_law_rows_here", "_law_month_here", "_law_one", "_law_other"] "law" (ae dy) a.jQ cdv A outer s H (gcE H E)) zh u /\ ∀ (D : fI) m (i : Nat) (j : Nat) (c : Int) G x2 x4 x5 x6 x7 x8, LI a.au a.aw a.av H G m i -> i <= 18 -> ns[j]? = some c ->
  (∀ G' m' x4 x5 x6 x7 x8, LI a.au a.aw a.av H G' m' (i + 2) -> m'.md = m.md -> m'.base = m.base -> m'.os = m.os -> D.nx (sig pS m.md x2 (some (.int j)) x4 x5 x6 x7 x8) G') ->
  u D (sig pS m.md x2 (some (.int j)) x4 x5 x6 x7 x8) G := by
  refine ⟨_, (af (aK (i := 4) ND rfl (Or.inl rfl) (ah aP (ah aO (aX (aD K) (fv 0) (fv 3) (fun _ _ => rfl)) ac) ac))
   (af (aK (i := 5) ND rfl (Or.inl rfl) (ao G__law_rows (hr.mono (by decide)) rfl T.vT T.jS.kp b__law_rows .nil aC (FA.pa (aa (ah aP (ao G__law_mixed (hr.mono (by decide)) rfl T.bc T.aQ.kp b__law_mixed .nil aC (FA.pa (aa (aX (aD K) (fv 0) (fv 3) (fun _ _ => rfl)) (aa ac ad)))) ac) (aa (aA (Zs HU) (fv 1) (aq [112, 97, 116, 104, 115]) (fun _ _ => rfl)) (aa (aA (Zs HU) (fv 1) (aq [99, 117, 114, 114, 101, 110, 99, 105, 101, 115]) (fun _ _ => rfl)) ad))))))
   (af (aK (i := 6) ND rfl (Or.inr rfl) (ah aH (aA (Zs HU) (fv 1) (aq [98, 97, 115, 101]) (fun _ _ => rfl)) (ah aO (ah aP (ao G__law_mixed (hr.mono (by decide)) rfl T.bc T.aQ.kp b__law_mixed .nil aC (FA.pa (aa (aX (aD K) (fv 0) (fv 3) (fun _ _ => rfl)) (aa ac ad)))) ac) ac)))
   hu3))), fun D m i j c G x2 x4 x5 x6 x7 x8 L i20 ej kk => ?_⟩
  have eS : atI (ns.map V.int) (j : Int) = some (.int c) := a9 (by rw [List.getElem?_map, ej]; rfl)
  have sG := hS.same L.sm
  walk_at "rd"
  refine ⟨_, _, .inl sG, eS, ?_⟩
  walk_at "rd"
  refine ⟨_, _, .inl sG, eS, ?_⟩
  walk_at "rd"
  have pl := L.nm.pl
  refine ⟨L.nT, _, _, rfl, L.ms.gPaths, _, _, rfl, L.ms.gCurs, ?_⟩
  walk_at "rd"
  refine ⟨L.nT, m.ps, m.cu, L.nm.pq, L.nm.cq, by omega, by omega, L.nm.cl, fun rs vs r G1 lr hrs fr er aR s1 N1 => ?_⟩
  have L1 := L.same s1 N1
  refine ⟨_, _, rfl, L1.ms.gBase, _, _, .inl (hS.same L1.sm), eS, ?_⟩
  walk_at "rd"
  have nw : r ∉ m.lv := fun z => by
   obtain ⟨o, e⟩ := L.al r z
   rw [fr] at e; cases e
  exact ⟨N1, b3 D m i _ j c _ r rs vs G1 x2 x7 x8 L1 i20 (by omega) ej er aR lr hrs nw fun G' m' x5 x6 x7 x8 L' h1 h2 h3 => kk G' m' _ x5 x6 x7 x8 L' h1 h2 h3⟩
 obtain ⟨ub, hub, b0⟩ := b0
 have c13 : ∃ u, PSs (d7 (XE P w) P w K mg base ["_law_script", "_law_made", "_law_whole_here", "_law_k", "_law_at", "_law_rows_here", "_law_month_here", "_law_one", "_law_other"] "law" (ae dy) a.jQ cdv A outer s H (gcE H E)) (ZL 10 (ay dy)) u /\ ∀ m (i : Nat) G x2 x3 x4 x5 x6 x7 x8, LI a.au a.aw a.av H G m i -> i <= 20 -> m.os.length <= 5 ->
  u { nx := fun _ H' => ∃ G, Gc H G H' /\ Q .non G, rt := fun v H' => ∃ G, Gc H G H' /\ Q v G } (sig pS m.md x2 x3 x4 x5 x6 x7 x8) G := by
  refine ⟨_, (af (bz (b8 (b_ (ao G__law_comes_then (hr.mono (by decide)) rfl T.nQ T.eA.kp b__law_comes_then .nil aC (FA.pa (aa (fv 1) ad))))) (ak (aG fW)) aV)
   (af (aK (i := 6) ND rfl (Or.inr rfl) (ah aH (aA (Zs HU) (fv 1) (aq [98, 97, 115, 101]) (fun _ _ => rfl)) ac))
   (af (bz (L2.PW.pt (pv (b8 (b_ (ao G__law_over (hr.mono (by decide)) rfl T.gE T.dt.kp b__law_over .nil aC (FA.pa (aa (fv 1) (aa ac (aa (fv 6) ad))))))) (pv (b8 (b_ (ao G__law_over (hr.mono (by decide)) rfl T.gE T.dt.kp b__law_over .nil aC (FA.pa (aa (fv 1) (aa ac (aa (fv 6) ad))))))) (lq (b8 (b_ (ao G__law_planned_well (hr.mono (by decide)) rfl T.fB T.cz.kp b__law_planned_well .nil aC (FA.pa (aa (fv 1) ad))))))))) (ak (aG fW)) aV)
   (ak (aG (aE (pO K rfl) rfl T.zq uZ (FA.pa (aa (cB rfl (cl := _) (x := "_law_pair") (xs := ["_law_pair"]) (fr := []) (ks := []) (by walk_at "cq") rfl (bQ K (aA (Zs HU) (fv 1) (aq [104, 101, 108, 100]) (fun _ _ => rfl))) (fun _ _ _ _ _ => (aI (i := 0) (dD (l := ["_law_pair"]) (by decide)) rfl (Or.inl rfl))) (fun _ _ _ _ _ => cF) (fun _ _ _ _ _ => (dF (bV K HU) (aX (aD K) (fv 0) ac (fun _ _ => rfl)) (aX (aD K) (fv 0) ac (fun _ _ => rfl)) (a_ _)))) ad)))))))), fun m i G x2 x3 x4 x5 x6 x7 x8 L i20 ol => ?_⟩
  walk_at "rd"
  refine ⟨L.nT, m, rfl, L.ms, L.ap, L.nm, ol, L.y0 (by omega), fun G1 os la M1 A1 N1 k1 n1 => ?_⟩
  obtain ⟨m1, L1, em1⟩ : ∃ m1, LI a.au a.aw a.av H G1 m1 i /\ m1.md = m.md := ⟨_, L.buds M1 A1 N1 k1 n1, rfl⟩
  have gB := L1.ms.gBase
  rw [em1] at gB
  refine ⟨_, _, rfl, gB, ?_⟩
  walk_at "rd"
  refine ⟨n1, m1, m1.s, em1, L1.ms, L1.ap, L1.nm.td, L1.y0 (by omega), .inl rfl, L1.nm.hh, by have := L1.lh; omega, fun G2 v2 e2 k2 n2 h2 => ?_⟩
  obtain ⟨m2, L2, em2⟩ : ∃ m2, LI a.au a.aw a.av H G2 m2 (i + 1) /\ m2.md = m.md := ⟨_, L1.over e2 k2 n2 h2, em1⟩
  refine ⟨n2, m2, m2.t, em2, L2.ms, L2.ap, L2.nm.td, L2.y1 (by omega), .inr rfl, L2.nm.hh, by have := L2.lh; omega, fun G3 v3 e3 k3 n3 h3 => ?_⟩
  obtain ⟨m3, L3, em3⟩ : ∃ m3, LI a.au a.aw a.av H G3 m3 (i + 2) /\ m3.md = m.md := ⟨_, L2.over e3 k3 n3 h3, em2⟩
  have gH := L3.ms.gHeld
  rw [em3] at gH
  refine ⟨n3, m3, em3, L3.ms, L3.ap, L3.nm.td, cmL m3.hq m3.hs (fun H' => NoT H' /\ Same G3 H') (fun D ys hD => ⟨aJ n3 rfl, az _ hD⟩) (fun H' c => SqL.of (c.2 _ _ L3.nm.hh)) (fun _ => true) (fun _ => .bl true) (fun R r => ?_) (SqL.of L3.nm.hh) (by have := L3.lh; omega) (fun x _ H' R _ r => r) (fun x hx _ H' R cc r => ?_) (fun D2 hD2 => ?_)⟩
  ·walk_at "rd"
   exact ⟨_, _, rfl, gH, r⟩
  ·obtain ⟨q, c, d, xs, ys, es, rfl, f, h1, h2, h3, t1, t2, fl⟩ := L3.hd x hx
   have q1 := cc.2 _ _ h1
   walk_at "rd"
   refine ⟨_, _, .inl (SqL.of q1), a9 (j := 0) rfl, _, _, .inl (SqL.of q1), a9 (j := 1) rfl, ?_⟩
   walk_at "rd"
   exact ⟨true, xZ (cc.2 _ _ h2) (cc.2 _ _ h3) (TpAt.same t1 cc.2) (TpAt.same t2 cc.2) fl, r⟩
  ·walk_at "rd"
   refine ⟨m3.hs.map fun _ => true, SqL.of (aj.trans (by rw [pb.mpr (by simp), vD]; rfl)), H, Gc.none (L3.sm.trans (az _ hD2)), ?_⟩
   have e : (m3.hs.map fun _ => true).all id = true := by simp
   rw [e]; exact k
 obtain ⟨u10, hu10, c10⟩ := c13
 have c7 : ∃ u, PSs (d7 (XE P w) P w K mg base ["_law_script", "_law_made", "_law_whole_here", "_law_k", "_law_at", "_law_rows_here", "_law_month_here", "_law_one", "_law_other"] "law" (ae dy) a.jQ cdv A outer s H (gcE H E)) (ZL 7 (ay dy)) u /\ ∀ m G x2, LI a.au a.aw a.av H G m 0 -> m.os = [] ->
  u { nx := fun _ H' => ∃ G, Gc H G H' /\ Q .non G, rt := fun v H' => ∃ G, Gc H G H' /\ Q v G } (sig pS m.md x2 none none none none none none) G := by
  refine ⟨_, (af (dv (ao G__law_budgets (hr.mono (by decide)) rfl T.qy T.fY.kp b__law_budgets .nil aC (FA.pa (aa (fv 0) (aa (fv 1) ad)))))
   (af (bz (b8 (b_ (ao G__law_planned_well (hr.mono (by decide)) rfl T.fB T.cz.kp b__law_planned_well .nil aC (FA.pa (aa (fv 1) ad))))) (ak (aG fW)) aV)
   (af (eh (by passes_own) rfl (tF rfl T.dI (FA.pa (aa ac (aa (aE (ya rfl) rfl T.AL xP (FA.pa (aa (aE (dM K) rfl T.iQ fh (FA.pa (aa (fv 0) ad))) (aa ac ad)))) ad)))) (aI (i := 3) ND rfl (Or.inl rfl)) hub)
   hu10))), fun m G x2 L eo => ?_⟩
  walk_at "rd"
  have f2 : ∀ x ∈ [m.d, m.tq], H x = none := fun x hx => L.fr x (by
   rcases ze.mp hx with rfl | hx
   ·exact .head _
   ·rw [zr.mp hx]; exact .tail _ (.head _))
  refine ⟨L.nT, ns, m, rfl, fun H' kp => hS.same (j_ L.sm kp f2), L.ms, L.ap, L.nm, eo, fun G1 os la M1 A1 N1 lo k1 n1 => ?_⟩
  obtain ⟨m1, L1, em1, eo1⟩ : ∃ m1, LI a.au a.aw a.av H G1 m1 0 /\ m1.md = m.md /\ m1.os = os := ⟨_, L.buds M1 A1 N1 k1 n1, rfl, rfl⟩
  refine ⟨n1, m1, em1, L1.ms, L1.ap, L1.nm.td, AD ?_⟩
  walk_at "rd"
  have hS1 := hS.same L1.sm
  refine ⟨_, .inl hS1, ?_⟩
  rw [zc]
  refine ⟨_, _, ⟨rfl, rfl⟩, by split <;> omega, eI (lo := 6) (n := ((if 14 < (ns.length : Int) then 14 else (ns.length : Int)) - 6).toNat) (fun i σ' G => ∃ m' x3 x4 x5 x6 x7 x8, LI a.au a.aw a.av H G m' (2 * i) /\ m'.md = m.md /\ m'.os.length <= 5 /\ σ' = sig pS m.md x2 x3 x4 x5 x6 x7 x8) ⟨m1, none, none, none, none, none, none, L1, em1, by rw [eo1]; exact lo, rfl⟩ ?_ ?_⟩
  ·rintro i σ' G hi ⟨m', x3, x4, x5, x6, x7, x8, L', em', lo', rfl⟩
   have hi8 : i < 8 /\ 6 + i < ns.length := by
    revert hi; split <;> omega
   have ej := List.getElem?_eq_getElem hi8.2
   have ec : (6 : Int) + (i : Int) = ((6 + i : Nat) : Int) := by omega
   walk_at "rd"
   rw [ec, <- em']
   exact b0 _ m' (2 * i) (6 + i) _ G x2 x4 x5 x6 x7 x8 L' (by omega) ej fun G' m2 x4 x5 x6 x7 x8 L2 h1 h2 h3 => ⟨m2, _, x4, x5, x6, x7, x8, L2, h1, by rw [h3]; exact lo', rfl⟩
  ·rintro σ' G ⟨m', x3, x4, x5, x6, x7, x8, L', em', lo', rfl⟩
   rw [<- em']
   refine c10 m' _ G x2 x3 x4 x5 x6 x7 x8 L' ?_ lo'
   split <;> omega
 obtain ⟨u7, hu7, c7⟩ := c7
 have c4 : ∃ u, PSs (d7 (XE P w) P w K mg base ["_law_script", "_law_made", "_law_whole_here", "_law_k", "_law_at", "_law_rows_here", "_law_month_here", "_law_one", "_law_other"] "law" (ae dy) a.jQ cdv A outer s H (gcE H E)) (ZL 4 (ay dy)) u /\ ∀ (md p d tq rq r0 r1 hq nq : Addr) (bas : Int) (nms : List (List Nat)) G x2, Pre a.au a.aw H G md p d tq rq r0 r1 hq bas [(cT, .int bas), (be, .ref p), (bL, .ref tq), (cj, .ref rq), (eZ, .ref hq), (cG, .ref nq)] 7 -> G nq = some (.lst (nms.map L2.T)) -> nms.length = 7 -> nms.Nodup -> (∀ l ∈ nms, nm l = true) -> nq ∉ [rq, hq] -> u { nx := fun _ H' => ∃ G, Gc H G H' /\ Q .non G, rt := fun v H' => ∃ G, Gc H G H' /\ Q v G } (sig pS md x2 none none none none none none) G := by
  refine ⟨_, (af (eW (Zs HU) (fv 1) (aq [112, 97, 116, 104, 115]) (ao G__law_paths (hr.mono (by decide)) rfl T.uD T.iC.kp b__law_paths .nil aC (FA.pa (aa (fv 0) (aa (ah aH ac (ah aO (ah aP (ao G__law_cell_at (hr.mono (by decide)) rfl T.bi T.aU.kp b__law_cell_at .nil aC (FA.pa (aa (fv 0) (aa ac ad)))) ac) ac)) ad)))) rfl)
   (af (eW (Zs HU) (fv 1) (aq [99, 117, 114, 114, 101, 110, 99, 105, 101, 115]) (ao G__law_currencies (hr.mono (by decide)) rfl T.nv T.eg.kp b__law_currencies .nil aC (FA.pa (aa (ao G__law_cell_at (hr.mono (by decide)) rfl T.bi T.aU.kp b__law_cell_at .nil aC (FA.pa (aa (fv 0) (aa ac ad)))) ad))) rfl)
   (af (eW (Zs HU) (fv 1) (aq [106, 111, 117, 114, 110, 97, 108, 115]) (cw (FA.pa (aa (oo T.qd G_Journal___init__ (hr.mono (by decide)) rfl T.s_ b_Journal___init__ .nil aC) (aa (oo T.qd G_Journal___init__ (hr.mono (by decide)) rfl T.s_ b_Journal___init__ .nil aC) ad)))) rfl)
   hu7))), fun md p d tq rq r0 r1 hq nq bas nms G x2 R gn ln nd' nn nnq => ?_⟩
  have sG := hS.same R.sm
  walk_at "rd"
  refine ⟨ns, sG, R.nT, ns, sG, ⟨by omega, by omega⟩, fun ps pq pk l2 l10 fp => ?_⟩
  obtain ⟨G1, ee, s1, g1, N1⟩ := bq (o := HO.lst (ps.map L2.T)) fp R.nT rfl
  rw [ee]
  have npq : pq ∉ [rq, hq] := R.nw fp
  obtain ⟨G2, P2, R2, k2⟩ := (R.same s1 N1).put (key := iJ) (v := .ref pq) (tbl' := [(cT, .int bas), (be, .ref p), (bL, .ref tq), (cj, .ref rq), (eZ, .ref hq), (cG, .ref nq), (iJ, .ref pq)]) (by decide) (by simp [cT, be, bL, cj, eZ, cG, iJ])
  refine ⟨md, G2, rfl, P2, ns, hS.same R2.sm, R2.nT, fun cu lc ck cq fc => ?_⟩
  obtain ⟨G3, ee, s3, g3, N3⟩ := bq (o := HO.lst (cu.map L2.T)) fc R2.nT rfl
  rw [ee]
  have ncq : cq ∉ [rq, hq] := R2.nw fc
  obtain ⟨G4, P4, R4, k4⟩ := (R2.same s3 N3).put (key := qD) (v := .ref cq) (tbl' := [(cT, .int bas), (be, .ref p), (bL, .ref tq), (cj, .ref rq), (eZ, .ref hq), (cG, .ref nq), (iJ, .ref pq), (qD, .ref cq)]) (by decide) (by simp [cT, be, bL, cj, eZ, cG, iJ, qD])
  refine ⟨md, G4, rfl, P4, ?_⟩
  intro x1 dx1 fx1 fdx1 ne1
  refine ⟨aJ (aJ R4.nT rfl) rfl, dx1, aj, fun b1 w1 G5 fb1 fu1 J1 kp1 n5 => ?_⟩
  have s5 : Same G4 G5 := fun c z e => oN fx1 fdx1 kp1 c z e yU
  have fb1 := ie fb1
  have fu1 := ie fu1
  clear kp1
  have R5 := R4.same s5 n5
  intro y2 dx2 fx2 fdx2 ne2
  refine ⟨aJ (aJ n5 rfl) rfl, dx2, aj, fun b2 w2 G6 fb2 fu2 J2 kp2 n6 => ?_⟩
  have s6 : Same G5 G6 := fun c z e => oN fx2 fdx2 kp2 c z e yU
  have fb2 := ie fb2
  have fu2 := ie fu2
  clear kp2
  have R6 := R5.same s6 n6
  refine ⟨by omega, fun jq fj => ?_⟩
  obtain ⟨G7, ee, s7, g7, N7⟩ := bq (o := HO.lst [V.ref x1, V.ref y2]) fj n6 rfl
  rw [ee]
  have R7 := R6.same s7 N7
  obtain ⟨G8, P8, R8, k8⟩ := R7.put (key := rK) (v := .ref jq) (tbl' := [(cT, .int bas), (be, .ref p), (bL, .ref tq), (cj, .ref rq), (eZ, .ref hq), (cG, .ref nq), (iJ, .ref pq), (qD, .ref cq), (rK, .ref jq)]) (by decide) (by simp [cT, be, bL, cj, eZ, cG, iJ, qD, rK])
  refine ⟨md, G8, rfl, P8, ?_⟩
  obtain ⟨kv1, e1, _⟩ := (R.same s1 N1).kv
  obtain ⟨kv3, e3, _⟩ := (R2.same s3 N3).kv
  obtain ⟨kv7, e7, _⟩ := R7.kv
  have m2 : ∀ {y : Addr} {l : List V}, G1 y = some (.lst l) -> G2 y = some (.lst l) := fun e => k2 _ _ e (n1 (cW e e1))
  have m4 : ∀ {y : Addr} {l : List V}, G3 y = some (.lst l) -> G4 y = some (.lst l) := fun e => k4 _ _ e (n1 (cW e e3))
  have m8 : ∀ {y : Addr} {l : List V}, G7 y = some (.lst l) -> G8 y = some (.lst l) := fun e => k8 _ _ e (n1 (cW e e7))
  have s57 := s6.trans s7
  have s47 := s5.trans s57
  have gn4 := m4 (s3 _ _ (m2 (s1 _ _ gn)))
  have gp4 := m4 (s3 _ _ (m2 g1))
  have gc4 := m4 g3
  obtain ⟨kv4, e4, _⟩ := R4.kv
  have nw1 : md ≠ w1 := ai e4 fu1
  have nw2 : md ≠ w2 := ai (s5 _ _ e4) fu2
  have JA : ∀ {x b u : Addr}, JAt a.av G7 x b u [] -> md ≠ u -> JAt a.av G8 x b u [] := fun j n => by
   obtain ⟨dz, ez⟩ := j.ob
   exact j.keep k8 (n1 (cW ez e7)) (n1 (cW j.ls e7)) (n1 (Ne.symm n))
  have J18 := JA (J1.same s57) nw1
  have J28 := JA (J2.same s7) nw2
  have nd := R.nd
  simp only [nW, ze, yU, or_false, not_or] at nd nnq npq ncq
  refine c7 { md := md, base := bas, p := p, d := d, os := [], tq := tq, la := fun _ => md, rq := rq, hq := hq, hs := [], nq := nq, nms := nms, pq := pq, ps := ps, cq := cq, cu := cu, jq := jq, s := ⟨r0, x1, b1, w1, [], [], []⟩, t := ⟨r1, y2, b2, w2, [], [], []⟩ } G8 x2 ⟨R8.sm, R8.nT, ⟨?_, R8.bu, .inl R8.tk, (fun _ z => nomatch z), (fun _ z => nomatch z), by show 0 <= 7; decide, R8.rl, m8 g7, ⟨R8.g0, .nil, ⟨J18, .nil, (fun _ z => nomatch z), by show 0 <= 50; decide⟩, (fun _ z => nomatch z)⟩, ⟨R8.g1, .nil, ⟨J28, .nil, (fun _ z => nomatch z), by show 0 <= 50; decide⟩, (fun _ z => nomatch z)⟩⟩, ⟨?_, ?_, ?_, ?_⟩, ⟨m8 (s47 _ _ gn4), ln, nd', nn, m8 (s47 _ _ gp4), ⟨l2, l10⟩, pk, m8 (s47 _ _ gc4), lc, ck, R.bs, R8.hh, R8.tk, (fun _ z => nomatch z)⟩, ?_, (fun _ z => nomatch z), ⟨zM _, zM _⟩, ⟨zM _, zM _⟩, zM _, (fun _ z => nomatch z), (fun _ z => nomatch z)⟩ rfl
  ·obtain ⟨kvs, e, _, g⟩ := R8.kv
   exact ⟨kvs, e, g⟩
  ·show d ∉ [md, tq, w1, w2]
   simp only [ze, yU, or_false, not_or]
   exact ⟨Ne.symm nd.1.1.1, nd.1.2.1, ai R4.bu.dc fu1, ai R5.bu.dc fu2⟩
  ·show tq ∉ [md, d, w1, w2]
   simp only [ze, yU, or_false, not_or]
   exact ⟨Ne.symm nd.1.1.2, Ne.symm nd.1.2.1, ai R4.tk fu1, ai R5.tk fu2⟩
  ·show [rq, hq, b1, b2].Nodup
   simp only [nW, ze, yU, or_false, not_or, not_false_eq_true, List.nodup_nil, and_true]
   exact ⟨⟨nd.2.1.2.2, ai R4.rl fb1, ai R5.rl fb2⟩, ⟨ai R4.hh fb1, ai R5.hh fb2⟩, ai J1.ls fb2⟩
  ·intro x hx
   refine ⟨?_, fun _ z => nomatch z⟩
   show x ∉ [r0, r1, nq, pq, cq, jq]
   change x ∈ [rq, hq, b1, b2] at hx
   simp only [ze, yU, or_false, not_or] at hx |-
   rcases hx with rfl | rfl | rfl | rfl
   ·exact ⟨nd.2.1.1, nd.2.1.2.1, Ne.symm nnq.1, Ne.symm npq.1, Ne.symm ncq.1, ai R6.rl fj⟩
   ·exact ⟨nd.2.2.1, nd.2.2.2, Ne.symm nnq.2, Ne.symm npq.2, Ne.symm ncq.2, ai R6.hh fj⟩
   ·exact ⟨Ne.symm (ai R4.g0 fb1), Ne.symm (ai R4.g1 fb1), Ne.symm (ai gn4 fb1), Ne.symm (ai gp4 fb1), Ne.symm (ai gc4 fb1), ai (s6 _ _ J1.ls) fj⟩
   ·exact ⟨Ne.symm (ai R5.g0 fb2), Ne.symm (ai R5.g1 fb2), Ne.symm (ai (s5 _ _ gn4) fb2), Ne.symm (ai (s5 _ _ gp4) fb2), Ne.symm (ai (s5 _ _ gc4) fb2), ai J2.ls fj⟩
  ·intro x hx
   change x ∈ [d, tq, rq, hq, b1, b2] at hx
   simp only [ze, yU, or_false] at hx
   rcases hx with rfl | rfl | rfl | rfl | rfl | rfl
   ·exact R.fr _ (by simp)
   ·exact R.fr _ (by simp)
   ·exact R.fr _ (by simp)
   ·exact R.fr _ (by simp)
   ·exact R4.sm.free fb1
   ·exact R5.sm.free fb2
 obtain ⟨u4, hu4, c4⟩ := c4
 have c3 : ∃ u, PSs (d7 (XE P w) P w K mg base ["_law_script", "_law_made", "_law_whole_here", "_law_k", "_law_at", "_law_rows_here", "_law_month_here", "_law_one", "_law_other"] "law" (ae dy) a.jQ cdv A outer s H (gcE H E)) (ZL 3 (ay dy)) u /\ ∀ (md p d tq rq r0 r1 hq nq : Addr) (bas c : Int) G, Pre a.au a.aw H G md p d tq rq r0 r1 hq bas [(cT, .int bas), (be, .ref p), (bL, .ref tq), (cj, .ref rq), (eZ, .ref hq), (cG, .ref nq)] 6 -> G nq = some (.lst ((xp 7).map fun k => L2.T (K17.nms c k))) -> nq ∉ [rq, hq] -> u { nx := fun _ H' => ∃ G, Gc H G H' /\ Q .non G, rt := fun v H' => ∃ G, Gc H G H' /\ Q v G } (sig pS md none none none none none none none) G := by
  refine ⟨_, (af (bz (bE (bV K HU) (ah aO (ao G__law_cell_at (hr.mono (by decide)) rfl T.bi T.aU.kp b__law_cell_at .nil aC (FA.pa (aa (fv 0) (aa ac ad)))) ac) ac (a_ _)) (af (aK (i := 2) ND rfl (Or.inr rfl) (dC lX (ah aH (aX (aD K) (aA (Zs HU) (fv 1) (aq [110, 97, 109, 101, 115]) (fun _ _ => rfl)) ac (fun _ _ => rfl)) (aq [97, 98, 99, 100, 101, 102, 103, 104])) eV (eU ac)))
   (ak (eW (Zs HU) (fv 1) (aq [110, 97, 109, 101, 115]) (cB rfl (cl := _) (x := "_law_k") (xs := ["_law_k"]) (fr := ["_law_whole_here"]) (ks := [2]) (by walk_at "cq") rfl (cU rfl T.dI (FA.pa (aa ac ad))) (fun _ _ _ _ _ => (aI (i := 0) (dD (l := ["_law_k", "_law_whole_here"]) (by decide)) rfl (Or.inl rfl))) (fun _ _ _ _ _ => cF) (fun _ _ _ _ _ => (dC lX (fv 1) eV (eU (ah aH ac (fv 0)))))) rfl))) aV)
   hu4), fun md p d tq rq r0 r1 hq nq bas c G R gn nnq => ?_⟩
  have sG := hS.same R.sm
  walk_at "rd"
  refine ⟨ns, sG, ?_⟩
  by_cases h : ns.getD (Z1 3) 0 % 2 = 1
  case neg =>
   refine itn h (c4 md p d tq rq r0 r1 hq nq bas ((xp 7).map fun k => K17.nms c k) G none (R.more (by decide)) (gn.trans (by rw [vD]; rfl)) (by rw [zc, Yv]) (vJ fun k j hk hj e => Dr hk hj e) (fun l hl => ?_) nnq)
   obtain ⟨k, _, rfl⟩ := rf.mp hl
   exact xD c k
  obtain ⟨kvs, ek, _, gk⟩ := R.kv
  have gN : DGet G md (L2.T cG) (some (.ref nq)) := .inl ⟨_, .inr ⟨⟨cG⟩⟩, .inl ek, rfl, (gk (cG, .ref nq) (by simp)).symm⟩
  refine itp h ⟨_, _, rfl, gN, _, _, .inl (SqL.of gn), a9 (j := 0) rfl, ?_⟩
  have ln := K17.mh (c := c) (k := 0)
  walk_at "rd"
  rw [nV (by decide), show Z1 12 = 12 from rfl]
  obtain ⟨bn, bk⟩ := FJ (c := c)
  have l12 : (List.take 12 (K17.nms c 0 ++ [97, 98, 99, 100, 101, 102, 103, 104])).length <= 12 := List.length_take_le ..
  refine ⟨by omega, by rw [wz]; show _ + 8 <= _; omega, ?_⟩
  generalize List.take 12 (K17.nms c 0 ++ [97, 98, 99, 100, 101, 102, 103, 104]) = wl at bn bk l12 |-
  refine cmR (fun H' => NoT H' /\ Same G H') (fun D ys hD => ⟨aJ R.nT rfl, az _ hD⟩) 7 (fun _ => true) (fun j : Nat => L2.T (wl.take (1 + j))) (fun R r => ?_) (by omega) (fun j hj H' R _ r => r) (fun j hj _ H' R cc r => ?_) (fun nq2 fq => ?_)
  ·walk_at "rd"
   exact r
  ·walk_at "rd"
   rw [nV (by omega), show ((1 : Int) + (j : Int)).toNat = 1 + j by omega]
   exact ⟨by omega, r⟩
  have ev : List.map (fun j : Nat => L2.T (wl.take (1 + j))) (List.filter (fun _ => true) (xp 7)) = ((xp 7).map fun j : Nat => wl.take (1 + j)).map L2.T := by
   rw [pb.mpr (by simp), vD]; rfl
  rw [ev]
  obtain ⟨G1, ee, s1, g1, N1⟩ := bq (o := HO.lst (((xp 7).map fun j : Nat => wl.take (1 + j)).map L2.T)) fq R.nT rfl
  rw [ee]
  have R1 := R.same s1 N1
  obtain ⟨kv1, e1, _⟩ := R1.kv
  obtain ⟨G2, P2, R2, k2⟩ := R1.put (key := cG) (v := .ref nq2) (tbl' := [(cT, .int bas), (be, .ref p), (bL, .ref tq), (cj, .ref rq), (eZ, .ref hq), (cG, .ref nq2)]) (by decide) (by simp [cT, be, bL, cj, eZ, cG])
  exact ⟨md, G2, rfl, P2, c4 md p d tq rq r0 r1 hq nq2 bas _ G2 _ R2 (k2 _ _ g1 (n1 (cW g1 e1))) (by rw [zc, Yv]) bn bk (R.nw fq)⟩
 obtain ⟨u3, hu3', c3⟩ := c3
 refine ⟨hN, _, (af (aK (i := 1) ND rfl (Or.inl rfl) (CW (mL (aq [98, 97, 115, 101]) (ah aO (ao G__law_cell_at (hr.mono (by decide)) rfl T.bi T.aU.kp b__law_cell_at .nil aC (FA.pa (aa (fv 0) (aa ac ad)))) ac) (mL (aq [98, 117, 100, 103, 101, 116, 115]) (oo T.ym G_Budgets___init__ (hr.mono (by decide)) rfl T.zW b_Budgets___init__ .nil aC) (mL (aq [116, 101, 114, 109, 115]) uq (mL (aq [114, 111, 119, 115]) (cw (FA.pa (aa (cw (FA.pa ad)) (aa (cw (FA.pa ad)) ad)))) CN)))) rfl rfl (by simp) (by decide)))
  (af (eW (Zs HU) (fv 1) (aq [104, 101, 108, 100]) (cw (FA.pa ad)) rfl)
  (af (eW (Zs HU) (fv 1) (aq [110, 97, 109, 101, 115]) (ao G__law_names (hr.mono (by decide)) rfl T.mJ T.d9.kp b__law_names .nil aC (FA.pa (aa (ao G__law_cell_at (hr.mono (by decide)) rfl T.bi T.aU.kp b__law_cell_at .nil aC (FA.pa (aa (fv 0) (aa ac ad)))) ad))) rfl)
  hu3'))), ?_⟩
 walk_at "rd"
 refine fun md fmd => ?_
 simp only [vt]
 walk_at "rd"
 obtain ⟨H1, ee, s1, g1, N1⟩ := bq (o := HO.dK []) fmd hN rfl
 rw [ee]
 refine ⟨ns, hS.same s1, fun p dxp fx fdx ne => ⟨aJ (aJ N1 rfl) rfl, dxp, aj, fun d H2 fd bu kp N2 => ?_⟩⟩
 have s2 : Same H1 H2 := fun c z e => oN fx fdx kp c z e yU
 have fd := ie fd
 clear kp
 refine fun tq ftq => ?_
 obtain ⟨H3, ee, s3, g3, N3⟩ := bq (o := HO.dK []) ftq N2 rfl
 rw [ee]
 refine ⟨o3 _, fun r0 f0 => ?_⟩
 obtain ⟨H4, ee, s4, g4, N4⟩ := bq (o := HO.lst []) f0 N3 rfl
 rw [ee]
 refine ⟨o3 _, fun r1 f1 => ?_⟩
 obtain ⟨H5, ee, s5, g5, N5⟩ := bq (o := HO.lst []) f1 N4 rfl
 rw [ee]
 refine ⟨by omega, fun rq frq => ?_⟩
 obtain ⟨H6, ee, s6, g6, N6⟩ := bq (o := HO.lst [V.ref r0, V.ref r1]) frq N5 rfl
 rw [ee]
 have s35 := s4.trans s5
 have s36 := s35.trans s6
 have s26 := s3.trans s36
 have s16 := s2.trans s26
 have e6 := s16 _ _ g1
 obtain ⟨bas, eb⟩ : ∃ bas, ns.getD (Z1 0) 0 % 4793 = bas := ⟨_, rfl⟩
 rw [eb]
 refine ⟨e6, [(.inr ⟨⟨cT⟩⟩, .int bas), (.inr ⟨⟨be⟩⟩, .ref p), (.inr ⟨⟨bL⟩⟩, .ref tq), (.inr ⟨⟨cj⟩⟩, .ref rq)], rfl, (show 4 <= 15 by decide), o3 _, ?_⟩
 have hv : ∀ e ∈ [(cT, V.int bas), (be, .ref p), (bL, .ref tq), (cj, .ref rq)], dS (jo [] [((.inr ⟨⟨cT⟩⟩ : Key), V.int bas), (.inr ⟨⟨be⟩⟩, .ref p), (.inr ⟨⟨bL⟩⟩, .ref tq), (.inr ⟨⟨cj⟩⟩, .ref rq)]) (.inr ⟨⟨e.1⟩⟩) = some e.2 := by
  intro e he
  simp only [ze, yU, or_false] at he
  rcases he with rfl | rfl | rfl | rfl <;> simp [jo, vU, cT, be, bL, cj]
 have hl4 := hU [((.inr ⟨⟨cT⟩⟩ : Key), V.int bas), (.inr ⟨⟨be⟩⟩, .ref p), (.inr ⟨⟨bL⟩⟩, .ref tq), (.inr ⟨⟨cj⟩⟩, .ref rq)] []
 generalize jo [] [((.inr ⟨⟨cT⟩⟩ : Key), V.int bas), (.inr ⟨⟨be⟩⟩, .ref p), (.inr ⟨⟨bL⟩⟩, .ref tq), (.inr ⟨⟨cj⟩⟩, .ref rq)] = kv at hv hl4 |-
 have k7 : Keep [md] H6 (upd H6 md (.dK kv)) := Keep.refl.put (.head _)
 have g7 : upd H6 md (.dK kv) md = _ := aj
 have N7 : NoT (upd H6 md (.dK kv)) := aJ N6 rfl
 generalize upd H6 md (.dK kv) = H7 at k7 g7 N7 |-
 intro hq fhq
 have no : ∀ {y : Addr} {o : HO}, H6 y = some o -> (∀ l, o ≠ .dK l) -> y ∉ [md] := fun e n => n1 (cW e e6 (n _))
 have bu6 := bu.same s26
 obtain ⟨dz, ep⟩ := bu6.ob
 have n1d : md ≠ d := ai g1 fd
 have n1t : md ≠ tq := ai (s2 _ _ g1) ftq
 have g6' : ∀ {y : Addr} {l : List V}, H6 y = some (.lst l) -> H7 y = some (.lst l) := fun e => k7 _ _ e (no e (by intro _ z; cases z))
 have S16 := s1.trans s16
 have sm7 : Same H H7 := j_ S16 k7 fun x hx => by rw [zr.mp hx]; exact fmd
 have S12 := s1.trans s2
 obtain ⟨H8, ee, s8, g8, N8⟩ := bq (o := HO.lst []) fhq N7 rfl
 rw [ee]
 have rl7 := g6' g6
 have r07 := g6' (s6 _ _ (s5 _ _ g4))
 have r17 := g6' (s6 _ _ g5)
 have R8 : Pre a.au a.aw H H8 md p d tq rq r0 r1 hq bas [(cT, .int bas), (be, .ref p), (bL, .ref tq), (cj, .ref rq)] 4 := by
  refine ⟨sm7.trans s8, N8, ⟨kv, s8 _ _ g7, hl4, hv⟩, (bu6.keep k7 (no ep (by intro _ z; cases z)) (n1 (Ne.symm n1d)) fun _ z => nomatch z).same s8, s8 _ _ (k7 _ _ (s36 _ _ g3) (n1 (Ne.symm n1t))), s8 _ _ rl7, s8 _ _ r07, s8 _ _ r17, g8, ?_, ?_, by omega⟩
  ·intro x hx
   simp only [ze, yU, or_false] at hx
   rcases hx with rfl | rfl | rfl | rfl | rfl
   ·exact fmd
   ·exact s1.free fd
   ·exact S12.free ftq
   ·exact S12.free (s3.free (s35.free frq))
   ·exact sm7.free fhq
  ·simp only [nW, ze, yU, or_false, not_or, not_false_eq_true, List.nodup_nil, and_true]
   exact ⟨⟨⟨n1d, n1t⟩, ai bu.dc ftq⟩, ⟨Ne.symm (ai (s5 _ _ g4) frq), Ne.symm (ai g5 frq), ai rl7 fhq⟩, Ne.symm (ai r07 fhq), Ne.symm (ai r17 fhq)⟩
 obtain ⟨H9, P9, R9, k9⟩ := R8.put (key := eZ) (v := .ref hq) (tbl' := [(cT, .int bas), (be, .ref p), (bL, .ref tq), (cj, .ref rq), (eZ, .ref hq)]) (by decide) (by simp [cT, be, bL, cj, eZ])
 refine ⟨md, H9, rfl, P9, ns, hS.same R9.sm, R9.nT, fun nq fnq => ?_⟩
 obtain ⟨H10, ee, s10, g10, N10⟩ := bq (o := HO.lst (List.map (fun k => L2.T (K17.nms (ns.getD (Z1 1) 0) k)) (xp 7))) fnq R9.nT rfl
 rw [ee]
 have R10 := R9.same s10 N10
 obtain ⟨kv1, e1, _⟩ := R10.kv
 obtain ⟨H11, P11, R11, k11⟩ := R10.put (key := cG) (v := .ref nq) (tbl' := [(cT, .int bas), (be, .ref p), (bL, .ref tq), (cj, .ref rq), (eZ, .ref hq), (cG, .ref nq)]) (by decide) (by simp [cT, be, bL, cj, eZ, cG])
 exact ⟨md, H11, rfl, P11, c3 md p d tq rq r0 r1 hq nq bas _ H11 R11 (k11 _ _ g10 (n1 (cW g10 e1))) (R9.nw fnq)⟩
theorem law_starts {H : Hp} {p : Addr} (hO : Ak H) (hS : SqL K H p (ns.map V.int)) (hl : ns.length <= 63) : sp_law K [.ref p] H (fun v _ => v = .bl true) fun _ _ _ => False := ⟨Bo hO, ns, hS, hl, rfl⟩
end
noncomputable abbrev fnQ (x q : String) (s : Stmt) (kV dc pm : Value) (an : Option Addr) (cd ct : Value) : FuncData := Yx x q (aB s) (ay s) (ae s) .none kV dc pm an cd ct
noncomputable def NFn (K : W.Frag) (x : Str) (st : Stmt) (f : Addr) : Prop := PySem.W.nsIn K xf x = some (some (.ref f)) /\ ∃ d, Fun K x x st f d
noncomputable def MFn (K : W.Frag) (C : Addr) (m q : Str) (st : Stmt) (f : Addr) : Prop := (Zf K (.ref C) m = some (some (.ref f)) /\ PySem.W.isFn K (.ref f) = true) /\ ∃ d, Fun K m q st f d
noncomputable abbrev Hg (x q : Str) (s : Stmt) (kV dc pm : Value) (an : Option Addr) (cd ct : Value) : FuncData := Yx x q (aB s) (ay s) (ae s) .none kV dc pm an cd ct
theorem nf_mk {K : W.Frag} {qual : Str} {st : Stmt} {f : Addr} {oc : Value} {od an : Option Addr} {osl : Array (Option Value)} {kV doc pm cdv ct : Value} (a : PySem.W.nsIn K xf qual = some (some (.ref f))) (l : K.lookup f = some ⟨oc, od, .func (Hg qual qual st kV doc pm an cdv ct), osl⟩) (c : PySem.W.codeIn K cdv qual = true) (k : Yq K (.ref f) = true) : NFn K qual st f := ⟨a, _, yg l c k⟩
theorem mf_mk {K : W.Frag} {x qual : Str} {st : Stmt} {f C : Addr} {oc : Value} {od an : Option Addr} {osl : Array (Option Value)} {kV doc pm cdv ct : Value} (a : Zf K (.ref C) x = some (some (.ref f))) (i : PySem.W.isFn K (.ref f) = true) (l : K.lookup f = some ⟨oc, od, .func (Hg x qual st kV doc pm an cdv ct), osl⟩) (c : PySem.W.codeIn K cdv qual = true) (k : Yq K (.ref f) = true) : MFn K C x qual st f := ⟨⟨a, i⟩, _, yg l c k⟩
open PySem.W in
theorem all_mk {l : OpenLaw} {w : World} {K : Frag} {h : Heap} {mg : Str -> Option Value} {fa : Addr} (X : K.In h) (G : h.Ns xf mg) (hfa : mg "law" = some (.ref fa))
 {C0 C1 C2 C3 C4 C5 C6 C7 C8 C9 C10 C11 C12 C13 C14 C15 : Addr}
 {f0 f1 f2 f3 f4 f5 f6 f7 f8 f9 f10 f11 f12 f13 f14 f15 f16 f17 f18 f19 f20 f21 f22 f23 f24 f25 f26 f27 f28 f29 f30 f31 f32 f33 f34 f35 f36 f37 f38 f39 f40 f41 f42 f43 f44 f45 f46 f47 f48 f49 f50 f51 f52 f53 : Addr} {od an : Option Addr} {sl : Array (Option Value)} {oc kV dc pm cd ct : Value}
 {cl0 : ClassData}
 {cl7 : ClassData}
 {cl9 : ClassData}
 {cl10 : ClassData}
 {cl11 : ClassData}
 {cl12 : ClassData}
 {D0 : Addr} {dd0 : Option Addr} {dsl0 : Array (Option Value)} {dn0 : Nat} {tk0 tk1 tk2 tk3 tk4 tk5 tk6 tk7 tk8 tk9 tk10 tk11 : Tok}
 (p0 : nsIn K xf "HouseError" = some (some (.ref C0)))
 (p1 : nsIn K xf "BadName" = some (some (.ref C1)))
 (p2 : nsIn K xf "BadMonth" = some (some (.ref C2)))
 (p3 : nsIn K xf "BadAmount" = some (some (.ref C3)))
 (p4 : nsIn K xf "BadCurrency" = some (some (.ref C4)))
 (p5 : nsIn K xf "BadShare" = some (some (.ref C5)))
 (p6 : nsIn K xf "BadPath" = some (some (.ref C6)))
 (p7 : nsIn K xf "NoAccount" = some (some (.ref C7)))
 (p8 : nsIn K xf "Twice" = some (some (.ref C8)))
 (p9 : nsIn K xf "NoRate" = some (some (.ref C9)))
 (p10 : nsIn K xf "NoBooking" = some (some (.ref C10)))
 (p11 : nsIn K xf "NoBudget" = some (some (.ref C11)))
 (p12 : nsIn K xf "NoOrder" = some (some (.ref C12)))
 (p13 : nsIn K xf "Budget" = some (some (.ref C13)))
 (p14 : nsIn K xf "Budgets" = some (some (.ref C14)))
 (p15 : nsIn K xf "Journal" = some (some (.ref C15)))
 (l0 : NFn K "is_whole" dY f0)
 (l1 : NFn K "is_among" dZ f1)
 (l2 : NFn K "signs_lie" c9 f2)
 (l3 : NFn K "is_name" eF f3)
 (l4 : NFn K "is_month" dP f4)
 (l5 : NFn K "leap_days" de f5)
 (l6 : NFn K "first_day" dh f6)
 (l7 : NFn K "last_day" dR f7)
 (l8 : NFn K "are_names" dg f8)
 (l9 : NFn K "is_path" eO f9)
 (l10 : NFn K "is_within" c6 f10)
 (l11 : NFn K "amounts_within" bH f11)
 (l12 : NFn K "sum_within" cO f12)
 (l13 : NFn K "done_by" eK f13)
 (l14 : NFn K "left" lA f14)
 (l15 : NFn K "over" lI f15)
 (l16 : NFn K "is_amount" c8 f16)
 (l17 : NFn K "is_currency" cr f17)
 (l18 : NFn K "are_weights" cn f18)
 (l19 : NFn K "shared" fR f19)
 (l20 : NFn K "are_months" cJ f20)
 (l21 : NFn K "_law_cell_at" bX f21)
 (l22 : NFn K "_law_mixed" cL f22)
 (l23 : NFn K "_law_whole" cQ f23)
 (l24 : NFn K "_law_names" cR f24)
 (l25 : NFn K "_law_paths" cS f25)
 (l26 : NFn K "_law_currencies" bD f26)
 (l27 : NFn K "_law_first" bR f27)
 (l28 : NFn K "_law_day" dW f28)
 (l29 : NFn K "_law_amount" cy f29)
 (l30 : NFn K "_law_rows" db f30)
 (l31 : NFn K "_law_budgets" a8 f31)
 (l32 : NFn K "_law_due" dU f32)
 (l33 : NFn K "_law_planned_well" bh f33)
 (l34 : NFn K "_law_none" cZ f34)
 (l35 : NFn K "_law_answers" bZ f35)
 (l36 : NFn K "_law_told" df f36)
 (l37 : NFn K "_law_over" ce f37)
 (l38 : NFn K "_law_month" cK f38)
 (l39 : NFn K "_law_looked" bp f39)
 (l40 : NFn K "_law_comes_then" bC f40)
 (a41 : nsIn K xf "law" = some (some (.ref f41))) (l41 : K.lookup f41 = some ⟨oc, od, .func (fnQ "law" "law" dy kV dc pm an cd ct), sl⟩) (c41 : codeIn K cd "law" = true) (k41 : keepIn K (.ref f41) = true)
 (l42 : MFn K C13 "__init__" "Budget.__init__" bB f42)
 (l43 : MFn K C14 "__init__" "Budgets.__init__" bv f43)
 (l44 : MFn K C14 "put" "Budgets.put" cp f44)
 (l45 : MFn K C14 "budget" "Budgets.budget" bI f45)
 (l46 : MFn K C14 "names" "Budgets.names" bO f46)
 (l47 : MFn K C14 "terms" "Budgets.terms" bP f47)
 (l48 : MFn K C14 "planned" "Budgets.planned" bA f48)
 (l49 : MFn K C14 "planned_by" "Budgets.planned_by" bd f49)
 (l50 : MFn K C15 "__init__" "Journal.__init__" bt f50)
 (l51 : MFn K C15 "put" "Journal.put" cv f51)
 (l52 : MFn K C15 "booking" "Journal.booking" cf f52)
 (l53 : MFn K C15 "every" "Journal.every" bN f53)
 (pg13 : plainGet K C13 Str.empty = true) (hd13 : hasDictIn K C13 = true) (po13 : plainOver K C13 = true) (sa13 : findIn K (.ref C13) "__setattr__" = some (some (.builtin "object.__setattr__"))) (mk13 : makesIn K C13 = true) (kc13 : keepIn K (.ref C13) = true)
 (na13_0 : findIn K (.ref C13) "agreed" = some none)
 (na13_1 : findIn K (.ref C13) "first" = some none)
 (na13_2 : findIn K (.ref C13) "parts" = some none)
 (pg14 : plainGet K C14 Str.empty = true) (hd14 : hasDictIn K C14 = true) (po14 : plainOver K C14 = true) (sa14 : findIn K (.ref C14) "__setattr__" = some (some (.builtin "object.__setattr__"))) (mk14 : makesIn K C14 = true) (kc14 : keepIn K (.ref C14) = true)
 (na14_0 : findIn K (.ref C14) "by_name" = some none)
 (pg15 : plainGet K C15 Str.empty = true) (hd15 : hasDictIn K C15 = true) (po15 : plainOver K C15 = true) (sa15 : findIn K (.ref C15) "__setattr__" = some (some (.builtin "object.__setattr__"))) (mk15 : makesIn K C15 = true) (kc15 : keepIn K (.ref C15) = true)
 (na15_0 : findIn K (.ref C15) "bookings" = some none)
 (na15_1 : findIn K (.ref C15) "undoings" = some none)
 (o0 : clsIn K C0 = some cl0) (r0 : typeIn K (.ref C0) = some (.type "type")) (b0 : mroIn K C0 (.type "BaseException") = some true)
 (o7 : clsIn K C7 = some cl7) (r7 : typeIn K (.ref C7) = some (.type "type")) (b7 : mroIn K C7 (.type "BaseException") = some true)
 (o9 : clsIn K C9 = some cl9) (r9 : typeIn K (.ref C9) = some (.type "type")) (b9 : mroIn K C9 (.type "BaseException") = some true)
 (o10 : clsIn K C10 = some cl10) (r10 : typeIn K (.ref C10) = some (.type "type")) (b10 : mroIn K C10 (.type "BaseException") = some true)
 (o11 : clsIn K C11 = some cl11) (r11 : typeIn K (.ref C11) = some (.type "type")) (b11 : mroIn K C11 (.type "BaseException") = some true)
 (o12 : clsIn K C12 = some cl12) (r12 : typeIn K (.ref C12) = some (.type "type")) (b12 : mroIn K C12 (.type "BaseException") = some true)
 (g11 : mroIn K C11 (.type "object") = some true) (v11 : mroIn K C11 (.type "ValueError") = some true) (u11 : findIn K (.ref C11) "__getattribute__" = some (some (.builtin "BaseException.__getattribute__"))) (w11 : findIn K (.ref C11) "__getattr__" = some none) (y11 : findIn K (.ref C11) "__class__" = some (some (.builtin "object.__class__")))
 (s11_0 : mroIn K C11 (.ref C0) = some true)
 (s11_7 : mroIn K C11 (.ref C7) = some false)
 (s11_9 : mroIn K C11 (.ref C9) = some false)
 (s11_10 : mroIn K C11 (.ref C10) = some false)
 (s11_11 : mroIn K C11 (.ref C11) = some true)
 (s11_12 : mroIn K C11 (.ref C12) = some false)
 (d0 : nsIn K xf "LENGTHS" = some (some (.ref D0))) (e0 : K.lookup D0 = some ⟨.type "tuple", dd0, .seq #[.int 31 tk0, .int 28 tk1, .int 31 tk2, .int 30 tk3, .int 31 tk4, .int 30 tk5, .int 31 tk6, .int 31 tk7, .int 30 tk8, .int 31 tk9, .int 30 tk10, .int 31 tk11] dn0, dsl0⟩)
 (z0 : nsIn K xf "ValueError" = some none)
 (z1 : nsIn K xf "all" = some none)
 (z2 : nsIn K xf "bool" = some none)
 (z3 : nsIn K xf "enumerate" = some none)
 (z4 : nsIn K xf "int" = some none)
 (z5 : nsIn K xf "isinstance" = some none)
 (z6 : nsIn K xf "len" = some none)
 (z7 : nsIn K xf "list" = some none)
 (z8 : nsIn K xf "max" = some none)
 (z9 : nsIn K xf "min" = some none)
 (z10 : nsIn K xf "range" = some none)
 (z11 : nsIn K xf "sorted" = some none)
 (z12 : nsIn K xf "str" = some none)
 (z13 : nsIn K xf "sum" = some none)
 (z14 : nsIn K xf "tuple" = some none)
 (q3 : excIn K C3 [.type "ValueError", .type "Exception", .type "BaseException", .type "object"] "ValueError.__new__" = true)
 (q4 : excIn K C4 [.type "ValueError", .type "Exception", .type "BaseException", .type "object"] "ValueError.__new__" = true)
 (q2 : excIn K C2 [.type "ValueError", .type "Exception", .type "BaseException", .type "object"] "ValueError.__new__" = true)
 (q1 : excIn K C1 [.type "ValueError", .type "Exception", .type "BaseException", .type "object"] "ValueError.__new__" = true)
 (q6 : excIn K C6 [.type "ValueError", .type "Exception", .type "BaseException", .type "object"] "ValueError.__new__" = true)
 (q5 : excIn K C5 [.type "ValueError", .type "Exception", .type "BaseException", .type "object"] "ValueError.__new__" = true)
 (q10 : excIn K C10 [.type "ValueError", .type "Exception", .type "BaseException", .type "object"] "ValueError.__new__" = true)
 (q11 : excIn K C11 [.type "ValueError", .type "Exception", .type "BaseException", .type "object"] "ValueError.__new__" = true)
 (q8 : excIn K C8 [.type "ValueError", .type "Exception", .type "BaseException", .type "object"] "ValueError.__new__" = true)
 : ∃ fd : FuncData, (∀ (s : Shared) (v : Value), BindsTo s fd ⟨[v], []⟩ [("_law_script", v)]) /\ ∀ base : Heap, K.In base -> base.Ns xf mg -> bg l.prog w K mg base (XE l.prog w) 13 fa fd ["_law_script"] (sp_law K) := by
  have e := hfa.symm.trans (mg_of X G a41)
  cases e
  have T : Txt K mg ⟨f0, l0.2.choose, f1, l1.2.choose, f2, l2.2.choose, f3, l3.2.choose, f4, l4.2.choose, f5, l5.2.choose, f6, l6.2.choose, f7, l7.2.choose, f8, l8.2.choose, f9, l9.2.choose, f10, l10.2.choose, f11, l11.2.choose, f12, l12.2.choose, f13, l13.2.choose, f14, l14.2.choose, f15, l15.2.choose, f16, l16.2.choose, f17, l17.2.choose, f18, l18.2.choose, f19, l19.2.choose, f20, l20.2.choose, f21, l21.2.choose, f22, l22.2.choose, f23, l23.2.choose, f24, l24.2.choose, f25, l25.2.choose, f26, l26.2.choose, f27, l27.2.choose, f28, l28.2.choose, f29, l29.2.choose, f30, l30.2.choose, f31, l31.2.choose, f32, l32.2.choose, f33, l33.2.choose, f34, l34.2.choose, f35, l35.2.choose, f36, l36.2.choose, f37, l37.2.choose, f38, l38.2.choose, f39, l39.2.choose, f40, l40.2.choose, fa, fnQ "law" "law" dy kV dc pm an cd ct, f42, l42.2.choose, f43, l43.2.choose, f44, l44.2.choose, f45, l45.2.choose, f46, l46.2.choose, f47, l47.2.choose, f48, l48.2.choose, f49, l49.2.choose, f50, l50.2.choose, f51, l51.2.choose, f52, l52.2.choose, f53, l53.2.choose, C0, C1, C2, C3, C4, C5, C6, C7, C8, C9, C10, C11, C12, C13, C14, C15, D0⟩ := ⟨l0.2.choose_spec, mg_of X G l0.1, l1.2.choose_spec, mg_of X G l1.1, l2.2.choose_spec, mg_of X G l2.1, l3.2.choose_spec, mg_of X G l3.1, l4.2.choose_spec, mg_of X G l4.1, l5.2.choose_spec, mg_of X G l5.1, l6.2.choose_spec, mg_of X G l6.1, l7.2.choose_spec, mg_of X G l7.1, l8.2.choose_spec, mg_of X G l8.1, l9.2.choose_spec, mg_of X G l9.1, l10.2.choose_spec, mg_of X G l10.1, l11.2.choose_spec, mg_of X G l11.1, l12.2.choose_spec, mg_of X G l12.1, l13.2.choose_spec, mg_of X G l13.1, l14.2.choose_spec, mg_of X G l14.1, l15.2.choose_spec, mg_of X G l15.1, l16.2.choose_spec, mg_of X G l16.1, l17.2.choose_spec, mg_of X G l17.1, l18.2.choose_spec, mg_of X G l18.1, l19.2.choose_spec, mg_of X G l19.1, l20.2.choose_spec, mg_of X G l20.1, l21.2.choose_spec, mg_of X G l21.1, l22.2.choose_spec, mg_of X G l22.1, l23.2.choose_spec, mg_of X G l23.1, l24.2.choose_spec, mg_of X G l24.1, l25.2.choose_spec, mg_of X G l25.1, l26.2.choose_spec, mg_of X G l26.1, l27.2.choose_spec, mg_of X G l27.1, l28.2.choose_spec, mg_of X G l28.1, l29.2.choose_spec, mg_of X G l29.1, l30.2.choose_spec, mg_of X G l30.1, l31.2.choose_spec, mg_of X G l31.1, l32.2.choose_spec, mg_of X G l32.1, l33.2.choose_spec, mg_of X G l33.1, l34.2.choose_spec, mg_of X G l34.1, l35.2.choose_spec, mg_of X G l35.1, l36.2.choose_spec, mg_of X G l36.1, l37.2.choose_spec, mg_of X G l37.1, l38.2.choose_spec, mg_of X G l38.1, l39.2.choose_spec, mg_of X G l39.1, l40.2.choose_spec, mg_of X G l40.1, yg (st := dy) l41 c41 k41, mg_of X G a41, l42.2.choose_spec, ⟨l42.1.1, l42.1.2, l42.2.choose_spec.kp⟩, l43.2.choose_spec, ⟨l43.1.1, l43.1.2, l43.2.choose_spec.kp⟩, l44.2.choose_spec, ⟨l44.1.1, l44.1.2, l44.2.choose_spec.kp⟩, l45.2.choose_spec, ⟨l45.1.1, l45.1.2, l45.2.choose_spec.kp⟩, l46.2.choose_spec, ⟨l46.1.1, l46.1.2, l46.2.choose_spec.kp⟩, l47.2.choose_spec, ⟨l47.1.1, l47.1.2, l47.2.choose_spec.kp⟩, l48.2.choose_spec, ⟨l48.1.1, l48.1.2, l48.2.choose_spec.kp⟩, l49.2.choose_spec, ⟨l49.1.1, l49.1.2, l49.2.choose_spec.kp⟩, l50.2.choose_spec, ⟨l50.1.1, l50.1.2, l50.2.choose_spec.kp⟩, l51.2.choose_spec, ⟨l51.1.1, l51.1.2, l51.2.choose_spec.kp⟩, l52.2.choose_spec, ⟨l52.1.1, l52.1.2, l52.2.choose_spec.kp⟩, l53.2.choose_spec, ⟨l53.1.1, l53.1.2, l53.2.choose_spec.kp⟩, mg_of X G p0, mg_of X G p1, mg_of X G p2, mg_of X G p3, mg_of X G p4, mg_of X G p5, mg_of X G p6, mg_of X G p7, mg_of X G p8, mg_of X G p9, mg_of X G p10, mg_of X G p11, mg_of X G p12, mg_of X G p13, mg_of X G p14, mg_of X G p15, ⟨pg13, hd13, po13, sa13⟩, na13_0, na13_1, na13_2, ⟨mk13, l42.1.1, l42.1.2, kc13⟩, ⟨pg14, hd14, po14, sa14⟩, na14_0, ⟨mk14, l43.1.1, l43.1.2, kc14⟩, ⟨pg15, hd15, po15, sa15⟩, na15_0, na15_1, ⟨mk15, l50.1.1, l50.1.2, kc15⟩, q3, q4, q2, q1, q6, q5, q10, q11, ⟨u11, w11, y11, (by rw [o11]; rfl), g11, b11⟩, Az o0 r0 b0 s11_0, ig o7 r7 s11_11 s11_7, ig o10 r10 s11_11 s11_10, ig o11 r11 s11_11 s11_11, ig o12 r12 s11_11 s11_12, ig o9 r9 s11_11 s11_9, zV v11, q8, mg_of X G d0, ⟨_, _, _, e0, rfl, rfl, (by show 12 <= sizeLine; decide), (.cons ⟨_, rfl⟩ (.cons ⟨_, rfl⟩ (.cons ⟨_, rfl⟩ (.cons ⟨_, rfl⟩ (.cons ⟨_, rfl⟩ (.cons ⟨_, rfl⟩ (.cons ⟨_, rfl⟩ (.cons ⟨_, rfl⟩ (.cons ⟨_, rfl⟩ (.cons ⟨_, rfl⟩ (.cons ⟨_, rfl⟩ (.cons ⟨_, rfl⟩ .nil))))))))))))⟩, mg_none_of X G z0, mg_none_of X G z1, mg_none_of X G z2, mg_none_of X G z3, mg_none_of X G z4, mg_none_of X G z5, mg_none_of X G z6, mg_none_of X G z7, mg_none_of X G z8, mg_none_of X G z9, mg_none_of X G z10, mg_none_of X G z11, mg_none_of X G z12, mg_none_of X G z13, mg_none_of X G z14⟩
  exact ⟨fnQ "law" "law" dy kV dc pm an cd ct, fun s v => .of_eq rfl, fun base _ _ => Fp T⟩
end K26
open PySem PySem.W PyProof.Rows
set_option maxRecDepth 100000 in
set_option maxHeartbeats 0 in
theorem PySem.Challenge.cw_evenhall_k26_whole_plans_and_what_was_do_holds : PySem.Challenge.rw_evenhall_k26_whole_plans_and_what_was_do.Holds := by
 w_on
 refine PySem.W.holds_law K26.ws fun said => ?_
 refine PySem.W.holds_open (q := K26.vw) (loose := []) (Xt := fun s => PySem.W.xlAt K26.vw [] s && PySem.W.recOk (PySem.W.RowW.records (PySem.W.OpenRow.toRowW (PySem.W.OpenLaw.row PySem.Challenge.rw_evenhall_k26_whole_plans_and_what_was_do))) s) (XP := PySem.W.XL K26.vw []) (Yf := PySem.W.Hook.obs (Yb K26.frag K26.adrs K26.adrs_eq)) (Ya := PySem.W.Hook.val (Yb K26.frag K26.adrs K26.adrs_eq)) (YP := PySem.W.Hook.says (Yb K26.frag K26.adrs K26.adrs_eq)) (N := 11278) K26.left (PySem.W.Hook.of (Yb K26.frag K26.adrs K26.adrs_eq)) (PySem.W.Hook.keeps (Yb K26.frag K26.adrs K26.adrs_eq))
  (fun s e => PySem.W.xl_of s (Bool.and_eq_true_iff.mp e).1) PySem.W.XL.keeps (by rfl) (by rfl) (by rfl) (fun s e => PySem.W.recFacts_of (Bool.and_eq_true_iff.mp e).2) (by rfl) (by assumption) (by decide +kernel) ⟨rfl, rfl, rfl, rfl, rfl, by decide +kernel⟩ ?hw ?hc
 (case hw => w_witness2)
 k_fill
 refine L2.B3 (l := PySem.Challenge.rw_evenhall_k26_whole_plans_and_what_was_do) (n := 63) (k := 13) (x := "_law_script") (sp := K26.sp_law) rfl (by decide) rfl ⟨rfl, by decide, by decide⟩ (fun w h Y => PySem.W.kIn_of Y) ?F ?S
 case F =>
  intro w mg fa h KX G hmg
  refine' K26.all_mk KX G hmg ?_ ?_ ?_ ?_ ?_ ?_ ?_ ?_ ?_ ?_ ?_ ?_ ?_ ?_ ?_ ?_ ?_ ?_ ?_ ?_ ?_ ?_ ?_ ?_ ?_ ?_ ?_ ?_ ?_ ?_ ?_ ?_ ?_ ?_ ?_ ?_ ?_ ?_ ?_ ?_ ?_ ?_ ?_ ?_ ?_ ?_ ?_ ?_ ?_ ?_ ?_ ?_ ?_ ?_ ?_ ?_ ?_ ?_ ?_ ?_ ?_ ?_ ?_ ?_ ?_ ?_ ?_ ?_ ?_ ?_ ?_ ?_ ?_ ?_ ?_ ?_ ?_ ?_ ?_ ?_ ?_ ?_ ?_ ?_ ?_ ?_ ?_ ?_ ?_ ?_ ?_ ?_ ?_ ?_ ?_ ?_ ?_ ?_ ?_ ?_ ?_ ?_ ?_ ?_ ?_ ?_ ?_ ?_ ?_ ?_ ?_ ?_ ?_ ?_ ?_ ?_ ?_ ?_ ?_ ?_ ?_ ?_ ?_ ?_ ?_ ?_ ?_ ?_ ?_ ?_ ?_ ?_ ?_ ?_ ?_ ?_ ?_ ?_ ?_ ?_ ?_ ?_ ?_ ?_ ?_ ?_ ?_ ?_ ?_ ?_ ?_ ?_
  all_goals try first | k_is | k_exc | refine' K26.nf_mk ?_ ?_ ?_ ?_ | refine' K26.mf_mk ?_ ?_ ?_ ?_ ?_
  all_goals try first | k_is | k_exc
  all_goals try first | k_is | k_exc
 case S => exact fun K H a ns hl hO hS => K26.law_starts hO hS hl
