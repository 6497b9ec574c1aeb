import PyProof.Rows.All
import KE.KUnpack
import PyProof.DictTruth
import PyProof.DictWalks
import PyProof.Rows.SortKeyStr
import KE.KItem
import KE.KTupSum
import KE.KEqDict
import KE.KFromBytes
import KE.KIntText
import KE.KRevIter
import KE.KDictOf
import KE.LcSums
import KE.KDictSum
import KE.KTryMore
import OpenK.KLine
import OpenK.KOwn
import Wide.Line
import Wide.FinOn
import PyProof.MaxThree
import KE.KSortTup
import Lean
import PySem.Challenge.RW_evenhall_k15_whole_nought_together
set_option Elab.async false
set_option linter.all false
set_option maxRecDepth 100000
set_option maxHeartbeats 0
open PySem.Challenge renaming pw_evenhall_k15_whole_nought_together -> jZ, rw_evenhall_k15_whole_nought_together -> Qq
open And renaming intro -> yN
open Array renaming length_toList -> xO, perm_iff_toList_perm -> YY
open Bool renaming false_ne_true -> xa, false_eq_true -> sY, and_eq_true -> Zi, true_and -> Yh, eq_iff_iff -> Y6, not_true -> Xz, not_eq_true' -> Xu
open False renaming elim -> Z3
open Int renaming emod_lt_of_pos -> ZW, toNat_natCast -> ZU, eq_ofNat_of_zero_le -> ZT, emod_nonneg -> ZR, le_refl -> Xo
open List renaming mem_singleton -> zL, length_map -> zK, mem_cons -> zG, length_append -> yw, size_toArray -> yg, mem_map -> yH, mem_append -> y9, not_mem_nil -> xz, map_cons -> xx, mem_of_getElem? -> xg, mem_map_of_mem -> xF, lookup -> wZ, mem_cons_of_mem -> vt, map_append -> vd, map_map -> ug, mem_append_right -> uU, length_cons -> uO, mem_append_left -> rV, map_congr_left -> rE, length_take -> qW, length_singleton -> pM, filter_cons_of_pos -> Zo, filter_cons_of_neg -> Zn, filter_append -> Zl, pairwise_iff_getElem -> Zk, range -> Zj, append_nil -> Zh, length_filter_le -> Zf, nodup_cons -> Zd, take_of_length_le -> Zc, all_eq_true -> ZY, take_length -> ZQ, filter_eq_self -> ZN, filter_nil -> ZG, mem_cons_self -> ZF, getElem_map -> ZD, cons_append -> ZC, mem_filter -> Z7, drop -> Ys, pairwise_map -> Yp, take_succ -> Yc, length -> YS, map_nil -> YO, flatMap_cons -> YM, append_assoc -> YL, length_pos_iff -> YC, getElem_mem -> YB, map_id -> Y0, filter_eq_nil_iff -> Y3, length_nil -> Y4, forIn_cons -> Y5, any_cons -> Y9, length_range -> Xv, mem_of_mem_take -> Xk, getElem_of_mem -> Xb, pairwise_cons -> XQ
open List.Pairwise renaming imp_of_mem -> YE
open List.Perm renaming refl -> Xm
open Nat renaming le_refl -> z4, ne_of_lt -> xK, zero_le -> ud, le_trans -> uM, lt_of_lt_of_le -> rT, le_succ_of_le -> ZV, lt_irrefl -> ZJ, le_succ -> Z6, lt_succ_of_lt -> Yq, le_of_lt -> Yk, succ_le_succ -> Xg, lt_succ_self -> Xf, le_antisymm -> XU, lt_of_le_of_lt -> XR
open Option renaming map_eq_some_iff -> uE, isSome_map -> YN
open Option.some renaming inj -> se
open PyProof.Rows renaming envOfC -> ZO, callWith_type1 -> Z0
open PySem renaming wpAny_bind -> zm, wpAny_pure -> za, sizeLine_eq -> uS, compareOp -> rB, wpAny_call_entry -> r6, wpAny_mono -> qN, bootBuiltins -> qK, wpAny_newObj_type -> pL, wpAny_truthy_bool -> Zp, wpAny_setState_of -> Zg, wpAny_holding -> Ze, wpAny_setField_rec -> Za, sysModules -> ZP, wpAny_field -> ZM, mainGlobals -> ZL, mem_of_lookup -> Z5, wpAny_Call_Name_kw -> Yy, wpAny_seqItems -> Yw, wpAny_typeNameOfWhole_keyiter -> Yt, foldedSetIterable -> Yr, wpAny_rule -> Yo, wpAny_attempt -> Yj, behindInMarks -> Yi, wpAny_fieldsOf -> Yg, tupleKind_room_in1 -> Yb, wpAny_passesOwn -> YV, codeAny_builtin -> YU, sliceBounds -> YT, codeAny_mono -> YR, assignEach -> YH, wpAny_typeNameOf_keyiter -> YF, wpAny_getItem_str_slice -> YA, wpAny_standAt -> Y7, wpAny_pyIter_list -> Xy, wpAny_loadPart_at -> Xx, keywordEach -> Xq, excClassObj -> Xp, firstArgMember -> Xn, codeAny_call_builtin -> Xl, DictEntry -> Xj, wpAny_isInstance -> Xi, wpAny_eqBool_str -> Xh, attributeBase -> Xa, wpAny_execs_nil -> XW, letOwnedTupleGo -> XV, typeIs_str -> XT, pickOrder -> XN
open PySem.Around renaming under_plainId -> YI
open PySem.Builtin.List renaming listExtendWith -> Xr
open PySem.Builtin.Range renaming rangeSize -> XI
open PySem.Builtin.Slice renaming slicePlaces -> YW, sliceAdjust -> Xd
open PySem.Builtin.SmallTypes renaming nextOf -> ZX
open PySem.Builtin.Str renaming subAt -> YJ, strSliceIndices -> Xs
open PySem.Builtin.Tuple renaming tupleExact -> YD
open PySem.Calls renaming spliced_cons -> ZE, evalArgs_plain -> ZB, spliced_nil -> YK, call_function_entry -> Xe
open PySem.Code renaming quiet_builtin -> XO
open PySem.Data renaming dict -> XM
open PySem.F renaming type_list_append -> ZI, slot_list_append -> ZH, plainAttrs_list -> ZA, plainAttrs_str -> Z4, slot_dict_get -> Z8, slot_dict_keyiterator_next -> Yl, slot_tuple_iterator_next -> YZ, entry_dict_get -> Y2, args_tuple_add_2 -> XX, entry_tuple_add -> XJ
open PySem.Heap renaming lt_size -> yr, size_push -> Zq, SameBut -> Yx
open PySem.Obj renaming mapSeq -> Zb, isFreed_of_fields -> YX, data_mapFields -> Y1
open PySem.SetTable renaming grown -> Ye, below -> Yd, orStandIn -> XS
open PySem.Str renaming ofString -> zI, length -> Yn
open PySem.Value renaming ref -> yy, none -> Zm, str -> Z9, type -> Yz, isStrOf_shape -> Xc, isStrOf -> XZ, builtin -> XY
open PySem.W renaming findIn -> u7, exmOne -> ZZ, kia_one -> ZS, emptyDict -> ZK, kitOne -> Yv, keepIn -> Yu, instObj -> Ym, fnOf -> YQ, mroIn -> YG, kHook -> Y8, hasDictIn -> Xw
open True renaming intro -> Z2
namespace L2
theorem Zr{n k c:Nat}(h:n+100<c)(d:k<=100:=by decide):n+k<c:=XR (Nat.add_le_add_left d _) h
open PySem
noncomputable def bp(s:Stmt)(j:Nat):Stmt:=match s with
 | .ClassDef _ _ _ body _ _ _ _ _ _ _=>body.getD j (.Pass ⟨0,0,0,0⟩)
 |_=>.Pass ⟨0,0,0,0⟩
noncomputable def aB(s:Stmt):Arguments:=match s with
 | .FunctionDef _ a _ _ _ _ _ _ _ _=>a
 |_=>{ posonlyargs:=[],args:=[],vararg:=none,kwonlyargs:=[],kw_defaults:=[],kwarg:=none,defaults:=[] }
noncomputable def aq(s:Stmt):List Stmt:=match s with
 | .FunctionDef _ _ b _ _ _ _ _ _ _=>b
 |_=>[]
noncomputable def ae(s:Stmt):Scope:=match s with
 | .FunctionDef _ _ _ _ _ _ sc _ _ _=>sc
 |_=>{ kind:=.function,names:=[],isGenerator:=false,isCoroutine:=false }
end L2
namespace K15
open PySem L2
noncomputable def top(i:Nat):Stmt:=jZ.main.body.getD i (.Pass ⟨0,0,0,0⟩)
noncomputable abbrev aV:Stmt:=top 65
noncomputable abbrev aZ:Stmt:=top 70
noncomputable abbrev cL:Stmt:=top 81
noncomputable abbrev dA:Stmt:=bp (top 57) 2
end K15
namespace TR
open PySem PySem.W
def go(p:Program)(w:World)(lo:Nat)(an:Option Value):Nat->SharedT->Thread->Option SharedT
 |0,_,_=>none
 |k+1,x,th=>match through th with
  |true=>some x
  |false=>match stepOk lo an th with
   |false=>none
   |true=>match stepT (denote treeTable) p w x th with
    |none=>none
    |some y=>go p w lo an k y.1 y.2
theorem lj{p:Program}{w:World}{lo:Nat}{an:Option Value}(k:Nat):∀ {x y:SharedT} {th:Thread},go p w lo an k x th=some y->topRun treeTable p w lo an k x.abs th=some y.abs:=by
 induction k with
 |zero=>intro x y th e;cases e
 |succ k ih=>
  intro x y th e;unfold go at e;unfold topRun
  revert e
  cases through th with
  |true=>intro e;cases e;rfl
  |false=>
   cases stepOk lo an th with
   |false=>intro e;cases e
   |true=>
    dsimp only;cases z:stepT (denote treeTable) p w x th with
    |none=>intro e;cases e
    |some v=>
     intro e;obtain⟨v1,v2⟩:=v;rw[stepT_spec z];exact ih e
noncomputable def lookB(p:Program)(b:Heap)(s:Shared):Bool:=staticsOk (importedModules p.main.body) b s.heap&&namesBound p s.heap&&gensDone s&&laidKept b s.heap
noncomputable def look(p:Program)(P:Params)(s:Shared):Bool:=lookB p (boot_heap P) s
theorem left{p q:Program}{ls:List Str}{Xt:Shared->Bool}{β:Type}{Yf:Shared->β}{Ya:World->β}{N lo:Nat}{an:Option Value}{tr:Params->BT}
 (ho:∀w:World,(fencedOpening treeTable p w N).map (fun s=>(s.heap,s.gens,s.drawn,s.toks))=some (boot_heap w.params,Array.mk [],boot_drawn,boot_toks))
 (hz:∀P:Params,((boot_heap P).isNs ZL,(boot_heap P).objs.size,(boot_heap P).nsMap ZL "__annotations__")=(true,lo,an))
 (ht:∀P:Params,absHeap (tr P) lo (boot_heap P).life=boot_heap P)
 (hr:∀w:World,(fun os=>(go p w lo an N ⟨tr w.params,lo,(boot_heap w.params).life,Array.mk [],boot_drawn,boot_toks,os⟩ (topStub p)).map fun x=>(look p w.params x.abs,openSeen q ls (importedModules p.main.body) Xt true x.abs,Yf x.abs))=fun _=>some (true,openGood q ls,Ya w)) :
 LeftO p q ls Xt Yf Ya N:=by
 intro w;obtain⟨⟨h,g,d,k,os⟩,e1,e2⟩:=uE.mp (ho w);simp only[Prod.mk.injEq]at e2;obtain⟨rfl,rfl,rfl,rfl⟩:=e2;have z:=hz w.params;simp only[Prod.mk.injEq]at z;obtain⟨z1,z2,z3⟩:=z;obtain⟨x,r1,r2⟩:=uE.mp (congrFun (hr w) os);simp only[Prod.mk.injEq]at r2;obtain⟨l1,l2,l3⟩:=r2;have t:=lj _ r1;have ab:SharedT.abs ⟨tr w.params,lo,(boot_heap w.params).life,Array.mk [],boot_drawn,boot_toks,os⟩=⟨boot_heap w.params,Array.mk [],boot_drawn,boot_toks,os⟩:=by
  show Shared.mk (absHeap (tr w.params) lo (boot_heap w.params).life) _ _ _ _=_;rw[ht]
 rw[ab]at t;have f:topFrom treeTable p w N ⟨boot_heap w.params,Array.mk [],boot_drawn,boot_toks,os⟩=some x.abs:=by
  unfold topFrom;dsimp only;rw[z1,z2,z3,t];show(match look p w.params x.abs with|true=>some x.abs|false=>none)=_;rw[l1]
 unfold openEnds;rw[e1];show(topFrom treeTable p w N _).map _=_;rw[f];show some (_,_)=_;rw[l2,l3]
theorem three{α β γ δ:Type}{o:Option α}{f:α->β}{g:α->γ}{h:α->δ}{a:β}{b:γ}{c:δ}(e1:o.map f=some a)(e2:o.map g=some b)(e3:o.map h=some c):o.map (fun x=>(f x,g x,h x))=some (a,b,c):=by
 cases o with
 |none=>cases e1
 |some x=>cases e1;cases e2;cases e3;rfl
end TR
namespace K15
open PySem L2
abbrev kS(s:String):Str:=zI s
abbrev kR(a:Addr):Value:=.ref a
abbrev kY(s:String):Value:=.type s
abbrev kB(s:String):Value:=.builtin s
abbrev kZ(s:Str)(t:Tok):Value:=.str s t
abbrev kN:Value:=.none
abbrev kD(h:Int)(k v:Value):Xj:=⟨h,k,v⟩
abbrev kO(c:Value)(d:Option Addr)(t:Data)(s:Array (Option Value)):Obj:=⟨c,d,t,s⟩
abbrev keyHash:=PyData.keyHash
abbrev kE(P:Params)(s:String)(t:Tok)(v:Value):Xj:=⟨keyHash P (kS s),kZ (kS s) t,v⟩
abbrev kI(i:Int)(t:Tok):Value:=.int i t
abbrev kz(s:String)(t:Tok):Value:=kZ (kS s) t
abbrev kC(t:Tok):Value:=kz "/claim/cut.py" t
abbrev kT(x:Array Value):Obj:=kO (kY "tuple") none (.seq x 0) #[]
abbrev kU:Value:=.bool true
noncomputable abbrev q0(a:String)(b:Nat)(c:String)(d:Nat)(e:Nat)(f:Int)(g:Int)(h:Nat)(i:Nat)(j:Nat)(k:Nat)(l:Nat)(m:Int)(n:Nat):Obj:=(kO (kY "code") none (Data.fields #[(kz a b),(kz c d),(kC e),(kI f 0),(kI g 0),(kI 0 0),(kI 0 0),(kI 3 0),(kR h),kU,(kI 181 0),(kR i),kN,(kR j),(kR k),(kR l),(kI m 0),(kI f 0),(kC n)]) #[])
noncomputable abbrev q1(a:String)(b:String)(c:Nat)(d:Nat)(e:Nat)(f:Nat)(g:Int)(h:Nat)(i:Nat)(j:String)(k:Nat)(l:Nat):Obj:=(kO (kY "function") none (Data.func (FuncData.mk (kS a) (kS b) (Arguments.mk [] [(Arg.mk (kS "self") none (Pos.mk c d c e))] none [] [] none []) (FuncBody.stmts [(Stmt.Expr (Expr.Call (Expr.Name (kS "_wall") (Pos.mk f 8 f 13)) [(Expr.Constant (Const.int g) 0 (Pos.mk f 14 f h))] [] (Pos.mk f 8 f i)) (Pos.mk f 8 f i))]) (Scope.mk ScopeKind.function [((kS "self"),NameKind.local),((kS "_wall"),NameKind.globalImplicit)] false false []) 3 [] kN kN kN (kz j k) none (kR l) kN 0)) #[])
noncomputable abbrev q2(a:String)(b:Nat)(c:Nat)(d:Nat)(e:Nat)(f:Nat):Obj:=(kO (kY "type") none (Data.cls (ClassData.mk (kS a) [(kR 31)] [(kR b),(kR 31),(kY "ValueError"),(kY "Exception"),(kY "BaseException"),(kY "object")] c (kS a) true [] [] false none false)) #[(some (kR d)),none,(some (kz a e)),(some (kz a f)),(some (kB "ValueError.__new__")),(some kU)])
noncomputable abbrev q3(a:String)(b:Nat)(c:String)(d:Nat)(e:Nat)(f:Int)(g:Int)(h:Nat)(i:Nat)(j:Nat)(k:Int)(l:Nat):Obj:=(kO (kY "code") none (Data.fields #[(kz a b),(kz c d),(kC e),(kI f 0),(kI g 0),(kI 0 0),(kI 0 0),(kI 3 0),(kR h),kU,(kI 181 0),(kR i),kN,kN,kN,(kR j),(kI k 0),(kI f 0),(kC l)]) #[])
noncomputable abbrev q4(P:Params)(a:Nat)(b:Nat)(c:Int)(d:Nat)(e:String)(f:Nat)(g:Nat)(h:String)(i:Nat)(j:Nat)(k:Nat)(l:Nat):Obj:=(kO (kY "dict") none (XM #[(kE P "__module__" a (kz "evenhall.errors" 194)),(kE P "__firstlineno__" b (kI c d)),(kE P e f (kR g)),(kE P h i (kR j)),(kE P "__doc__" k kN)] l) #[])
noncomputable abbrev q5(a:String)(b:String)(c:Nat)(d:Nat)(e:Int)(f:Nat):Obj:=(kO (kY "function") none (Data.func (FuncData.mk (kS a) (kS b) (Arguments.mk [] [(Arg.mk (kS "self") none (Pos.mk c 16 c 20)),(Arg.mk (kS "path") none (Pos.mk c 22 c 26))] none [] [] none []) (FuncBody.stmts [(Stmt.Expr (Expr.Call (Expr.Name (kS "_wall") (Pos.mk d 8 d 13)) [(Expr.Constant (Const.int e) 0 (Pos.mk d 14 d 16))] [] (Pos.mk d 8 d 17)) (Pos.mk d 8 d 17))]) (Scope.mk ScopeKind.function [((kS "self"),NameKind.local),((kS "path"),NameKind.local),((kS "_wall"),NameKind.globalImplicit)] false false []) 3 [] kN kN kN (kz "evenhall.chart" 843) none (kR f) kN 0)) #[])
noncomputable abbrev q6(a:String)(b:Nat)(c:Nat)(d:Nat)(e:Nat):Obj:=(kO (kY "type") none (Data.cls (ClassData.mk (kS a) [(kY "object")] [(kR b),(kY "object")] c (kS a) true [] [] false none false)) #[none,none,(some (kz a d)),(some (kz a e)),(some (kB "object.__new__")),(some kU)])
noncomputable abbrev q7(a:Nat)(b:Nat):Obj:=(kO (kY "getset_descriptor") none (Data.fields #[(kz "__weakref__" a),(kR b),(kB "ExceptionGroup.__weakref__"),kN]) #[])
noncomputable abbrev q8(a:Nat)(b:Nat):Obj:=(kO (kY "getset_descriptor") none (Data.fields #[(kz "__dict__" a),(kR b),(kB "function.__dict__"),(kB "function.__dict__#set")]) #[])
noncomputable abbrev Zz(a b:String)(s:Stmt)(m:String)(n r:Nat):Obj:=(kO (kY "function") none (Data.func (YQ (kS a) (kS b) (aB s) (aq s) (ae s) kN kN kN (kz m n) none (kR r) kN)) #[])
noncomputable abbrev Zy(a b:String)(s:Stmt)(r:Nat):Obj:=Zz a b s "evenhall.words" 614 r
noncomputable abbrev Zx(a b:String)(s:Stmt)(r:Nat):Obj:=Zz a b s "evenhall.bookings" 668 r
noncomputable abbrev Zw(a b:String)(s:Stmt)(r:Nat):Obj:=Zz a b s "evenhall.days" 725 r
noncomputable abbrev Zv(a b:String)(s:Stmt)(r:Nat):Obj:=Zz a b s "evenhall.paths" 815 r
noncomputable abbrev Zu(a b:String)(s:Stmt)(r:Nat):Obj:=Zz a b s "evenhall.chart" 843 r
noncomputable abbrev Zt(a b:String)(s:Stmt)(r:Nat):Obj:=Zz a b s "evenhall.journal" 1020 r
noncomputable abbrev Zs(a b:String)(s:Stmt)(r:Nat):Obj:=Zz a b s "law_evenhall_k15_whole_nought_together" 1152 r
noncomputable def frag(P:Params):W.Frag:=
(nat_lit 2,(kO kN none (XM #[] 0) #[]))::
(nat_lit 3,(kO (kY "dict") none (XM #[(kE P "__name__" 165 (kz "law_evenhall_k15_whole_nought_together" 1152)),(kE P "__doc__" 166 kN),(kE P "__package__" 167 kN),(kE P "__loader__" 168 (kB "__main__.__loader__#opaque")),(kE P "__spec__" 169 kN),(kE P "__annotations__" 170 (kR 6)),(kE P "__builtins__" 171 (kR 4)),(kE P "__file__" 173 (kC 172)),(kE P "__cached__" 174 kN),(kE P "_wall" 193 (kR 21)),(kE P "HouseError" 213 (kR 31)),(kE P "BadName" 236 (kR 51)),(kE P "BadNote" 259 (kR 70)),(kE P "BadDay" 282 (kR 89)),(kE P "BadMonth" 305 (kR 108)),(kE P "BadCurrency" 328 (kR 127)),(kE P "BadPath" 351 (kR 146)),(kE P "BadKind" 374 (kR 165)),(kE P "NoAccount" 397 (kR 184)),(kE P "Twice" 420 (kR 203)),(kE P "NotOpen" 443 (kR 222)),(kE P "HasBelow" 466 (kR 241)),(kE P "BadRow" 489 (kR 260)),(kE P "Uneven" 521 (kR 286)),(kE P "NoBooking" 544 (kR 305)),(kE P "Undone" 567 (kR 324)),(kE P "Closed" 590 (kR 343)),(kE P "NotNext" 613 (kR 362)),(kE P "is_whole" 622 (kR 371)),(kE P "is_among" 631 (kR 378)),(kE P "signs_lie" 637 (kR 383)),(kE P "is_name" 644 (kR 390)),(kE P "is_note" 651 (kR 397)),(kE P "is_amount" 660 (kR 404)),(kE P "is_currency" 667 (kR 411)),(kE P "is_row" 676 (kR 418)),(kE P "need_form" 684 (kR 425)),(kE P "need_account" 694 (kR 432)),(kE P "turned" 700 (kR 437)),(kE P "sums_of" 706 (kR 442)),(kE P "need_even" 712 (kR 447)),(kE P "need_rows" 724 (kR 454)),(kE P "LENGTHS" 739 (kR 455)),(kE P "is_day" 746 (kR 462)),(kE P "is_month" 753 (kR 469)),(kE P "leap_days" 760 (kR 476)),(kE P "first_day" 770 (kR 483)),(kE P "last_day" 777 (kR 490)),(kE P "month_of" 785 (kR 497)),(kE P "need_note_and_gate" 796 (kR 504)),(kE P "book" 808 (kR 511)),(kE P "undo" 814 (kR 516)),(kE P "are_names" 822 (kR 521)),(kE P "is_path" 829 (kR 528)),(kE P "names_of" 836 (kR 535)),(kE P "above" 842 (kR 540)),(kE P "KINDS" 850 (kR 541)),(kE P "Account" 901 (kR 572)),(kE P "Chart" 1019 (kR 668)),(kE P "Gate" 1080 (kR 717)),(kE P "Journal" 1151 (kR 773)),(kE P "_law_cell_at" 1161 (kR 784)),(kE P "_law_names" 1167 (kR 789)),(kE P "_law_currencies" 1173 (kR 794)),(kE P "_law_accounts" 1190 (kR 801)),(kE P "_law_chart" 1202 (kR 808)),(kE P "_law_is_open" 1213 (kR 815)),(kE P "_law_day" 1221 (kR 822)),(kE P "_law_paths" 1227 (kR 827)),(kE P "_law_even_rows" 1247 (kR 834)),(kE P "_law_start" 1254 (kR 841)),(kE P "_law_lengths" 1262 (kR 848)),(kE P "_law_month_ends" 1271 (kR 855)),(kE P "_law_month" 1280 (kR 862)),(kE P "_law_even" 1286 (kR 867)),(kE P "_law_fits" 1303 (kR 874)),(kE P "_law_undoes" 1309 (kR 879)),(kE P "_law_sums" 1315 (kR 884)),(kE P "_law_tried" 1329 (kR 891)),(kE P "_law_changed" 1335 (kR 896)),(kE P "law" 1341 (kR 901))] 81) #[]))::
(nat_lit 15,(kT #[]))::
(nat_lit 17,(kT #[(kz "k" 190)]))::
(nat_lit 18,(kT #[]))::
(nat_lit 20,(q0 "_wall" 187 "_wall" 188 189 1 1 15 16 17 18 19 191 192))::
(nat_lit 21,(kO (kY "function") none (Data.func (FuncData.mk (kS "_wall") (kS "_wall") (Arguments.mk [] [(Arg.mk (kS "k") none (Pos.mk 1 10 1 11))] none [] [] none []) (FuncBody.stmts [(Stmt.While (Expr.Constant (Const.bool true) 0 (Pos.mk 2 10 2 14)) [(Stmt.Pass (Pos.mk 3 8 3 12))] [] (Pos.mk 2 4 3 12))]) (Scope.mk ScopeKind.function [((kS "k"),NameKind.local)] false false []) 3 [] kN kN kN (kz "__main__" 164) none (kR 20) kN 0)) #[]))::
(nat_lit 22,(kT #[(kY "ValueError")]))::
(nat_lit 29,(kT #[]))::
(nat_lit 30,(q4 P 203 207 5 206 "__static_attributes__" 208 29 "__weakref__" 210 32 211 3))::
(nat_lit 31,(kO (kY "type") none (Data.cls (ClassData.mk (kS "HouseError") [(kY "ValueError")] [(kR 31),(kY "ValueError"),(kY "Exception"),(kY "BaseException"),(kY "object")] 30 (kS "HouseError") true [] [(kR 51),(kR 70),(kR 89),(kR 108),(kR 127),(kR 146),(kR 165),(kR 184),(kR 203),(kR 222),(kR 241),(kR 260),(kR 286),(kR 305),(kR 324),(kR 343),(kR 362)] false none false)) #[(some (kR 22)),none,(some (kz "HouseError" 196)),(some (kz "HouseError" 204)),(some (kB "ValueError.__new__")),(some kU)]))::
(nat_lit 32,(q7 209 31))::
(nat_lit 35,(kT #[(kR 31)]))::
(nat_lit 42,(kT #[]))::
(nat_lit 44,(kT #[(kz "self" 229)]))::
(nat_lit 45,(kT #[]))::
(nat_lit 47,(q0 "small_words" 226 "BadName.small_words" 227 228 9 1 42 43 44 45 46 230 231))::
(nat_lit 48,(q1 "small_words" "BadName.small_words" 9 20 24 10 0 15 16 "evenhall.errors" 194 47))::
(nat_lit 49,(kT #[]))::
(nat_lit 50,(q4 P 221 225 7 224 "small_words" 232 48 "__static_attributes__" 233 49 234 2))::
(nat_lit 51,(q2 "BadName" 51 50 35 214 222))::
(nat_lit 54,(kT #[(kR 31)]))::
(nat_lit 61,(kT #[]))::
(nat_lit 63,(kT #[(kz "self" 252)]))::
(nat_lit 64,(kT #[]))::
(nat_lit 66,(q0 "small_words" 249 "BadNote.small_words" 250 251 13 1 61 62 63 64 65 253 254))::
(nat_lit 67,(q1 "small_words" "BadNote.small_words" 13 20 24 14 1 15 16 "evenhall.errors" 194 66))::
(nat_lit 68,(kT #[]))::
(nat_lit 69,(q4 P 244 248 11 247 "small_words" 255 67 "__static_attributes__" 256 68 257 2))::
(nat_lit 70,(q2 "BadNote" 70 69 54 237 245))::
(nat_lit 73,(kT #[(kR 31)]))::
(nat_lit 80,(kT #[]))::
(nat_lit 82,(kT #[(kz "self" 275)]))::
(nat_lit 83,(kT #[]))::
(nat_lit 85,(q0 "small_words" 272 "BadDay.small_words" 273 274 17 1 80 81 82 83 84 276 277))::
(nat_lit 86,(q1 "small_words" "BadDay.small_words" 17 20 24 18 2 15 16 "evenhall.errors" 194 85))::
(nat_lit 87,(kT #[]))::
(nat_lit 88,(q4 P 267 271 15 270 "small_words" 278 86 "__static_attributes__" 279 87 280 2))::
(nat_lit 89,(q2 "BadDay" 89 88 73 260 268))::
(nat_lit 92,(kT #[(kR 31)]))::
(nat_lit 99,(kT #[]))::
(nat_lit 101,(kT #[(kz "self" 298)]))::
(nat_lit 102,(kT #[]))::
(nat_lit 104,(q0 "small_words" 295 "BadMonth.small_words" 296 297 21 1 99 100 101 102 103 299 300))::
(nat_lit 105,(q1 "small_words" "BadMonth.small_words" 21 20 24 22 3 15 16 "evenhall.errors" 194 104))::
(nat_lit 106,(kT #[]))::
(nat_lit 107,(q4 P 290 294 19 293 "small_words" 301 105 "__static_attributes__" 302 106 303 2))::
(nat_lit 108,(q2 "BadMonth" 108 107 92 283 291))::
(nat_lit 111,(kT #[(kR 31)]))::
(nat_lit 118,(kT #[]))::
(nat_lit 120,(kT #[(kz "self" 321)]))::
(nat_lit 121,(kT #[]))::
(nat_lit 123,(q0 "small_words" 318 "BadCurrency.small_words" 319 320 25 1 118 119 120 121 122 322 323))::
(nat_lit 124,(q1 "small_words" "BadCurrency.small_words" 25 20 24 26 4 15 16 "evenhall.errors" 194 123))::
(nat_lit 125,(kT #[]))::
(nat_lit 126,(q4 P 313 317 23 316 "small_words" 324 124 "__static_attributes__" 325 125 326 2))::
(nat_lit 127,(q2 "BadCurrency" 127 126 111 306 314))::
(nat_lit 130,(kT #[(kR 31)]))::
(nat_lit 137,(kT #[]))::
(nat_lit 139,(kT #[(kz "self" 344)]))::
(nat_lit 140,(kT #[]))::
(nat_lit 142,(q0 "small_words" 341 "BadPath.small_words" 342 343 29 1 137 138 139 140 141 345 346))::
(nat_lit 143,(q1 "small_words" "BadPath.small_words" 29 20 24 30 5 15 16 "evenhall.errors" 194 142))::
(nat_lit 144,(kT #[]))::
(nat_lit 145,(q4 P 336 340 27 339 "small_words" 347 143 "__static_attributes__" 348 144 349 2))::
(nat_lit 146,(q2 "BadPath" 146 145 130 329 337))::
(nat_lit 149,(kT #[(kR 31)]))::
(nat_lit 156,(kT #[]))::
(nat_lit 158,(kT #[(kz "self" 367)]))::
(nat_lit 159,(kT #[]))::
(nat_lit 161,(q0 "small_words" 364 "BadKind.small_words" 365 366 33 1 156 157 158 159 160 368 369))::
(nat_lit 162,(q1 "small_words" "BadKind.small_words" 33 20 24 34 6 15 16 "evenhall.errors" 194 161))::
(nat_lit 163,(kT #[]))::
(nat_lit 164,(q4 P 359 363 31 362 "small_words" 370 162 "__static_attributes__" 371 163 372 2))::
(nat_lit 165,(q2 "BadKind" 165 164 149 352 360))::
(nat_lit 168,(kT #[(kR 31)]))::
(nat_lit 175,(kT #[]))::
(nat_lit 177,(kT #[(kz "self" 390)]))::
(nat_lit 178,(kT #[]))::
(nat_lit 180,(q0 "small_words" 387 "NoAccount.small_words" 388 389 37 1 175 176 177 178 179 391 392))::
(nat_lit 181,(q1 "small_words" "NoAccount.small_words" 37 20 24 38 7 15 16 "evenhall.errors" 194 180))::
(nat_lit 182,(kT #[]))::
(nat_lit 183,(q4 P 382 386 35 385 "small_words" 393 181 "__static_attributes__" 394 182 395 2))::
(nat_lit 184,(q2 "NoAccount" 184 183 168 375 383))::
(nat_lit 187,(kT #[(kR 31)]))::
(nat_lit 194,(kT #[]))::
(nat_lit 196,(kT #[(kz "self" 413)]))::
(nat_lit 197,(kT #[]))::
(nat_lit 199,(q0 "small_words" 410 "Twice.small_words" 411 412 41 1 194 195 196 197 198 414 415))::
(nat_lit 200,(q1 "small_words" "Twice.small_words" 41 20 24 42 8 15 16 "evenhall.errors" 194 199))::
(nat_lit 201,(kT #[]))::
(nat_lit 202,(q4 P 405 409 39 408 "small_words" 416 200 "__static_attributes__" 417 201 418 2))::
(nat_lit 203,(q2 "Twice" 203 202 187 398 406))::
(nat_lit 206,(kT #[(kR 31)]))::
(nat_lit 213,(kT #[]))::
(nat_lit 215,(kT #[(kz "self" 436)]))::
(nat_lit 216,(kT #[]))::
(nat_lit 218,(q0 "small_words" 433 "NotOpen.small_words" 434 435 45 1 213 214 215 216 217 437 438))::
(nat_lit 219,(q1 "small_words" "NotOpen.small_words" 45 20 24 46 9 15 16 "evenhall.errors" 194 218))::
(nat_lit 220,(kT #[]))::
(nat_lit 221,(q4 P 428 432 43 431 "small_words" 439 219 "__static_attributes__" 440 220 441 2))::
(nat_lit 222,(q2 "NotOpen" 222 221 206 421 429))::
(nat_lit 225,(kT #[(kR 31)]))::
(nat_lit 232,(kT #[]))::
(nat_lit 234,(kT #[(kz "self" 459)]))::
(nat_lit 235,(kT #[]))::
(nat_lit 237,(q0 "small_words" 456 "HasBelow.small_words" 457 458 49 1 232 233 234 235 236 460 461))::
(nat_lit 238,(q1 "small_words" "HasBelow.small_words" 49 20 24 50 10 16 17 "evenhall.errors" 194 237))::
(nat_lit 239,(kT #[]))::
(nat_lit 240,(q4 P 451 455 47 454 "small_words" 462 238 "__static_attributes__" 463 239 464 2))::
(nat_lit 241,(q2 "HasBelow" 241 240 225 444 452))::
(nat_lit 244,(kT #[(kR 31)]))::
(nat_lit 251,(kT #[]))::
(nat_lit 253,(kT #[(kz "self" 482)]))::
(nat_lit 254,(kT #[]))::
(nat_lit 256,(q0 "small_words" 479 "BadRow.small_words" 480 481 53 1 251 252 253 254 255 483 484))::
(nat_lit 257,(q1 "small_words" "BadRow.small_words" 53 20 24 54 11 16 17 "evenhall.errors" 194 256))::
(nat_lit 258,(kT #[]))::
(nat_lit 259,(q4 P 474 478 51 477 "small_words" 485 257 "__static_attributes__" 486 258 487 2))::
(nat_lit 260,(q2 "BadRow" 260 259 244 467 475))::
(nat_lit 263,(kT #[(kR 31)]))::
(nat_lit 270,(kT #[]))::
(nat_lit 272,(kT #[(kz "self" 505),(kz "currency" 506)]))::
(nat_lit 273,(kT #[]))::
(nat_lit 275,(q0 "__init__" 502 "Uneven.__init__" 503 504 57 2 270 271 272 273 274 507 508))::
(nat_lit 276,(Zz "__init__" "Uneven.__init__" (bp (top 15) 0) "evenhall.errors" 194 275))::
(nat_lit 277,(kT #[]))::
(nat_lit 279,(kT #[(kz "self" 513)]))::
(nat_lit 280,(kT #[]))::
(nat_lit 282,(q0 "small_words" 510 "Uneven.small_words" 511 512 60 1 277 278 279 280 281 514 515))::
(nat_lit 283,(q1 "small_words" "Uneven.small_words" 60 20 24 61 12 16 17 "evenhall.errors" 194 282))::
(nat_lit 284,(kT #[(kz "currency" 517)]))::
(nat_lit 285,(kO (kY "dict") none (XM #[(kE P "__module__" 497 (kz "evenhall.errors" 194)),(kE P "__firstlineno__" 501 (kI 55 500)),(kE P "__init__" 509 (kR 276)),(kE P "small_words" 516 (kR 283)),(kE P "__static_attributes__" 518 (kR 284)),(kE P "__doc__" 519 kN)] 2) #[]))::
(nat_lit 286,(q2 "Uneven" 286 285 263 490 498))::
(nat_lit 289,(kT #[(kR 31)]))::
(nat_lit 296,(kT #[]))::
(nat_lit 298,(kT #[(kz "self" 537)]))::
(nat_lit 299,(kT #[]))::
(nat_lit 301,(q0 "small_words" 534 "NoBooking.small_words" 535 536 64 1 296 297 298 299 300 538 539))::
(nat_lit 302,(q1 "small_words" "NoBooking.small_words" 64 20 24 65 13 16 17 "evenhall.errors" 194 301))::
(nat_lit 303,(kT #[]))::
(nat_lit 304,(q4 P 529 533 62 532 "small_words" 540 302 "__static_attributes__" 541 303 542 2))::
(nat_lit 305,(q2 "NoBooking" 305 304 289 522 530))::
(nat_lit 308,(kT #[(kR 31)]))::
(nat_lit 315,(kT #[]))::
(nat_lit 317,(kT #[(kz "self" 560)]))::
(nat_lit 318,(kT #[]))::
(nat_lit 320,(q0 "small_words" 557 "Undone.small_words" 558 559 68 1 315 316 317 318 319 561 562))::
(nat_lit 321,(q1 "small_words" "Undone.small_words" 68 20 24 69 14 16 17 "evenhall.errors" 194 320))::
(nat_lit 322,(kT #[]))::
(nat_lit 323,(q4 P 552 556 66 555 "small_words" 563 321 "__static_attributes__" 564 322 565 2))::
(nat_lit 324,(q2 "Undone" 324 323 308 545 553))::
(nat_lit 327,(kT #[(kR 31)]))::
(nat_lit 334,(kT #[]))::
(nat_lit 336,(kT #[(kz "self" 583)]))::
(nat_lit 337,(kT #[]))::
(nat_lit 339,(q0 "small_words" 580 "Closed.small_words" 581 582 72 1 334 335 336 337 338 584 585))::
(nat_lit 340,(q1 "small_words" "Closed.small_words" 72 20 24 73 15 16 17 "evenhall.errors" 194 339))::
(nat_lit 341,(kT #[]))::
(nat_lit 342,(q4 P 575 579 70 578 "small_words" 586 340 "__static_attributes__" 587 341 588 2))::
(nat_lit 343,(q2 "Closed" 343 342 327 568 576))::
(nat_lit 346,(kT #[(kR 31)]))::
(nat_lit 353,(kT #[]))::
(nat_lit 355,(kT #[(kz "self" 606)]))::
(nat_lit 356,(kT #[]))::
(nat_lit 358,(q0 "small_words" 603 "NotNext.small_words" 604 605 76 1 353 354 355 356 357 607 608))::
(nat_lit 359,(q1 "small_words" "NotNext.small_words" 76 20 24 77 16 16 17 "evenhall.errors" 194 358))::
(nat_lit 360,(kT #[]))::
(nat_lit 361,(q4 P 598 602 74 601 "small_words" 609 359 "__static_attributes__" 610 360 611 2))::
(nat_lit 362,(q2 "NotNext" 362 361 346 591 599))::
(nat_lit 365,(kT #[]))::
(nat_lit 367,(kT #[(kz "thing" 619)]))::
(nat_lit 368,(kT #[]))::
(nat_lit 370,(q0 "is_whole" 616 "is_whole" 617 618 79 1 365 366 367 368 369 620 621))::
(nat_lit 371,(Zy "is_whole" "is_whole" (top 21) 370))::
(nat_lit 372,(kT #[]))::
(nat_lit 374,(kT #[(kz "thing" 626),(kz "least" 627),(kz "most" 628)]))::
(nat_lit 375,(kT #[]))::
(nat_lit 377,(q0 "is_among" 623 "is_among" 624 625 81 3 372 373 374 375 376 629 630))::
(nat_lit 378,(Zy "is_among" "is_among" (top 22) 377))::
(nat_lit 379,(kT #[]))::
(nat_lit 382,(q3 "signs_lie" 632 "signs_lie" 633 634 83 3 379 380 381 635 636))::
(nat_lit 383,(Zy "signs_lie" "signs_lie" (top 23) 382))::
(nat_lit 384,(kT #[]))::
(nat_lit 386,(kT #[(kz "thing" 641)]))::
(nat_lit 387,(kT #[]))::
(nat_lit 389,(q0 "is_name" 638 "is_name" 639 640 85 1 384 385 386 387 388 642 643))::
(nat_lit 390,(Zy "is_name" "is_name" (top 24) 389))::
(nat_lit 391,(kT #[]))::
(nat_lit 393,(kT #[(kz "thing" 648)]))::
(nat_lit 394,(kT #[]))::
(nat_lit 396,(q0 "is_note" 645 "is_note" 646 647 87 1 391 392 393 394 395 649 650))::
(nat_lit 397,(Zy "is_note" "is_note" (top 25) 396))::
(nat_lit 398,(kT #[]))::
(nat_lit 400,(kT #[(kz "thing" 657)]))::
(nat_lit 401,(kT #[]))::
(nat_lit 403,(q0 "is_amount" 654 "is_amount" 655 656 94 1 398 399 400 401 402 658 659))::
(nat_lit 404,(Zz "is_amount" "is_amount" (top 27) "evenhall.money" 652 403))::
(nat_lit 405,(kT #[]))::
(nat_lit 407,(kT #[(kz "thing" 664)]))::
(nat_lit 408,(kT #[]))::
(nat_lit 410,(q0 "is_currency" 661 "is_currency" 662 663 96 1 405 406 407 408 409 665 666))::
(nat_lit 411,(Zz "is_currency" "is_currency" (top 28) "evenhall.money" 652 410))::
(nat_lit 412,(kT #[]))::
(nat_lit 414,(kT #[(kz "thing" 673)]))::
(nat_lit 415,(kT #[]))::
(nat_lit 417,(q0 "is_row" 670 "is_row" 671 672 99 1 412 413 414 415 416 674 675))::
(nat_lit 418,(Zx "is_row" "is_row" (top 30) 417))::
(nat_lit 419,(kT #[]))::
(nat_lit 421,(kT #[(kz "rows" 680),(kz "row" 681)]))::
(nat_lit 422,(kT #[]))::
(nat_lit 424,(q0 "need_form" 677 "need_form" 678 679 103 1 419 420 421 422 423 682 683))::
(nat_lit 425,(Zx "need_form" "need_form" (top 31) 424))::
(nat_lit 426,(kT #[]))::
(nat_lit 428,(kT #[(kz "chart" 688),(kz "day" 689),(kz "path" 690),(kz "currency" 691)]))::
(nat_lit 429,(kT #[]))::
(nat_lit 431,(q0 "need_account" 685 "need_account" 686 687 109 4 426 427 428 429 430 692 693))::
(nat_lit 432,(Zx "need_account" "need_account" (top 32) 431))::
(nat_lit 433,(kT #[]))::
(nat_lit 436,(q3 "turned" 695 "turned" 696 697 114 1 433 434 435 698 699))::
(nat_lit 437,(Zx "turned" "turned" (top 33) 436))::
(nat_lit 438,(kT #[]))::
(nat_lit 441,(q3 "sums_of" 701 "sums_of" 702 703 116 1 438 439 440 704 705))::
(nat_lit 442,(Zx "sums_of" "sums_of" (top 34) 441))::
(nat_lit 443,(kT #[]))::
(nat_lit 446,(q3 "need_even" 707 "need_even" 708 709 121 1 443 444 445 710 711))::
(nat_lit 447,(Zx "need_even" "need_even" (top 35) 446))::
(nat_lit 448,(kT #[]))::
(nat_lit 450,(kT #[(kz "chart" 716),(kz "day" 717),(kz "rows" 718),(kz "path" 719),(kz "currency" 720),(kz "amount" 721)]))::
(nat_lit 451,(kT #[]))::
(nat_lit 453,(q0 "need_rows" 713 "need_rows" 714 715 125 3 448 449 450 451 452 722 723))::
(nat_lit 454,(Zx "need_rows" "need_rows" (top 36) 453))::
(nat_lit 455,(kT #[(kI 31 727),(kI 28 728),(kI 31 729),(kI 30 730),(kI 31 731),(kI 30 732),(kI 31 733),(kI 31 734),(kI 30 735),(kI 31 736),(kI 30 737),(kI 31 738)]))::
(nat_lit 456,(kT #[]))::
(nat_lit 458,(kT #[(kz "thing" 743)]))::
(nat_lit 459,(kT #[]))::
(nat_lit 461,(q0 "is_day" 740 "is_day" 741 742 132 1 456 457 458 459 460 744 745))::
(nat_lit 462,(Zw "is_day" "is_day" (top 39) 461))::
(nat_lit 463,(kT #[]))::
(nat_lit 465,(kT #[(kz "thing" 750)]))::
(nat_lit 466,(kT #[]))::
(nat_lit 468,(q0 "is_month" 747 "is_month" 748 749 134 1 463 464 465 466 467 751 752))::
(nat_lit 469,(Zw "is_month" "is_month" (top 40) 468))::
(nat_lit 470,(kT #[]))::
(nat_lit 472,(kT #[(kz "years" 757)]))::
(nat_lit 473,(kT #[]))::
(nat_lit 475,(q0 "leap_days" 754 "leap_days" 755 756 136 1 470 471 472 473 474 758 759))::
(nat_lit 476,(Zw "leap_days" "leap_days" (top 41) 475))::
(nat_lit 477,(kT #[]))::
(nat_lit 479,(kT #[(kz "month" 764),(kz "years" 765),(kz "ahead" 766),(kz "leaps" 767)]))::
(nat_lit 480,(kT #[]))::
(nat_lit 482,(q0 "first_day" 761 "first_day" 762 763 138 1 477 478 479 480 481 768 769))::
(nat_lit 483,(Zw "first_day" "first_day" (top 42) 482))::
(nat_lit 484,(kT #[]))::
(nat_lit 486,(kT #[(kz "month" 774)]))::
(nat_lit 487,(kT #[]))::
(nat_lit 489,(q0 "last_day" 771 "last_day" 772 773 143 1 484 485 486 487 488 775 776))::
(nat_lit 490,(Zw "last_day" "last_day" (top 43) 489))::
(nat_lit 491,(kT #[]))::
(nat_lit 493,(kT #[(kz "day" 781),(kz "month" 782)]))::
(nat_lit 494,(kT #[]))::
(nat_lit 496,(q0 "month_of" 778 "month_of" 779 780 145 1 491 492 493 494 495 783 784))::
(nat_lit 497,(Zw "month_of" "month_of" (top 44) 496))::
(nat_lit 498,(kT #[]))::
(nat_lit 500,(kT #[(kz "gate" 791),(kz "day" 792),(kz "note" 793)]))::
(nat_lit 501,(kT #[]))::
(nat_lit 503,(q0 "need_note_and_gate" 788 "need_note_and_gate" 789 790 153 3 498 499 500 501 502 794 795))::
(nat_lit 504,(Zz "need_note_and_gate" "need_note_and_gate" (top 46) "evenhall.deeds" 786 503))::
(nat_lit 505,(kT #[]))::
(nat_lit 507,(kT #[(kz "chart" 800),(kz "gate" 801),(kz "journal" 802),(kz "day" 803),(kz "note" 804),(kz "rows" 805)]))::
(nat_lit 508,(kT #[]))::
(nat_lit 510,(q0 "book" 797 "book" 798 799 158 6 505 506 507 508 509 806 807))::
(nat_lit 511,(Zz "book" "book" (top 47) "evenhall.deeds" 786 510))::
(nat_lit 512,(kT #[]))::
(nat_lit 515,(q3 "undo" 809 "undo" 810 811 164 6 512 513 514 812 813))::
(nat_lit 516,(Zz "undo" "undo" (top 48) "evenhall.deeds" 786 515))::
(nat_lit 517,(kT #[]))::
(nat_lit 520,(q3 "are_names" 817 "are_names" 818 819 175 1 517 518 519 820 821))::
(nat_lit 521,(Zv "are_names" "are_names" (top 50) 520))::
(nat_lit 522,(kT #[]))::
(nat_lit 524,(kT #[(kz "thing" 826)]))::
(nat_lit 525,(kT #[]))::
(nat_lit 527,(q0 "is_path" 823 "is_path" 824 825 177 1 522 523 524 525 526 827 828))::
(nat_lit 528,(Zv "is_path" "is_path" (top 51) 527))::
(nat_lit 529,(kT #[]))::
(nat_lit 531,(kT #[(kz "path" 833)]))::
(nat_lit 532,(kT #[]))::
(nat_lit 534,(q0 "names_of" 830 "names_of" 831 832 179 1 529 530 531 532 533 834 835))::
(nat_lit 535,(Zv "names_of" "names_of" (top 52) 534))::
(nat_lit 536,(kT #[]))::
(nat_lit 539,(q3 "above" 837 "above" 838 839 183 1 536 537 538 840 841))::
(nat_lit 540,(Zv "above" "above" (top 53) 539))::
(nat_lit 541,(kT #[(kz "have" 845),(kz "owe" 846),(kz "own" 847),(kz "gain" 848),(kz "cost" 849)]))::
(nat_lit 549,(kT #[]))::
(nat_lit 551,(kT #[(kz "self" 866),(kz "kind" 867),(kz "currency" 868),(kz "first" 869)]))::
(nat_lit 552,(kT #[]))::
(nat_lit 554,(q0 "__init__" 863 "Account.__init__" 864 865 190 4 549 550 551 552 553 870 871))::
(nat_lit 555,(Zu "__init__" "Account.__init__" (bp (top 56) 0) 554))::
(nat_lit 556,(kT #[]))::
(nat_lit 558,(kT #[(kz "self" 876),(kz "day" 877)]))::
(nat_lit 559,(kT #[]))::
(nat_lit 561,(q0 "stands_on" 873 "Account.stands_on" 874 875 197 2 556 557 558 559 560 878 879))::
(nat_lit 562,(Zu "stands_on" "Account.stands_on" (bp (top 56) 1) 561))::
(nat_lit 563,(kT #[]))::
(nat_lit 565,(kT #[(kz "self" 884),(kz "day" 885)]))::
(nat_lit 566,(kT #[]))::
(nat_lit 568,(q0 "stands_later" 881 "Account.stands_later" 882 883 200 2 563 564 565 566 567 886 887))::
(nat_lit 569,(Zu "stands_later" "Account.stands_later" (bp (top 56) 2) 568))::
(nat_lit 570,(kT #[(kz "below" 889),(kz "currency" 890),(kz "first" 891),(kz "kind" 892),(kz "until" 893)]))::
(nat_lit 571,(kO (kY "dict") none (XM #[(kE P "__module__" 858 (kz "evenhall.chart" 843)),(kE P "__firstlineno__" 862 (kI 188 861)),(kE P "__init__" 872 (kR 555)),(kE P "stands_on" 880 (kR 562)),(kE P "stands_later" 888 (kR 569)),(kE P "__static_attributes__" 894 (kR 570)),(kE P "__dict__" 896 (kR 573)),(kE P "__weakref__" 898 (kR 574)),(kE P "__doc__" 899 kN)] 4) #[]))::
(nat_lit 572,(q6 "Account" 572 571 851 859))::
(nat_lit 573,(q8 895 572))::
(nat_lit 574,(q7 897 572))::
(nat_lit 584,(kT #[]))::
(nat_lit 586,(kT #[(kz "self" 917)]))::
(nat_lit 587,(kT #[]))::
(nat_lit 589,(q0 "__init__" 914 "Chart.__init__" 915 916 204 1 584 585 586 587 588 918 919))::
(nat_lit 590,(Zu "__init__" "Chart.__init__" (bp (top 57) 0) 589))::
(nat_lit 591,(kT #[]))::
(nat_lit 593,(kT #[(kz "self" 924),(kz "name" 925),(kz "kind" 926)]))::
(nat_lit 594,(kT #[]))::
(nat_lit 596,(q0 "add_top" 921 "Chart.add_top" 922 923 207 3 591 592 593 594 595 927 928))::
(nat_lit 597,(Zu "add_top" "Chart.add_top" (bp (top 57) 1) 596))::
(nat_lit 598,(kT #[]))::
(nat_lit 600,(kT #[(kz "self" 933),(kz "path" 934),(kz "currency" 935),(kz "day" 936),(kz "upper" 937)]))::
(nat_lit 601,(kT #[]))::
(nat_lit 603,(q0 "add" 930 "Chart.add" 931 932 216 4 598 599 600 601 602 938 939))::
(nat_lit 604,(Zu "add" "Chart.add" dA 603))::
(nat_lit 605,(kT #[]))::
(nat_lit 608,(q3 "shut" 941 "Chart.shut" 942 943 231 3 605 606 607 944 945))::
(nat_lit 609,(Zu "shut" "Chart.shut" (bp (top 57) 3) 608))::
(nat_lit 610,(kT #[]))::
(nat_lit 612,(kT #[(kz "self" 950),(kz "path" 951)]))::
(nat_lit 613,(kT #[]))::
(nat_lit 615,(q0 "has" 947 "Chart.has" 948 949 243 2 610 611 612 613 614 952 953))::
(nat_lit 616,(Zu "has" "Chart.has" (bp (top 57) 4) 615))::
(nat_lit 617,(kT #[]))::
(nat_lit 619,(kT #[(kz "self" 958),(kz "path" 959)]))::
(nat_lit 620,(kT #[]))::
(nat_lit 622,(q0 "account" 955 "Chart.account" 956 957 246 2 617 618 619 620 621 960 961))::
(nat_lit 623,(Zu "account" "Chart.account" (bp (top 57) 5) 622))::
(nat_lit 624,(kT #[]))::
(nat_lit 626,(kT #[(kz "self" 966),(kz "path" 967)]))::
(nat_lit 627,(kT #[]))::
(nat_lit 629,(q0 "kind_of" 963 "Chart.kind_of" 964 965 251 2 624 625 626 627 628 968 969))::
(nat_lit 630,(q5 "kind_of" "Chart.kind_of" 251 252 17 629))::
(nat_lit 631,(kT #[]))::
(nat_lit 633,(kT #[(kz "self" 974),(kz "path" 975)]))::
(nat_lit 634,(kT #[]))::
(nat_lit 636,(q0 "currency_of" 971 "Chart.currency_of" 972 973 254 2 631 632 633 634 635 976 977))::
(nat_lit 637,(Zu "currency_of" "Chart.currency_of" (bp (top 57) 7) 636))::
(nat_lit 638,(kT #[]))::
(nat_lit 640,(kT #[(kz "self" 982),(kz "path" 983)]))::
(nat_lit 641,(kT #[]))::
(nat_lit 643,(q0 "span_of" 979 "Chart.span_of" 980 981 257 2 638 639 640 641 642 984 985))::
(nat_lit 644,(q5 "span_of" "Chart.span_of" 257 258 18 643))::
(nat_lit 645,(kT #[]))::
(nat_lit 647,(kT #[(kz "self" 990),(kz "path" 991),(kz "day" 992)]))::
(nat_lit 648,(kT #[]))::
(nat_lit 650,(q0 "is_open" 987 "Chart.is_open" 988 989 260 3 645 646 647 648 649 993 994))::
(nat_lit 651,(Zu "is_open" "Chart.is_open" (bp (top 57) 9) 650))::
(nat_lit 652,(kT #[]))::
(nat_lit 654,(kT #[(kz "self" 999),(kz "path" 1000)]))::
(nat_lit 655,(kT #[]))::
(nat_lit 657,(q0 "beneath" 996 "Chart.beneath" 997 998 263 2 652 653 654 655 656 1001 1002))::
(nat_lit 658,(Zu "beneath" "Chart.beneath" (bp (top 57) 10) 657))::
(nat_lit 659,(kT #[]))::
(nat_lit 661,(kT #[(kz "self" 1007)]))::
(nat_lit 662,(kT #[]))::
(nat_lit 664,(q0 "accounts" 1004 "Chart.accounts" 1005 1006 266 1 659 660 661 662 663 1008 1009))::
(nat_lit 665,(q1 "accounts" "Chart.accounts" 266 17 21 267 19 16 17 "evenhall.chart" 843 664))::
(nat_lit 666,(kT #[(kz "by_path" 1011)]))::
(nat_lit 667,(kO (kY "dict") none (XM #[(kE P "__module__" 909 (kz "evenhall.chart" 843)),(kE P "__firstlineno__" 913 (kI 202 912)),(kE P "__init__" 920 (kR 590)),(kE P "add_top" 929 (kR 597)),(kE P "add" 940 (kR 604)),(kE P "shut" 946 (kR 609)),(kE P "has" 954 (kR 616)),(kE P "account" 962 (kR 623)),(kE P "kind_of" 970 (kR 630)),(kE P "currency_of" 978 (kR 637)),(kE P "span_of" 986 (kR 644)),(kE P "is_open" 995 (kR 651)),(kE P "beneath" 1003 (kR 658)),(kE P "accounts" 1010 (kR 665)),(kE P "__static_attributes__" 1012 (kR 666)),(kE P "__dict__" 1014 (kR 669)),(kE P "__weakref__" 1016 (kR 670)),(kE P "__doc__" 1017 kN)] 4) #[]))::
(nat_lit 668,(q6 "Chart" 668 667 902 910))::
(nat_lit 669,(q8 1013 668))::
(nat_lit 670,(q7 1015 668))::
(nat_lit 680,(kT #[]))::
(nat_lit 682,(kT #[(kz "self" 1037)]))::
(nat_lit 683,(kT #[]))::
(nat_lit 685,(q0 "__init__" 1034 "Gate.__init__" 1035 1036 271 1 680 681 682 683 684 1038 1039))::
(nat_lit 686,(Zt "__init__" "Gate.__init__" (bp (top 59) 0) 685))::
(nat_lit 687,(kT #[]))::
(nat_lit 689,(kT #[(kz "self" 1044)]))::
(nat_lit 690,(kT #[]))::
(nat_lit 692,(q0 "closed" 1041 "Gate.closed" 1042 1043 274 1 687 688 689 690 691 1045 1046))::
(nat_lit 693,(Zt "closed" "Gate.closed" (bp (top 59) 1) 692))::
(nat_lit 694,(kT #[]))::
(nat_lit 696,(kT #[(kz "self" 1051),(kz "day" 1052)]))::
(nat_lit 697,(kT #[]))::
(nat_lit 699,(q0 "lets" 1048 "Gate.lets" 1049 1050 277 2 694 695 696 697 698 1053 1054))::
(nat_lit 700,(Zt "lets" "Gate.lets" (bp (top 59) 2) 699))::
(nat_lit 701,(kT #[]))::
(nat_lit 703,(kT #[(kz "self" 1059),(kz "month" 1060)]))::
(nat_lit 704,(kT #[]))::
(nat_lit 706,(q0 "need_next" 1056 "Gate.need_next" 1057 1058 280 2 701 702 703 704 705 1061 1062))::
(nat_lit 707,(Zt "need_next" "Gate.need_next" (bp (top 59) 3) 706))::
(nat_lit 708,(kT #[]))::
(nat_lit 710,(kT #[(kz "self" 1067),(kz "month" 1068)]))::
(nat_lit 711,(kT #[]))::
(nat_lit 713,(q0 "shut" 1064 "Gate.shut" 1065 1066 286 2 708 709 710 711 712 1069 1070))::
(nat_lit 714,(Zt "shut" "Gate.shut" (bp (top 59) 4) 713))::
(nat_lit 715,(kT #[(kz "last_closed" 1072)]))::
(nat_lit 716,(kO (kY "dict") none (XM #[(kE P "__module__" 1029 (kz "evenhall.journal" 1020)),(kE P "__firstlineno__" 1033 (kI 269 1032)),(kE P "__init__" 1040 (kR 686)),(kE P "closed" 1047 (kR 693)),(kE P "lets" 1055 (kR 700)),(kE P "need_next" 1063 (kR 707)),(kE P "shut" 1071 (kR 714)),(kE P "__static_attributes__" 1073 (kR 715)),(kE P "__dict__" 1075 (kR 718)),(kE P "__weakref__" 1077 (kR 719)),(kE P "__doc__" 1078 kN)] 4) #[]))::
(nat_lit 717,(q6 "Gate" 717 716 1022 1030))::
(nat_lit 718,(q8 1074 717))::
(nat_lit 719,(q7 1076 717))::
(nat_lit 729,(kT #[]))::
(nat_lit 731,(kT #[(kz "self" 1096)]))::
(nat_lit 732,(kT #[]))::
(nat_lit 734,(q0 "__init__" 1093 "Journal.__init__" 1094 1095 291 1 729 730 731 732 733 1097 1098))::
(nat_lit 735,(Zt "__init__" "Journal.__init__" (bp (top 60) 0) 734))::
(nat_lit 736,(kT #[]))::
(nat_lit 738,(kT #[(kz "self" 1103),(kz "day" 1104),(kz "note" 1105),(kz "rows" 1106),(kz "undoes" 1107),(kz "number" 1108)]))::
(nat_lit 739,(kT #[]))::
(nat_lit 741,(q0 "put" 1100 "Journal.put" 1101 1102 295 5 736 737 738 739 740 1109 1110))::
(nat_lit 742,(Zt "put" "Journal.put" (bp (top 60) 1) 741))::
(nat_lit 743,(kT #[]))::
(nat_lit 745,(kT #[(kz "self" 1115)]))::
(nat_lit 746,(kT #[]))::
(nat_lit 748,(q0 "many" 1112 "Journal.many" 1113 1114 302 1 743 744 745 746 747 1116 1117))::
(nat_lit 749,(Zt "many" "Journal.many" (bp (top 60) 2) 748))::
(nat_lit 750,(kT #[]))::
(nat_lit 752,(kT #[(kz "self" 1122),(kz "number" 1123)]))::
(nat_lit 753,(kT #[]))::
(nat_lit 755,(q0 "booking" 1119 "Journal.booking" 1120 1121 305 2 750 751 752 753 754 1124 1125))::
(nat_lit 756,(Zt "booking" "Journal.booking" (bp (top 60) 3) 755))::
(nat_lit 757,(kT #[]))::
(nat_lit 759,(kT #[(kz "self" 1130)]))::
(nat_lit 760,(kT #[]))::
(nat_lit 762,(q0 "every" 1127 "Journal.every" 1128 1129 310 1 757 758 759 760 761 1131 1132))::
(nat_lit 763,(Zt "every" "Journal.every" (bp (top 60) 4) 762))::
(nat_lit 764,(kT #[]))::
(nat_lit 766,(kT #[(kz "self" 1137),(kz "number" 1138)]))::
(nat_lit 767,(kT #[]))::
(nat_lit 769,(q0 "undone_by" 1134 "Journal.undone_by" 1135 1136 313 2 764 765 766 767 768 1139 1140))::
(nat_lit 770,(Zt "undone_by" "Journal.undone_by" (bp (top 60) 5) 769))::
(nat_lit 771,(kT #[(kz "bookings" 1142),(kz "undoings" 1143)]))::
(nat_lit 772,(kO (kY "dict") none (XM #[(kE P "__module__" 1088 (kz "evenhall.journal" 1020)),(kE P "__firstlineno__" 1092 (kI 289 1091)),(kE P "__init__" 1099 (kR 735)),(kE P "put" 1111 (kR 742)),(kE P "many" 1118 (kR 749)),(kE P "booking" 1126 (kR 756)),(kE P "every" 1133 (kR 763)),(kE P "undone_by" 1141 (kR 770)),(kE P "__static_attributes__" 1144 (kR 771)),(kE P "__dict__" 1146 (kR 774)),(kE P "__weakref__" 1148 (kR 775)),(kE P "__doc__" 1149 kN)] 4) #[]))::
(nat_lit 773,(q6 "Journal" 773 772 1081 1089))::
(nat_lit 774,(q8 1145 773))::
(nat_lit 775,(q7 1147 773))::
(nat_lit 778,(kT #[]))::
(nat_lit 780,(kT #[(kz "_law_script" 1157),(kz "_law_k" 1158)]))::
(nat_lit 781,(kT #[]))::
(nat_lit 783,(q0 "_law_cell_at" 1154 "_law_cell_at" 1155 1156 316 2 778 779 780 781 782 1159 1160))::
(nat_lit 784,(Zs "_law_cell_at" "_law_cell_at" (top 62) 783))::
(nat_lit 785,(kT #[]))::
(nat_lit 788,(q3 "_law_names" 1162 "_law_names" 1163 1164 320 1 785 786 787 1165 1166))::
(nat_lit 789,(Zs "_law_names" "_law_names" (top 63) 788))::
(nat_lit 790,(kT #[]))::
(nat_lit 793,(q3 "_law_currencies" 1168 "_law_currencies" 1169 1170 328 1 790 791 792 1171 1172))::
(nat_lit 794,(Zs "_law_currencies" "_law_currencies" (top 64) 793))::
(nat_lit 795,(kT #[]))::
(nat_lit 797,(kT #[(kz "_law_script" 1177),(kz "_law_names_here" 1178),(kz "_law_currencies_here" 1179),(kz "_law_base" 1180),(kz "_law_accounts_here" 1181),(kz "_law_some" 1182),(kz "_law_k" 1183),(kz "_law_cell" 1184),(kz "_law_path" 1185),(kz "_law_first" 1186),(kz "_law_until" 1187)]))::
(nat_lit 798,(kT #[]))::
(nat_lit 800,(q0 "_law_accounts" 1174 "_law_accounts" 1175 1176 331 1 795 796 797 798 799 1188 1189))::
(nat_lit 801,(Zs "_law_accounts" "_law_accounts" aV 800))::
(nat_lit 802,(kT #[]))::
(nat_lit 804,(kT #[(kz "_law_accounts_here" 1194),(kz "_law_chart_here" 1195),(kz "_law_path" 1196),(kz "_law_currency" 1197),(kz "_law_first" 1198),(kz "_law_until" 1199)]))::
(nat_lit 805,(kT #[]))::
(nat_lit 807,(q0 "_law_chart" 1191 "_law_chart" 1192 1193 346 1 802 803 804 805 806 1200 1201))::
(nat_lit 808,(Zs "_law_chart" "_law_chart" (top 66) 807))::
(nat_lit 809,(kT #[]))::
(nat_lit 811,(kT #[(kz "_law_accounts_here" 1206),(kz "_law_path" 1207),(kz "_law_day_here" 1208),(kz "_law_first" 1209),(kz "_law_until" 1210)]))::
(nat_lit 812,(kT #[]))::
(nat_lit 814,(q0 "_law_is_open" 1203 "_law_is_open" 1204 1205 358 3 809 810 811 812 813 1211 1212))::
(nat_lit 815,(Zs "_law_is_open" "_law_is_open" (top 67) 814))::
(nat_lit 816,(kT #[]))::
(nat_lit 818,(kT #[(kz "_law_script" 1217),(kz "_law_k" 1218)]))::
(nat_lit 819,(kT #[]))::
(nat_lit 821,(q0 "_law_day" 1214 "_law_day" 1215 1216 361 2 816 817 818 819 820 1219 1220))::
(nat_lit 822,(Zs "_law_day" "_law_day" (top 68) 821))::
(nat_lit 823,(kT #[]))::
(nat_lit 826,(q3 "_law_paths" 1222 "_law_paths" 1223 1224 363 3 823 824 825 1225 1226))::
(nat_lit 827,(Zs "_law_paths" "_law_paths" (top 69) 826))::
(nat_lit 828,(kT #[]))::
(nat_lit 830,(kT #[(kz "_law_script" 1231),(kz "_law_first" 1232),(kz "_law_accounts_here" 1233),(kz "_law_day_here" 1234),(kz "_law_cell" 1235),(kz "_law_rows" 1236),(kz "_law_part" 1237),(kz "_law_more" 1238),(kz "_law_currency" 1239),(kz "_law_paths_here" 1240),(kz "_law_most" 1241),(kz "_law_total" 1242),(kz "_law_k" 1243),(kz "_law_amount" 1244)]))::
(nat_lit 831,(kT #[]))::
(nat_lit 833,(q0 "_law_even_rows" 1228 "_law_even_rows" 1229 1230 365 4 828 829 830 831 832 1245 1246))::
(nat_lit 834,(Zs "_law_even_rows" "_law_even_rows" aZ 833))::
(nat_lit 835,(kT #[]))::
(nat_lit 837,(kT #[(kz "_law_year" 1251)]))::
(nat_lit 838,(kT #[]))::
(nat_lit 840,(q0 "_law_start" 1248 "_law_start" 1249 1250 382 1 835 836 837 838 839 1252 1253))::
(nat_lit 841,(Zs "_law_start" "_law_start" (top 71) 840))::
(nat_lit 842,(kT #[]))::
(nat_lit 844,(kT #[(kz "_law_year" 1258),(kz "_law_second" 1259)]))::
(nat_lit 845,(kT #[]))::
(nat_lit 847,(q0 "_law_lengths" 1255 "_law_lengths" 1256 1257 384 1 842 843 844 845 846 1260 1261))::
(nat_lit 848,(Zs "_law_lengths" "_law_lengths" (top 72) 847))::
(nat_lit 849,(kT #[]))::
(nat_lit 851,(kT #[(kz "_law_month_here" 1266),(kz "_law_lengths_here" 1267),(kz "_law_first" 1268)]))::
(nat_lit 852,(kT #[]))::
(nat_lit 854,(q0 "_law_month_ends" 1263 "_law_month_ends" 1264 1265 387 1 849 850 851 852 853 1269 1270))::
(nat_lit 855,(Zs "_law_month_ends" "_law_month_ends" (top 73) 854))::
(nat_lit 856,(kT #[]))::
(nat_lit 858,(kT #[(kz "_law_day_here" 1275),(kz "_law_year" 1276),(kz "_law_month_here" 1277)]))::
(nat_lit 859,(kT #[]))::
(nat_lit 861,(q0 "_law_month" 1272 "_law_month" 1273 1274 391 1 856 857 858 859 860 1278 1279))::
(nat_lit 862,(Zs "_law_month" "_law_month" (top 74) 861))::
(nat_lit 863,(kT #[]))::
(nat_lit 866,(q3 "_law_even" 1281 "_law_even" 1282 1283 401 1 863 864 865 1284 1285))::
(nat_lit 867,(Zs "_law_even" "_law_even" (top 75) 866))::
(nat_lit 868,(kT #[]))::
(nat_lit 870,(kT #[(kz "_law_accounts_here" 1290),(kz "_law_closed" 1291),(kz "_law_booking" 1292),(kz "_law_number" 1293),(kz "_law_day_here" 1294),(kz "_law_note" 1295),(kz "_law_rows" 1296),(kz "_law_undoes_here" 1297),(kz "_law_path" 1298),(kz "_law_currency" 1299),(kz "_law_amount" 1300)]))::
(nat_lit 871,(kT #[]))::
(nat_lit 873,(q0 "_law_fits" 1287 "_law_fits" 1288 1289 406 3 868 869 870 871 872 1301 1302))::
(nat_lit 874,(Zs "_law_fits" "_law_fits" (top 76) 873))::
(nat_lit 875,(kT #[]))::
(nat_lit 878,(q3 "_law_undoes" 1304 "_law_undoes" 1305 1306 416 2 875 876 877 1307 1308))::
(nat_lit 879,(Zs "_law_undoes" "_law_undoes" (top 77) 878))::
(nat_lit 880,(kT #[]))::
(nat_lit 883,(q3 "_law_sums" 1310 "_law_sums" 1311 1312 428 1 880 881 882 1313 1314))::
(nat_lit 884,(Zs "_law_sums" "_law_sums" (top 78) 883))::
(nat_lit 885,(kT #[]))::
(nat_lit 887,(kT #[(kz "_law_held" 1319),(kz "_law_accounts_here" 1320),(kz "_law_script" 1321),(kz "_law_k" 1322),(kz "_law_cell" 1323),(kz "_law_day_here" 1324),(kz "_law_number" 1325),(kz "_law_rows" 1326)]))::
(nat_lit 888,(kT #[]))::
(nat_lit 890,(q0 "_law_tried" 1316 "_law_tried" 1317 1318 434 4 885 886 887 888 889 1327 1328))::
(nat_lit 891,(Zs "_law_tried" "_law_tried" (top 79) 890))::
(nat_lit 892,(kT #[]))::
(nat_lit 895,(q3 "_law_changed" 1330 "_law_changed" 1331 1332 447 4 892 893 894 1333 1334))::
(nat_lit 896,(Zs "_law_changed" "_law_changed" (top 80) 895))::
(nat_lit 897,(kT #[]))::
(nat_lit 900,(q3 "law" 1336 "law" 1337 1338 460 1 897 898 899 1339 1340))::
(nat_lit 901,(Zs "law" "law" cL 900))
 :: []
noncomputable def adrs:List Addr:=(frag { strHash:=fun _=>0,shareClass:=fun _=>0,mergeTok:=id,idOf:=fun _=>0,idOfShared:=fun _ _=>0,followText:=fun _=>true,idOfImm:=fun _=>0 }).map (·.1)
theorem adrs_eq(P:Params):adrs=(frag P).map (·.1):=by kernel_rfl
noncomputable def vw:Program:=PySem.W.view jZ [0,2,3,4,5,6,7,8,9,10,11,12,13,14,15,16,17,18,19,21,22,23,24,25,27,28,30,31,32,33,34,35,36,38,39,40,41,42,43,44,46,47,48,50,51,52,53,55,56,57,59,60,62,63,64,65,66,67,68,69,70,71,72,73,74,75,76,77,78,79,80,81]
open PySem.W in
noncomputable def tree0(P:Params):BT:=(.node (boot_o_0 P) (.node (boot_o_1 P) (.node (boot_o_3 P) (.node (boot_o_7 P) .nil .nil) .nil) (.node (boot_o_5 P) (.node (boot_o_9 P) .nil .nil) .nil)) (.node (boot_o_2 P) (.node (boot_o_4 P) (.node (boot_o_8 P) .nil .nil) .nil) (.node (boot_o_6 P) (.node (boot_o_10 P) .nil .nil) .nil)))
open PySem.W PyProof.Rows in
noncomputable def ran(p:Program)(t:BT)(b:Heap)(w:World)(os:OsState):Option SharedT:=TR.go p w 11 (some (.ref 6)) 15124 ⟨t,11,b.life,Array.mk [],boot_drawn,boot_toks,os⟩ (topStub p)
noncomputable def runA(p:Program)(t:PySem.W.BT)(b:Heap)(w:World)(os:OsState):=(ran p t b w os).map fun x=>TR.lookB p b x.abs
noncomputable def runB(p v:Program)(c:PySem.W.WRecords)(t:PySem.W.BT)(b:Heap)(w:World)(os:OsState):=(ran p t b w os).map fun x=>PySem.W.openSeen v [] (importedModules p.main.body) (fun s=>PySem.W.xlAt v [] s&&PySem.W.recOk c s) true x.abs
noncomputable def runC(p:Program)(t:PySem.W.BT)(b:Heap)(l:List Addr)(w:World)(os:OsState):=(ran p t b w os).map fun x=>l.map x.abs.heap.get?
noncomputable def good(v:Program)(_:OsState):=some (PySem.W.openGood v [])
lay_quick K15.runA
lay_quick K15.runB
lay_quick K15.runC
lay_quick K15.good
theorem gA(w:World):PySem.W.Fast.tw14279029037275987787 jZ (tree0 w.params) (PySem.W.boot_heap w.params) w=fun _=>some true:=by kernel_rfl
theorem gB(w:World):PySem.W.Fast.tw14390342431611554272 jZ vw (PySem.W.RowW.records (PySem.W.OpenRow.toRowW (PySem.W.OpenLaw.row Qq))) (tree0 w.params) (PySem.W.boot_heap w.params) w=PySem.W.Fast.tw1252993862656880399 vw:=by kernel_rfl
theorem gC(w:World):PySem.W.Fast.tw16144189475768938865 jZ (tree0 w.params) (PySem.W.boot_heap w.params) adrs w=fun _=>some ((frag w.params).map fun p=>some p.2):=by kernel_rfl
theorem left:PySem.W.LeftO jZ vw [] (fun s=>PySem.W.xlAt vw [] s&&PySem.W.recOk (PySem.W.RowW.records (PySem.W.OpenRow.toRowW (PySem.W.OpenLaw.row Qq))) s) (Y8 frag adrs adrs_eq).obs (Y8 frag adrs adrs_eq).val 15124:=
 TR.left (lo:=11) (an:=some (.ref 6)) (tr:=tree0) (PySem.W.boot_open (by kernel_rfl) (by decide) (fun s=>by kernel_rfl)) (fun P=>by kernel_rfl) (fun P=>by kernel_rfl) fun w=>funext fun os=>
  TR.three (congrFun ((congrFun (congrFun (congrFun (congrFun PySem.W.Fast.te14279029037275987787 _) _) _) w).trans (gA w)) os) (congrFun ((congrFun (congrFun (congrFun (congrFun (congrFun (congrFun PySem.W.Fast.te14390342431611554272 _) _) _) _) _) w).trans ((gB w).trans (congrFun PySem.W.Fast.te1252993862656880399 _).symm)) os) (congrFun ((congrFun (congrFun (congrFun (congrFun (congrFun PySem.W.Fast.te16144189475768938865 _) _) _) _) w).trans (gC w)) os)
noncomputable def wsaid(l:PySem.W.OpenLaw):Bool:=PySem.W.OpenLaw.wellSaid l
lay_quick K15.wsaid
theorem ws:wsaid Qq=true:=(congrFun PySem.W.Fast.te15945917200808226449 _).trans (by kernel_rfl)
end K15
namespace L2
open PySem PySem.Spec PyProof.Rows
abbrev Key:=Sum Int Str
def lE:Key->Value->Bool
 | .inl k,v=>Value.isInt k v
 | .inr x,v=>XZ x v
def Il(w:World):Key->Int
 | .inl k=>hashInt k
 | .inr x=>hashStr w x
theorem bN:∀ {k:Key} {v:Value},lE k v=true->(∃i t,k=Sum.inl i/\v=Value.int i t)\/(∃x t,k=Sum.inr x/\v=Z9 x t)
 | .inl i,v,h=>by
  obtain⟨t,e⟩:=Value.isInt_shape (k:=i) (v:=v) h;exact .inl ⟨i,t,rfl,e⟩
 | .inr x,v,h=>by
  obtain⟨t,e⟩:=Xc (x:=x) (v:=v) h;exact .inr ⟨x,t,rfl,e⟩
theorem yL(i:Int)(t:Tok):lE (.inl i) (.int i t)=true:=by simp[lE,Value.isInt]
theorem xN(x:Str)(t:Tok):lE (.inr x) (.str x t)=true:=by simp[lE,XZ]
theorem Gf(a b:Int):decide ((Sum.inl a:Key)=Sum.inl b)=(a==b):=by
 by_cases e:a=b
 ·subst e;simp
 ·have h:¬ (Sum.inl a:Key)=Sum.inl b:=fun q=>e (Sum.inl.inj q)
  rw[decide_eq_false h];exact(beq_eq_false_iff_ne.mpr e).symm
theorem Fg(a b:Str):decide ((Sum.inr a:Key)=Sum.inr b)=decide (a=b):=by
 by_cases e:a=b
 ·subst e;simp
 ·have h:¬ (Sum.inr a:Key)=Sum.inr b:=fun q=>e (Sum.inr.inj q)
  rw[decide_eq_false h,decide_eq_false e]
theorem EN(a:Int)(b:Str):decide ((Sum.inl a:Key)=Sum.inr b)=false:=decide_eq_false (fun q=>nomatch q)
theorem Fa(a:Str)(b:Int):decide ((Sum.inr a:Key)=Sum.inl b)=false:=decide_eq_false (fun q=>nomatch q)
def bb(prog:Program)(w:World):PySem.KeyKind prog w Key where
 is:=lE
 hash:=Il w
 inj:=fun v a b ha hb=>by
  rcases bN ha with ⟨i,t,rfl,rfl⟩|⟨x,t,rfl,rfl⟩
  ·rcases bN hb with ⟨j,u,rfl,e⟩|⟨y,u,rfl,e⟩
   ·injection e with e1 _;rw[e1]
   ·exact nomatch e
  ·rcases bN hb with ⟨j,u,rfl,e⟩|⟨y,u,rfl,e⟩
   ·exact nomatch e
   ·injection e with e1 _;rw[e1]
 byValue:=fun k v h=>by
  rcases bN h with ⟨i,t,rfl,rfl⟩|⟨x,t,rfl,rfl⟩ <;> rfl
 pyHash:=fun hv h=>by
  rcases bN hv with ⟨i,t,rfl,rfl⟩|⟨x,t,rfl,rfl⟩
  ·exact wpAny_pyHash_int h
  ·exact wpAny_pyHash_str h
 eqBool:=fun hu hv h=>by
  rcases bN hu with ⟨i,t,rfl,rfl⟩|⟨x,t,rfl,rfl⟩
  ·rcases bN hv with ⟨j,u,rfl,rfl⟩|⟨y,u,rfl,rfl⟩
   ·rw[Gf]at h;exact wpAny_eqBool_int h
   ·rw[EN]at h;exact SeqAt.EqAt.int_str i t y u _ _ _ _ h
  ·rcases bN hv with ⟨j,u,rfl,rfl⟩|⟨y,u,rfl,rfl⟩
   ·rw[Fa]at h;exact SeqAt.EqAt.str_int x t j u _ _ _ _ h
   ·rw[Fg]at h;exact Xh h
 «strs»:=fun k x t v h=>by
  rcases bN h with ⟨i,u,rfl,e⟩|⟨y,u,rfl,e⟩
  ·exact nomatch e
  ·injection e with e1 _
   subst e1;cases v <;> rfl
theorem tQ(prog:Program)(w:World)(i:Int)(t:Tok):(bb prog w).is (.inl i) (.int i t)=true:=yL i t
theorem sy(prog:Program)(w:World)(x:Str)(t:Tok):(bb prog w).is (.inr x) (.str x t)=true:=xN x t
inductive V where
 |non|bl (b:Bool)|int (i:Int)|str (x:Str)|byt (b:Array UInt8)|flt (b:UInt64)|ref (a:Addr)|ty (n:String)
 deriving DecidableEq
def RelV:V->Value->Prop
 | .non,u=>u=Zm
 | .bl b,u=>u=Value.bool b
 | .int i,u=>∃t,u=Value.int i t
 | .str x,u=>∃t,u=Z9 x t
 | .byt b,u=>∃t,u=Value.bytes b t
 | .flt b,u=>∃t,u=Value.float b t
 | .ref a,u=>u=yy a
 | .ty n,u=>u=Yz n
abbrev Vals:List V->List Value->Prop:=Paired RelV
theorem Vals.length{xs:List V}{us:List Value}(r:Vals xs us):xs.length=us.length:=Paired.length r
theorem Vals.get:∀ {xs:List V} {us:List Value} {i:Nat} {x:V},Vals xs us->xs[i]? = some x->∃u,us[i]? = some u/\RelV x u
 |_,_,_,_,.nil,e=>by simp at e
 |_,_,0,_,.cons r _,e=>by simp at e;subst e;exact⟨_,rfl,r⟩
 |_,_,i+1,x,.cons _ t,e=>by
  obtain⟨u,h1,h2⟩:=Vals.get (i:=i) (x:=x) t (by simpa using e);exact⟨u,by simpa using h1,h2⟩
theorem Vals.set{x:V}{u:Value}(r:RelV x u):∀ {xs:List V} {us:List Value} (i:Nat),Vals xs us->Vals (xs.set i x) (us.set i u)
 |_,_,_,.nil=>.nil
 |_,_,0,.cons _ t=>.cons r t
 |_,_,i+1,.cons q t=>.cons q (Vals.set r i t)
theorem Vals.append:∀ {xs ys:List V} {us ws:List Value},Vals xs us->Vals ys ws->Vals (xs++ys) (us++ws)
 |_,_,_,_,.nil,s=>s
 |_,_,_,_,.cons r t,s=>.cons r (Vals.append t s)
theorem Vals.take:∀ {xs:List V} {us:List Value} (n:Nat),Vals xs us->Vals (xs.take n) (us.take n)
 |_,_,0,_=>.nil
 |_,_,_+1,.nil=>.nil
 |_,_,n+1,.cons r t=>.cons r (Vals.take n t)
theorem Vals.drop:∀ {xs:List V} {us:List Value} (n:Nat),Vals xs us->Vals (xs.drop n) (us.drop n)
 |_,_,0,r=>r
 |_,_,_+1,.nil=>.nil
 |_,_,n+1,.cons _ t=>Vals.drop n t
def RelO:Option V->Option Value->Prop
 |some v,some u=>RelV v u
 |none,none=>True
 |_,_=>False
def KV{κ:Type}:List (κ × V)->List (κ × Value)->Prop:=Paired fun(p:κ × V) (q:κ × Value)=>p.1=q.1/\RelV p.2 q.2
def kV:Key->V
 | .inl i=>.int i
 | .inr x=>.str x
inductive HO where
 |lst (xs:List V)
 |tup (xs:List V)
 |dK (kvs:List (Key × V))|dT (kvs:List (List Key × V))
 |set (S:Int->Bool) (n:Nat)
 |ins (C dx:Addr) (fs:List (Str × V))
 |own (x:Addr)
 |xd (fs:List (Str × V))
 |met (f x:Addr)
 |rng (lo hi:Int)
 |frz (o:Obj) (u:HO)
 |tbl (ps:Array Value)
 |ext (φ:Heap->Prop)
abbrev Hp:=Addr->Option HO
def upd(H:Hp)(a:Addr)(o:HO):Hp:=fun b=>if b=a then some o else H b
theorem ad:upd H a o a=some o:=by unfold upd;rw[if_pos rfl]
theorem ah(h:b≠a):upd H a o b=H b:=by unfold upd;rw[if_neg h]
theorem jx:upd (upd H a o) a u=upd H a u:=by
 funext b;unfold upd;split <;> rfl
theorem GR{H:Hp}{a b:Addr}{o u:HO}(h:H a=some o)(h':H b=some u)(d:o≠u):a≠b:=by
 intro e;subst e;rw[h]at h';exact d (se h')
theorem aC{H:Hp}{a b:Addr}{o:HO}(h:H a=some o)(h':H b=none):a≠b:=by
 intro e;subst e;rw[h]at h';cases h'
section
variable(P:Program)(w:World)
def ObjOk(H:Hp)(h:Heap)(a:Addr):HO->Prop
 | .lst xs=>xs.length<=sizeLine/\∃(its:List Value) (n:Nat),Vals xs its/\h.get? a=some { cls:=.type "list",data:=.seq its.toArray n }
 | .tup xs=>xs.length<=sizeLine/\∃its:List Value,Vals xs its/\IsTup h a its.toArray
 | .dK kvs=>kvs.length<=sizeLine/\(a==ZP)=false/\∃vs,KV kvs vs/\h.DictOf (bb P w) a vs
 | .dT kvs=>kvs.length<=sizeLine/\(a==ZP)=false/\∃xs:List (List Key × Addr × Value),
  Paired (fun(p:List Key × V) (q:List Key × Addr × Value)=>p.1=q.1/\H q.2.1=some (.tup (p.1.map kV))/\RelV p.2 q.2.2) kvs xs /\
  ∃o es ep,h.get? a=some o/\o.ExactDict/\o.data = .dict es ep/\es.toList=xs.map (entryOfKey (tupleKind (bb P w)))/\(xs.map (·.1)).Nodup
 | .set S n=>h.SetOf (intKind P w) a S n
 | .ins C dx fs=>H dx=some (.own a)/\fs.length<=1000/\dx≠a/\h.get? a=some (Ym C dx) /\
  ∃mA,h.Ns1 dx mA/\(∀f,RelO (fs.lookup f) (mA f))/\PySem.Within mA (fs.map (·.1))
 | .own _=>∃o,h.get? a=some o
 | .xd fs=>∃mA,h.Ns1 a mA/\∀f,RelO (fs.lookup f) (mA f)
 | .rng lo hi=>∃t u v,h.get? a=some { cls:=.type "range",data:=.fields #[.int lo t,.int hi u,.int 1 v] }
 | .frz o u=>h.get? a=some o/\ObjOk H h a u
 | .tbl ps=>h.get? a=some { cls:=.none,data:=.fields ps }
 | .met f x=>h.get? a=some (PySem.W.methodObj (.ref f) (.ref x))
 | .ext φ=>φ h/\(∃o,h.get? a=some o)/\∀h1 h2:Heap,φ h1->(∀o,h1.get? a=some o->h2.get? a=some o)->φ h2
def HOk(H:Hp)(h:Heap):Prop:=∀a o,H a=some o->ObjOk P w H h a o
end
section
variable{P:Program}{w:World}{H H':Hp}{h h':Heap}{a:Addr}{o:HO}
theorem ObjOk.lt(x:ObjOk P w H h a o):a<h.objs.size:=by
 cases o with
 |lst xs=>obtain⟨_,_,_,_,e⟩:=x;exact yr e
 |tup xs=>obtain⟨_,_,_,p⟩:=x;exact p.lt
 |dK kvs=>obtain⟨_,_,_,_,o,_,_,e,_⟩:=x;exact yr e
 |dT kvs=>obtain⟨_,_,_,_,o,_,_,e,_⟩:=x;exact yr e
 |set S n=>obtain⟨o,_,_,_,e,_⟩:=x;exact yr e
 |ins C dx fs=>obtain⟨_,_,_,e,_⟩:=x;exact yr e
 |own y=>obtain⟨_,e⟩:=x;exact yr e
 |xd fs=>obtain⟨_,⟨_,_,_,e,_⟩,_⟩:=x;exact yr e
 |rng lo hi=>obtain⟨_,_,_,e⟩:=x;exact yr e
 |frz ob u=>obtain⟨e,_⟩:=x;exact yr e
 |tbl ps=>exact yr (show h.get? a=some _ from x)
 |met f y=>exact yr (show h.get? a=some _ from x)
 |ext φ=>obtain⟨_,⟨_,e⟩,_⟩:=x;exact yr e
theorem Paired.mapP{α β:Type}{F G:α->β->Prop}:∀ {l₁:List α} {l₂:List β},Paired F l₁ l₂->(∀a b,F a b->G a b)->Paired G l₁ l₂
 |_,_,.nil,_=>.nil
 |_,_,.cons r t,f=>.cons (f _ _ r) (Paired.mapP t f)
theorem ObjOk.stay(x:ObjOk P w H h a o)(k:∀b u,(b=a\/H b=some (.own a))->h.get? b=some u->h'.get? b=some u)
 (ho:∀b,H b=some (.own a)->H' b=some (.own a)) (ht:∀b xs,H b=some (.tup xs)->H' b=some (.tup xs)):ObjOk P w H' h' a o:=by
 induction o with
 |lst xs=>obtain⟨z,its,n,r,e⟩:=x;exact⟨z,its,n,r,k _ _ (.inl rfl) e⟩
 |tup xs=>obtain⟨z,its,r,ob,e,c⟩:=x;exact⟨z,its,r,ob,k _ _ (.inl rfl) e,c⟩
 |dK kvs=>obtain⟨z,y,vs,r,ob,es,ep,e,c⟩:=x;exact⟨z,y,vs,r,ob,es,ep,k _ _ (.inl rfl) e,c⟩
 |dT kvs=>
  obtain⟨z,y,xs,r,ob,es,ep,e,c⟩:=x;exact⟨z,y,xs,Paired.mapP r fun p q z=>⟨z.1,ht _ _ z.2.1,z.2.2⟩,ob,es,ep,k _ _ (.inl rfl) e,c⟩
 |set S n=>obtain⟨ob,es,ep,t,e,c⟩:=x;exact⟨ob,es,ep,t,k _ _ (.inl rfl) e,c⟩
 |ins C dx fs=>
  obtain⟨d,z,ne,e,mA,⟨od,es,ep,e2,c⟩,r⟩:=x;exact⟨ho _ d,z,ne,k _ _ (.inl rfl) e,mA,⟨od,es,ep,k _ _ (.inr d) e2,c⟩,r⟩
 |own y=>obtain⟨ob,e⟩:=x;exact⟨ob,k _ _ (.inl rfl) e⟩
 |xd fs=>obtain⟨mA,⟨od,es,ep,e,c⟩,r⟩:=x;exact⟨mA,⟨od,es,ep,k _ _ (.inl rfl) e,c⟩,r⟩
 |rng lo hi=>obtain⟨t,u,v,e⟩:=x;exact⟨t,u,v,k _ _ (.inl rfl) e⟩
 |frz ob u ih=>obtain⟨e,q⟩:=x;exact⟨k _ _ (.inl rfl) e,ih q⟩
 |tbl ps=>
  have e:h.get? a=some { cls:=.none,data:=.fields ps }:=x;show h'.get? a=some { cls:=.none,data:=.fields ps };exact k a _ (.inl rfl) e
 |met f y=>
  have e:h.get? a=some (PySem.W.methodObj (.ref f) (.ref y)):=x;show h'.get? a=some (PySem.W.methodObj (.ref f) (.ref y));exact k a _ (.inl rfl) e
 |ext φ=>obtain⟨p,⟨o,e⟩,st⟩:=x;exact⟨st _ _ p fun o q=>k _ _ (.inl rfl) q,⟨o,k _ _ (.inl rfl) e⟩,st⟩
theorem HOk.lt(x:HOk P w H h)(e:H a=some o):a<h.objs.size:=(x a o e).lt
theorem HOk.fresh(x:HOk P w H h)(e:h.objs.size<=a):H a=none:=by
 cases q:H a with
 |none=>rfl
 |some u=>exact absurd (rT (x.lt q) e) (ZJ _)
theorem HOk.kept(x:HOk P w H h)(k:∀b u,h.get? b=some u->h'.get? b=some u):HOk P w H h':=fun a o e=>
 (x a o e).stay (fun b u _ q=>k b u q) (fun _ q=>q) fun _ _ q=>q
theorem HOk.laid(x:HOk P w H h)(k:∀b u,h.get? b=some u->h'.get? b=some u)(hp:h.objs.size<=a)(new:ObjOk P w (upd H a o) h' a o):HOk P w (upd H a o) h':=fun b u e=>by
 have hn:=x.fresh hp;by_cases hb:b=a
 ·subst hb;rw[ad]at e;cases e;exact new
 ·rw[ah hb]at e
  exact(x b u e).stay (fun c v _ q=>k c v q) (fun c q=>by rw[ah (aC q hn)];exact q) fun c xs q=>by rw[ah (aC q hn)];exact q
end
def Rd(H:Hp)(a:Addr)(u:HO):Prop:=H a=some u\/∃o,H a=some (.frz o u)
theorem Rd.ok{P:Program}{w:World}{H:Hp}{h:Heap}{a:Addr}{u:HO}(r:Rd H a u)(x:HOk P w H h):ObjOk P w H h a u:=by
 rcases r with r|⟨o,r⟩
 ·exact x a u r
 ·obtain⟨_,q⟩:=x a _ r
  exact q
def Mut:Option HO->Prop
 |some (.lst _)=>True
 |some (.dK _)=>True
 |some (.dT _)=>True
 |some (.set _ _)=>True
 |some (.ins _ _ _)=>True
 |some (.ext _)=>True
 |_=>False
section
variable{P:Program}{w:World}{H:Hp}{h h':Heap}{x e:Addr}{o':HO}
theorem HOk.write(ok:HOk P w H h)(mu:Mut (H x))(he:e=x\/H e=some (.own x))(k:∀b u,b≠e->h.get? b=some u->h'.get? b=some u)(heo:∃u,h'.get? e=some u)
 (new:ObjOk P w (upd H x o') h' x o'):HOk P w (upd H x o') h':=fun b u q=>by
 have nown:∀c y,H c=some (.own y)->c≠x:=fun c y r z=>by subst z;rw[r]at mu;exact mu
 have ntup:∀c xs,H c=some (.tup xs)->c≠x:=fun c xs r z=>by subst z;rw[r]at mu;exact mu
 by_cases hb:b=x
 ·subst hb;rw[ad]at q;cases q;exact new
 ·rw[ah hb]at q
  by_cases hbe:b=e
  ·have q':H b=some (.own x):=by
    rcases he with z|z
    ·exact absurd (hbe.trans z) hb
    ·rw[hbe];exact z
   rw[q]at q';cases q';obtain⟨v,hv⟩:=heo;exact⟨v,by rw[hbe];exact hv⟩
  ·refine(ok b u q).stay (fun c v hc r=>k c v ?_ r) (fun c r=>by rw[ah (nown c b r)];exact r) fun c xs r=>by rw[ah (ntup c xs r)];exact r
   rcases hc with rfl|hc
   ·exact hbe
   ·rintro rfl
    rcases he with z|z
    ·exact nown c b hc z
    ·rw[hc]at z;cases z;exact hb rfl
end
structure Un(fs ex:List Addr)(H H':Hp)(h h':Heap):Prop where
 keep:∀b o,h.get? b=some o->H b=none->b∉fs->b∉ex->h'.get? b=some o
 slot:∀b o,h.get? b=some o->H b=none->b∈fs->b∉ex->∃sl,h'.get? b=some { o with slots:=sl }
 free:∀b o,h.get? b=some o->H b=none->b∉ex->H' b=none
 there:∀b o,h.get? b=some o->b∉ex->∃o',h'.get? b=some o'
 tups:∀b xs,H b=some (.tup xs)->H' b=some (.tup xs)
 frzs:∀b o u,H b=some (.frz o u)->H' b=some (.frz o u)
 tbls:∀b ps,H b=some (.tbl ps)->∃more,H' b=some (.tbl (ps++more))
section
variable{fs fs' ex ex':List Addr}{H H1 H2:Hp}{h h1 h2 h':Heap}{a x e:Addr}{o:HO}
theorem Un.any(u:Un fs ex H H1 h h1){b:Addr}{ob:Obj}(q:h.get? b=some ob)(n:H b=none)(hx:b∉ex):∃sl,h1.get? b=some { ob with slots:=sl }:=by
 by_cases hb:b∈fs
 ·exact u.slot b ob q n hb hx
 ·exact⟨ob.slots,u.keep b ob q n hb hx⟩
theorem Un.kept(k:∀b u,h.get? b=some u->h'.get? b=some u):Un fs ex H H h h':=
 ⟨fun b ob q _ _ _=>k b ob q,fun b ob q _ _ _=>⟨ob.slots,k b ob q⟩,fun _ _ _ n _=>n,fun b ob q _=>⟨ob,k b ob q⟩,fun _ _ q=>q,fun _ _ _ q=>q,fun _ ps q=>⟨#[],by rw[q];simp⟩⟩
theorem Un.refl:Un fs ex H H h h:=Un.kept fun _ _ q=>q
theorem Un.laid(k:∀b u,h.get? b=some u->h'.get? b=some u)(hp:h.objs.size<=a)(hn:H a=none):Un fs ex H (upd H a o) h h' where
 keep:=fun b u q _ _ _=>k b u q
 slot:=fun b u q _ _ _=>⟨u.slots,k b u q⟩
 free:=fun b u q n _=>by rw[ah (xK (rT (yr q) hp))];exact n
 there:=fun b u q _=>⟨u,k b u q⟩
 tups:=fun b xs q=>by rw[ah (aC q hn)];exact q
 frzs:=fun b u xs q=>by rw[ah (aC q hn)];exact q
 tbls:=fun b ps q=>⟨#[],by rw[ah (aC q hn),q];simp⟩
theorem Un.write(mu:Mut (H x))(he:e=x\/H e=some (.own x))(k:∀b u,b≠e->h.get? b=some u->h'.get? b=some u)(heo:∃u,h'.get? e=some u):Un fs ex H (upd H x o) h h':=by
 have hx:∀b,H b=none->b≠x:=fun b n z=>by subst z;rw[n]at mu;exact mu
 have hb:∀b,H b=none->b≠e:=fun b n z=>by
  subst z;rcases he with r|r
  ·exact hx b n r
  ·rw[n]at r;cases r
 have hm:∀b u,H b=some u -> ¬ Mut (some u)->b≠x:=fun b u q nm z=>by subst z;rw[q]at mu;exact nm mu
 refine⟨fun b u q n _ _=>k b u (hb b n) q,fun b u q n _ _=>⟨u.slots,k b u (hb b n) q⟩,fun b u q n _=>by rw[ah (hx b n)];exact n,fun b u q _=>?_,
  fun b xs q=>by rw[ah (hm b _ q fun z=>z)];exact q,fun b u xs q=>by rw[ah (hm b _ q fun z=>z)];exact q,fun b ps q=>⟨#[],by rw[ah (hm b _ q fun z=>z),q];simp⟩⟩
 by_cases hbe:b=e
 ·subst hbe;exact heo
 ·exact⟨u,k b u hbe q⟩
end
def trk(h:Heap)(H:Hp):List Addr:=(Zj h.objs.size).filter fun a=>(H a).isSome
def pU(h:Heap)(H:Hp):Heap:=PySem.W.hideAll h (trk h H)
theorem yJ(h:Heap)(H:Hp):(pU h H).objs.size=h.objs.size:=PySem.W.hideAll_size _ _
theorem zg{h:Heap}(e:h.get? b=some o)(n:H b=none):(pU h H).get? b=some o:=
 PySem.W.hideAll_get _ e fun hm=>by
  have q:(H b).isSome=true:=(Z7.mp hm).2;rw[n]at q;simp at q
theorem Dm{h:Heap}(e:(pU h H).get? b=some o):h.get? b=some o/\H b=none:=by
 have e':h.get? b=some o:=PySem.W.of_hideAll (trk h H) e;refine⟨e',?_⟩;cases q:H b with
 |none=>rfl
 |some x=>
  have hm:b∈trk h H:=Z7.mpr ⟨List.mem_range.mpr (yr e'),by simp[q]⟩;have z:(pU h H).get? b=none:=PySem.W.hideAll_none (trk h H) hm;rw[z]at e;cases e
def Dl(g h:Heap)(L:Addr):List (Addr × Obj):=(Zj h.objs.size).filterMap fun a=>if a=L\/(g.get? a).isSome=true then none else (h.get? a).map fun o=>(a,o)
def rest(g h:Heap)(L d:Addr):List (Addr × Obj):=(Dl g h L).filter fun p=>decide (p.1≠d)
structure Mod(K:W.Frag)(mg:Str->Option Value)(base:Heap):Prop where
 kin:K.In base
 glob:base.Ns ZL mg
 blt:∃mb,base.Ns builtinsNs mb/\∀x:Str,x ≠ "__name__" -> mb x=qK x
 nolimit:base.NoLimit
structure Cx where
 prog:Program
 w:World
 K:W.Frag
 mg:Str->Option Value
 base:Heap
 A:Around
 N:List Str
 s₀:Shared
 H₀:Hp
 env:Env
 outer:List Env
 stack:List Env
 ex:List Addr
 fn:Str->Bool
 calm:Bool
 pn:List (Addr × Obj)
 xe:Value->Shared->Prop
def frs(l:List Env):List Addr:=l.filterMap (·.frame)
abbrev Cx.fs(X:Cx):List Addr:=frs X.outer
def Vis(sc:Scope)(x:Str):Prop:=sc.names.lookup x=some .local\/sc.names.lookup x=some .cell\/sc.names.lookup x=some .free
def Loc(sc:Scope)(x:Str):Prop:=sc.names.lookup x=some .local\/sc.names.lookup x=some .cell
def IG(env:Env)(h:Heap)(m:Str->Option Value)(x:Str)(u:Value):Prop:=
 (env.kindOf x=some .local/\m x=some u)\/((env.kindOf x=some .cell\/env.kindOf x=some .free)/\∃c,env.cells.lookup x=some c/\h.IsCell c (some u))
structure Cx.Ok(X:Cx):Prop where
 mod:Mod X.K X.mg X.base
 kind:X.env.scope.kind = .function
 glob:X.env.globals=ZL
 blt:X.env.builtins=builtinsNs
 above:X.s₀.heap.objs.size<=X.env.locals
 inj:∀x y c,X.env.cells.lookup x=some c->X.env.cells.lookup y=some c->x=y
 has:∀x,(X.env.kindOf x=some .cell\/X.env.kindOf x=some .free)->∃c,X.env.cells.lookup x=some c
 cab:∀x c,X.fn x=true->X.env.cells.lookup x=some c->X.s₀.heap.objs.size<=c
 hd:X.calm=true->X.A.handled=none
 frames:X.A.frames=some X.stack
 stk:X.stack=X.outer\/(X.stack=X.env::X.outer/\X.env.frame=some X.env.locals)
 exf:∀b∈X.ex,b≠X.env.locals/\∀x c,X.env.cells.lookup x=some c->c≠b
 bs:∀b o,X.base.get? b=some o->X.s₀.heap.get? b=some o/\X.H₀ b=none
 bsz:X.base.objs.size<=X.s₀.heap.objs.size
 noex:∀b o,X.base.get? b=some o->b∉X.ex
 exfs:∀b∈X.ex,b∉X.fs
 funs:X.s₀.heap.FunFrames X.base X.outer
 frf:∀b∈X.fs,X.H₀ b=none
structure Inv(X:Cx)(pins:List (Addr × Obj))(σ:List (Option V))(H:Hp)(s:Shared):Prop where
 ok:X.Ok
 os:s.os=X.s₀.os
 bare:AllBare s.gens
 base:Un X.fs X.ex X.H₀ H X.s₀.heap s.heap
 loc:∃m,s.heap.Ns X.env.locals m/\∀(i:Nat) (x:Str) (v:V),X.N[i]? = some x->σ[i]? = some (some v)->Vis X.env.scope x->∃u,RelV v u/\IG X.env s.heap m x u
 cell:∀x c,X.env.cells.lookup x=some c->∃v,s.heap.IsCell c v
 free:H X.env.locals=none
 freeC:∀x c,X.env.cells.lookup x=some c->H c=none
 pin:∀p∈X.pn++pins,s.heap.get? p.1=some p.2/\H p.1=none/\p.1≠X.env.locals/\p.1∉X.fs/\∀v,p.2.data ≠ .cell v
 hok:HOk X.prog X.w H s.heap
 len:σ.length=X.N.length
section
variable{X:Cx}{pins:List (Addr × Obj)}{σ:List (Option V)}{H H':Hp}{s:Shared}{h':Heap}
theorem Cx.Ok.nofr(ok:X.Ok)(e:X.base.get? b=some o):b∉X.fs:=fun hb=>by
 have:=(ok.funs.mem hb).1;rw[e]at this;cases this
theorem Inv.bs(I:Inv X pins σ H s):∀b o,X.base.get? b=some o->s.heap.get? b=some o/\H b=none:=fun b o e=>
 ⟨I.base.keep b o (I.ok.bs b o e).1 (I.ok.bs b o e).2 (I.ok.nofr e) (I.ok.noex b o e),I.base.free b o (I.ok.bs b o e).1 (I.ok.bs b o e).2 (I.ok.noex b o e)⟩
theorem Inv.bk(I:Inv X pins σ H s):∀b o,X.base.get? b=some o->s.heap.get? b=some o:=fun b o e=>(I.bs b o e).1
theorem Inv.mod(I:Inv X pins σ H s):Mod X.K X.mg X.base:=I.ok.mod
theorem Inv.kIn(I:Inv X pins σ H s):X.K.In s.heap:=I.ok.mod.kin.keeps I.bk
theorem Inv.lt(I:Inv X pins σ H s):X.env.locals<s.heap.objs.size:=let ⟨_,hn,_⟩:=I.loc;hn.lt
theorem Inv.sz(I:Inv X pins σ H s):X.s₀.heap.objs.size<=s.heap.objs.size:=uM I.ok.above (Yk I.lt)
theorem Inv.nofs(I:Inv X pins σ H s)(h:s.heap.objs.size<=a):a∉X.fs:=fun hb=>by
 obtain⟨_,o,ho,_⟩:=I.ok.funs.mem hb;exact absurd (rT (yr ho) (uM I.sz h)) (ZJ _)
theorem Inv.cne(I:Inv X pins σ H s):∀x c,X.env.cells.lookup x=some c->c≠X.env.locals:=fun x c e z=>by
 obtain⟨v,o,ho,hd⟩:=I.cell x c e;obtain⟨m,⟨o',es,ep,ho',hd',_⟩,_⟩:=I.loc;rw[z,ho']at ho;cases ho;rw[hd']at hd;cases hd
theorem Inv.funs(I:Inv X pins σ H s):s.heap.FunFrames X.base X.outer:=by
 have all:∀(l:List Env),(∀b∈frs l,b∈X.fs)->X.s₀.heap.FunFrames X.base l->s.heap.FunFrames X.base l:=by
  intro l
  induction l with
  |nil=>intro _ _;trivial
  |cons env r ih=>
   intro hs hl;obtain⟨hk,⟨L,o,hf,hn,ho,hd⟩,hr⟩:=hl;have hL:L∈X.fs:=hs L (by unfold frs;rw[List.filterMap_cons,hf];exact ZF);obtain⟨sl,e⟩:=I.base.slot L o ho (I.ok.frf L hL) hL fun z=>I.ok.exfs L z hL;exact⟨hk,⟨L,_,hf,hn,e,hd⟩,ih (fun b hb=>hs b (by unfold frs;rw[List.filterMap_cons,hf];exact vt _ hb)) hr⟩
 exact all X.outer (fun _ hb=>hb) I.ok.funs
theorem Inv.stack(I:Inv X pins σ H s):s.heap.FunFrames X.base X.stack:=by
 rcases I.ok.stk with e|⟨e,hf⟩
 ·rw[e];exact I.funs
 ·rw[e]
  obtain⟨m,hn,_⟩:=I.loc;refine .cons (by rw[I.ok.kind];decide) hf hn ?_ I.funs;exact Heap.get?_none_of_le (uM I.ok.bsz I.ok.above)
theorem Inv.stkSub(I:Inv X pins σ H s):∀b∈frs X.stack,b∈X.env.locals::X.fs:=fun b hb=>by
 rcases I.ok.stk with e|⟨e,hf⟩
 ·rw[e]at hb;exact vt _ hb
 ·rw[e]at hb
  unfold frs at hb;rw[List.filterMap_cons,hf]at hb;exact hb
theorem Inv.stkFree(I:Inv X pins σ H s):∀b∈frs X.stack,H b=none:=fun b hb=>by
 rcases zG.mp (I.stkSub b hb) with e|hb
 ·rw[e];exact I.free
 ·obtain⟨_,o,ho,_⟩:=I.ok.funs.mem hb
  exact I.base.free b o ho (I.ok.frf b hb) fun z=>I.ok.exfs b z hb
theorem Inv.step{g':Array GenState}{t':Nat}{d':Drawn}{ch:List Addr}(I:Inv X pins σ H s)
 (hch:∀b∈ch,(b∈X.ex\/X.s₀.heap.objs.size<=b)/\b≠X.env.locals/\(∀x c,X.env.cells.lookup x=some c->c≠b)/\∀p∈X.pn++pins,p.1≠b)
 (keep:∀b o,b≠X.env.locals->b∉X.fs->b∉ch->s.heap.get? b=some o->H b=none->h'.get? b=some o)
 (slot:∀b o,b≠X.env.locals->b∈X.fs->b∉ch->s.heap.get? b=some o->H b=none->∃sl,h'.get? b=some { o with slots:=sl }) (free:∀b o,b∉ch->s.heap.get? b=some o->H b=none->H' b=none)
 (there:∀b o,b∉ch->s.heap.get? b=some o->∃o',h'.get? b=some o')
 (tups:∀b xs,H b=some (.tup xs)->H' b=some (.tup xs)) (frzs:∀b o u,H b=some (.frz o u)->H' b=some (.frz o u)) (tbls:∀b ps,H b=some (.tbl ps)->∃more,H' b=some (.tbl (ps++more)))
 (ns:∀m,s.heap.Ns X.env.locals m->h'.Ns X.env.locals m) (hok:HOk X.prog X.w H' h') (hg:AllBare g') :
 Inv X pins σ H' { s with heap:=h',gens:=g',drawn:=d',toks:=t' }:=by
 have neL:∀b o,X.s₀.heap.get? b=some o->b≠X.env.locals:=fun b o e=>xK (rT (yr e) I.ok.above);have neC:∀b o,X.s₀.heap.get? b=some o->b∉X.ex->b∉ch:=fun b o e hx hb=>by
  rcases(hch b hb).1 with z|z
  ·exact hx z
  ·exact absurd (rT (yr e) z) (ZJ _)
 have cellK:∀x c,X.env.cells.lookup x=some c->∀v,s.heap.IsCell c v->h'.IsCell c v:=fun x c e v ⟨o,ho,hd⟩=>by
  have nch:c∉ch:=fun z=>(hch c z).2.2.1 x c e rfl;by_cases hc:c∈X.fs
  ·obtain⟨sl,q⟩:=slot c o (I.cne x c e) hc nch ho (I.freeC x c e)
   exact⟨_,q,hd⟩
  ·exact⟨o,keep c o (I.cne x c e) hc nch ho (I.freeC x c e),hd⟩
 refine⟨I.ok,I.os,hg,⟨fun b o e n hb hx=>?_,fun b o e n hb hx=>?_,fun b o e n hx=>?_,fun b o e hx=>?_,fun b xs e=>tups b xs (I.base.tups b xs e),fun b o xs e=>frzs b o xs (I.base.frzs b o xs e),fun b ps e=>?_⟩,?_,fun x c e=>?_,?_,fun x c e=>?_,fun p hp=>?_,hok,I.len⟩
 ·exact keep b o (neL b o e) hb (neC b o e hx) (I.base.keep b o e n hb hx) (I.base.free b o e n hx)
 ·obtain⟨sl,e1⟩:=I.base.slot b o e n hb hx
  obtain⟨sl',e2⟩:=slot b _ (neL b o e) hb (neC b o e hx) e1 (I.base.free b o e n hx);exact⟨sl',e2⟩
 ·obtain⟨o',e1⟩:=I.base.there b o e hx
  exact free b o' (neC b o e hx) e1 (I.base.free b o e n hx)
 ·obtain⟨o',e1⟩:=I.base.there b o e hx
  exact there b o' (neC b o e hx) e1
 ·obtain⟨m1,e1⟩:=I.base.tbls b ps e
  obtain⟨m2,e2⟩:=tbls b _ e1;exact⟨m1++m2,by rw[e2,Array.append_assoc]⟩
 ·obtain⟨m,hn,hl⟩:=I.loc
  refine⟨m,ns m hn,fun i x v e1 e2 e3=>?_⟩;obtain⟨u,r,l⟩:=hl i x v e1 e2 e3;refine⟨u,r,?_⟩;rcases l with l|⟨k,c,e,z⟩
  ·exact .inl l
  ·exact .inr ⟨k,c,e,cellK x c e _ z⟩
 ·obtain⟨v,z⟩:=I.cell x c e
  exact⟨v,cellK x c e v z⟩
 ·obtain⟨m,⟨o,_,_,ho,_⟩,_⟩:=I.loc
  exact free _ o (fun z=>(hch _ z).2.1 rfl) ho I.free
 ·obtain⟨v,o,ho,hd⟩:=I.cell x c e
  exact free c o (fun z=>(hch c z).2.2.1 x c e rfl) ho (I.freeC x c e)
 ·obtain⟨e,n,ne,nf,d⟩:=I.pin p hp
  have nch:p.1∉ch:=fun z=>(hch p.1 z).2.2.2 p hp rfl;exact⟨keep p.1 p.2 ne nf nch e n,free p.1 p.2 nch e n,ne,nf,d⟩
theorem Inv.un{t':Nat}(I:Inv X pins σ H s)(u:Un X.fs [] H H' s.heap h')(hok:HOk X.prog X.w H' h'):Inv X pins σ H' { s with heap:=h',toks:=t' }:=by
 obtain⟨m,⟨o,es,ep,ho,r⟩,_⟩:=id I.loc;obtain⟨sl,hL⟩:=u.any ho I.free (by simp);exact I.step (g':=s.gens) (d':=s.drawn) (ch:=[]) (fun _ z=>nomatch z) (fun b o _ hb _ e n=>u.keep b o e n hb (by simp)) (fun b o _ hb _ e n=>u.slot b o e n hb (by simp)) (fun b o _ e n=>u.free b o e n (by simp)) (fun b o _ e=>u.there b o e (by simp)) u.tups u.frzs u.tbls (fun m' hm=>by
  obtain⟨o',es',ep',ho',r'⟩:=hm;rw[ho]at ho';cases ho';exact⟨_,es',ep',hL,r'⟩) hok I.bare
theorem Inv.call{g':Array GenState}{t':Nat}{d':Drawn}{ch:List Addr}(I:Inv X pins σ H s)(u:Un (frs X.stack) ch H H' s.heap h')(hok:HOk X.prog X.w H' h')(hg:AllBare g')
 (hch:∀b∈ch,(b∈X.ex\/X.s₀.heap.objs.size<=b)/\b≠X.env.locals/\(∀x c,X.env.cells.lookup x=some c->c≠b)/\∀p∈X.pn++pins,p.1≠b) :
 Inv X pins σ H' { s with heap:=h',gens:=g',drawn:=d',toks:=t' }:=by
 obtain⟨m,⟨o,es,ep,ho,r⟩,_⟩:=id I.loc;obtain⟨sl,hL⟩:=u.any ho I.free fun z=>(hch _ z).2.1 rfl;exact I.step (ch:=ch) hch (fun b o hL hb hc e n=>u.keep b o e n (fun z=>(zG.mp (I.stkSub b z)).elim hL hb) hc) (fun b o _ _ hc e n=>u.any e n hc) (fun b o hc e n=>u.free b o e n hc) (fun b o hc e=>u.there b o e hc) u.tups u.frzs u.tbls (fun m' hm=>by
  obtain⟨o',es',ep',ho',r'⟩:=hm;rw[ho]at ho';cases ho';exact⟨_,es',ep',hL,r'⟩) hok hg
theorem Inv.turned{t':Nat}{it:Addr}(I:Inv X pins σ H s)(k:∀b o,b≠it->s.heap.get? b=some o->h'.get? b=some o)(hn:H it=none)(hL:it≠X.env.locals)
 (h1:it∈X.ex\/X.s₀.heap.objs.size<=it) (h2:∀x c,X.env.cells.lookup x=some c->c≠it) (h3:∀p∈X.pn++pins,p.1≠it):Inv X pins σ H { s with heap:=h',toks:=t' }:=by
 have nit:∀b u,H b=some u->b≠it:=fun b u e z=>by rw[z,hn]at e;cases e
 refine I.step (g':=s.gens) (d':=s.drawn) (ch:=[it]) (fun b hb=>?_) (fun b o _ _ hc e _=>k b o (fun z=>hc (by simp[z])) e) (fun b o _ _ hc e _=>⟨o.slots,k b o (fun z=>hc (by simp[z])) e⟩) (fun _ _ _ _ n=>n)
  (fun b o hc e=>⟨o,k b o (fun z=>hc (by simp[z])) e⟩) (fun _ _ e=>e) (fun _ _ _ e=>e) (fun b ps e=>⟨#[],by rw[e];simp⟩) (fun m hm=>?_) (fun b u e=>?_) I.bare
 ·have e:b=it:=by simpa using hb
  subst e;exact⟨h1,hL,h2,h3⟩
 ·obtain⟨o,es,ep,ho,r⟩:=hm
  exact⟨o,es,ep,k _ o (Ne.symm hL) ho,r⟩
 ·refine(I.hok b u e).stay (fun c v hc q=>k c v ?_ q) (fun _ q=>q) fun _ _ q=>q
  rcases hc with z|z
  ·rw[z];exact nit b u e
  ·exact nit c _ z
theorem Inv.tok(I:Inv X pins σ H s)(t:Nat):Inv X pins σ H { s with toks:=t }:=I.un (h':=s.heap) (t':=t) Un.refl I.hok
theorem Inv.kept{t':Nat}(I:Inv X pins σ H s)(k:∀b u,s.heap.get? b=some u->h'.get? b=some u):Inv X pins σ H { s with heap:=h',toks:=t' }:=I.un (Un.kept k) (I.hok.kept k)
theorem Inv.laid{a:Addr}{o:HO}{t':Nat}(I:Inv X pins σ H s)(k:∀b u,s.heap.get? b=some u->h'.get? b=some u)(hp:s.heap.objs.size<=a)(new:ObjOk X.prog X.w (upd H a o) h' a o) :
 Inv X pins σ (upd H a o) { s with heap:=h',toks:=t' }:=I.un (Un.laid k hp (I.hok.fresh hp)) (I.hok.laid k hp new)
theorem Inv.write(I:Inv X pins σ H s)(mu:Mut (H x))(he:e=x\/H e=some (.own x))(k:∀b u,b≠e->s.heap.get? b=some u->h'.get? b=some u)(heo:∃u,h'.get? e=some u)
 (new:ObjOk X.prog X.w (upd H x o) h' x o):Inv X pins σ (upd H x o) { s with heap:=h',toks:=t' }:=I.un (Un.write mu he k heo) (I.hok.write mu he k heo new)
theorem Inv.pins_of(I:Inv X pins σ H s)(h:∀p∈pins',s.heap.get? p.1=some p.2/\H p.1=none/\p.1≠X.env.locals/\p.1∉X.fs/\∀v,p.2.data ≠ .cell v):Inv X pins' σ H s:=
 ⟨I.ok,I.os,I.bare,I.base,I.loc,I.cell,I.free,I.freeC,fun p hp=>(y9.mp hp).elim (fun z=>I.pin p (rV _ z)) (h p),I.hok,I.len⟩
theorem rm{N:List Str}(hN:N.Nodup){i j:Nat}{x:Str}(a:N[i]? = some x)(b:N[j]? = some x):i=j:=by
 obtain⟨h1,e1⟩:=List.getElem?_eq_some_iff.mp a;obtain⟨h2,e2⟩:=List.getElem?_eq_some_iff.mp b;exact(List.getElem_inj hN).mp (e1.trans e2.symm)
theorem pD{M:Model}{A:Around}{E:Value->Shared->Prop}{i:Nat}{x:Str}{v:V}{u:Value}{Q:Unit->Shared->Prop}(I:Inv X pins σ H s)(hN:X.N.Nodup)(hi:X.N[i]? = some x)(hx:Loc X.env.scope x)(r:RelV v u)
 (h:∀s',Inv X pins (σ.set i (some v)) H s'->(∃a,Yx a s.heap s'.heap/\(a=X.env.locals\/X.env.cells.lookup x=some a))->Q () s') (hf:X.fn x=true\/X.env.scope.names.lookup x=some .local:=by first|exact .inl rfl|exact .inr rfl|assumption):wpAny M A (storeName X.env x u) Q E s:=by
 obtain⟨m,hn,hl⟩:=id I.loc;have hcls:(X.env.scope.kind == .class || (X.env.scope.kind == .module&&X.env.locals != X.env.globals))=false:=by rw[I.ok.kind];rfl
 have hiσ:i<σ.length:=by rw[I.len];exact(List.getElem?_eq_some_iff.mp hi).1
 have cne:=I.cne;have tracked:∀ {a:Addr} {h':Heap},(∃o,s.heap.get? a=some o/\H a=none)->Yx a s.heap h'->HOk X.prog X.w H h':=fun {a h'} ha hs b ob e=>by
  obtain⟨_,_,hfree⟩:=ha;refine(I.hok b ob e).stay (fun c w' hc q=>(hs.2 c ?_).trans q) (fun _ q=>q) fun _ _ q=>q;rintro rfl;rcases hc with rfl|hc
  ·rw[hfree]at e;cases e
  ·rw[hfree]at hc;cases hc
 rcases hx with hk|hk
 ·refine wpAny_storeName_local hk hn (fun h' hn' hs=>?_) hcls
  obtain⟨oL,_,_,hoL,_⟩:=id hn;refine h _ ⟨I.ok,I.os,I.bare,⟨fun b o e n hb hx=>?_,fun b o e n hb hx=>?_,I.base.free,fun b o e hx=>?_,I.base.tups,I.base.frzs,I.base.tbls⟩,⟨_,hn',fun j y v' e1 e2 e3=>?_⟩,fun y c e=>?_,I.free,I.freeC,fun p hp=>?_,tracked ⟨oL,hoL,I.free⟩ hs,by simpa using I.len⟩ ⟨_,hs,.inl rfl⟩
  ·exact(hs.2 b (xK (rT (yr e) I.ok.above))).trans (I.base.keep b o e n hb hx)
  ·obtain⟨sl,e1⟩:=I.base.slot b o e n hb hx
   exact⟨sl,(hs.2 b (xK (rT (yr e) I.ok.above))).trans e1⟩
  ·obtain⟨o',e1⟩:=I.base.there b o e hx
   exact⟨o',(hs.2 b (xK (rT (yr e) I.ok.above))).trans e1⟩
  ·by_cases hj:j=i
   ·subst hj
    rw[hi]at e1;cases e1;rw[List.getElem?_set_self hiσ]at e2;cases e2;exact⟨u,r,.inl ⟨hk,by simp⟩⟩
   ·rw[List.getElem?_set_ne (Ne.symm hj)]at e2
    obtain⟨u',r',q⟩:=hl j y v' e1 e2 e3;refine⟨u',r',?_⟩;rcases q with ⟨k,e⟩|⟨k,c,e,z⟩
    ·refine .inl ⟨k,?_⟩
     have:y≠x:=fun e=>hj (rm hN e1 (e ▸ hi));simp[this,e]
    ·exact .inr ⟨k,c,e,z.sameBut hs (cne y c e)⟩
  ·obtain⟨w',z⟩:=I.cell y c e
   exact⟨w',z.sameBut hs (cne y c e)⟩
  ·obtain⟨e,n,ne,nf,d⟩:=I.pin p hp
   exact⟨(hs.2 p.1 ne).trans e,n,ne,nf,d⟩
 ·have hfn:X.fn x=true:=by
   rcases hf with z|z
   ·exact z
   ·rw[z]at hk;cases hk
  obtain⟨c,hc⟩:=I.ok.has x (.inl hk);obtain⟨w',z⟩:=I.cell x c hc;refine wpAny_storeName_cell I.ok.kind hk hc z (fun h' hc' hs=>?_);obtain⟨oc,hoc,hocd⟩:=id z;refine h { s with heap:=h' } ⟨I.ok,I.os,I.bare,⟨fun b o e n hb hx=>?_,fun b o e n hb hx=>?_,I.base.free,fun b o e hx=>?_,I.base.tups,I.base.frzs,I.base.tbls⟩,⟨m,hn.sameBut hs (Ne.symm (cne x c hc)),fun j y v' e1 e2 e3=>?_⟩,fun y c' e=>?_,I.free,I.freeC,fun p hp=>?_,tracked ⟨oc,hoc,I.freeC x c hc⟩ hs,by simpa using I.len⟩ ⟨c,hs,.inr hc⟩
  ·exact(hs.2 b (xK (rT (yr e) (I.ok.cab x c hfn hc)))).trans (I.base.keep b o e n hb hx)
  ·obtain⟨sl,e1⟩:=I.base.slot b o e n hb hx
   exact⟨sl,(hs.2 b (xK (rT (yr e) (I.ok.cab x c hfn hc)))).trans e1⟩
  ·obtain⟨o',e1⟩:=I.base.there b o e hx
   exact⟨o',(hs.2 b (xK (rT (yr e) (I.ok.cab x c hfn hc)))).trans e1⟩
  ·by_cases hj:j=i
   ·subst hj
    rw[hi]at e1;cases e1;rw[List.getElem?_set_self hiσ]at e2;cases e2;exact⟨u,r,.inr ⟨.inl hk,c,hc,hc'⟩⟩
   ·rw[List.getElem?_set_ne (Ne.symm hj)]at e2
    obtain⟨u',r',q⟩:=hl j y v' e1 e2 e3;refine⟨u',r',?_⟩;rcases q with q|⟨k,c',e,z'⟩
    ·exact .inl q
    ·refine .inr ⟨k,c',e,z'.sameBut hs ?_⟩
     rintro rfl;exact hj (rm hN e1 (I.ok.inj _ _ _ e hc ▸ hi))
  ·by_cases hcc:c'=c
   ·subst hcc;exact⟨_,hc'⟩
   ·obtain⟨w2,z2⟩:=I.cell y c' e
    exact⟨w2,z2.sameBut hs hcc⟩
  ·obtain⟨e,n,ne,nf,d⟩:=I.pin p hp
   refine⟨(hs.2 p.1 ?_).trans e,n,ne,nf,d⟩;intro q;rw[q,hoc]at e;have q':oc=p.2:=se e;exact d w' (by rw[<- q'];exact hocd)
theorem sT{M:Model}{A:Around}{E:Value->Shared->Prop}{i:Nat}{x:Str}{v:V}{u:Value}{Q:Unit->Shared->Prop}(I:Inv X pins σ H s)(hN:X.N.Nodup)(hi:X.N[i]? = some x)(hx:Loc X.env.scope x)(r:RelV v u)
 (h:∀s',Inv X pins (σ.set i (some v)) H s'->Q () s') (hf:X.fn x=true\/X.env.scope.names.lookup x=some .local:=by first|exact .inl rfl|exact .inr rfl|assumption):wpAny M A (storeName X.env x u) Q E s:=
 pD I hN hi hx r (fun s' I' _=>h s' I') hf
theorem Inv.call'{s':Shared}(I:Inv X pins σ H s)(ho:s'.os=s.os)(u:Un (frs X.stack) ch H H' s.heap s'.heap)(hok:HOk X.prog X.w H' s'.heap)(hg:AllBare s'.gens)
 (hch:∀b∈ch,(b∈X.ex\/X.s₀.heap.objs.size<=b)/\b≠X.env.locals/\(∀x c,X.env.cells.lookup x=some c->c≠b)/\∀p∈X.pn++pins,p.1≠b):Inv X pins σ H' s':=by
 obtain⟨h',g',d',t',o'⟩:=s';have e:o'=s.os:=ho;subst e;exact I.call (g':=g') (t':=t') (d':=d') u hok hg hch
end
abbrev XK:=Value->Option Addr->Hp->Prop
abbrev St:=List (Option V)
abbrev VK:=V->Hp->Prop
abbrev TE:=St->Hp->VK->Prop
abbrev TT:=St->Hp->(Bool->Hp->Prop)->Prop
abbrev TA:=St->Hp->(List V->Hp->Prop)->Prop
structure eO where
 nx:St->Hp->Prop
 rt:VK
 bk:St->Hp->Prop:=fun _ _=>False
 ct:St->Hp->Prop:=fun _ _=>False
abbrev TS:=eO->St->Hp->Prop
def EP(X:Cx)(pins:List (Addr × Obj))(σ:St)(Q:VK)(u:Value)(s':Shared):Prop:=∃v H',Inv X pins σ H' s'/\RelV v u/\Q v H'
def TP(X:Cx)(pins:List (Addr × Obj))(σ:St)(Q:Bool->Hp->Prop)(b:Bool)(s':Shared):Prop:=∃H',Inv X pins σ H' s'/\Q b H'
def AP(X:Cx)(pins:List (Addr × Obj))(σ:St)(Q:List V->Hp->Prop)(us:List Value)(s':Shared):Prop:=∃vs H',Inv X pins σ H' s'/\Vals vs us/\Q vs H'
def SP(X:Cx)(pins:List (Addr × Obj))(D:eO)(f:Flow)(s':Shared):Prop:=
 match f with
 | .next=>∃σ' H',Inv X pins σ' H' s'/\D.nx σ' H'
 | .brk=>∃σ' H',Inv X pins σ' H' s'/\D.bk σ' H'
 | .cont=>∃σ' H',Inv X pins σ' H' s'/\D.ct σ' H'
 | .ret u=>∃v σ' H',Inv X pins σ' H' s'/\RelV v u/\D.rt v H'
def PE(X:Cx)(e:Expr)(t:TE):Prop:=
 ∀(pins:List (Addr × Obj)) (s:Shared) (σ:St) (H:Hp) (Q:VK),Inv X pins σ H s->t σ H Q->wpAny (model X.prog X.w) X.A (eval e X.env) (EP X pins σ Q) X.xe s
def PT(X:Cx)(e:Expr)(t:TT):Prop:=
 ∀(pins:List (Addr × Obj)) (s:Shared) (σ:St) (H:Hp) (Q:Bool->Hp->Prop),Inv X pins σ H s->t σ H Q->wpAny (model X.prog X.w) X.A (isTrue e X.env (eval e X.env)) (TP X pins σ Q) X.xe s
def PW(X:Cx)(e:Expr)(t:TT):Prop:=
 ∀(whole:Sem Value) (pins:List (Addr × Obj)) (s:Shared) (σ:St) (H:Hp) (Q:Bool->Hp->Prop),Inv X pins σ H s->t σ H Q->wpAny (model X.prog X.w) X.A (isTrue e X.env whole) (TP X pins σ Q) X.xe s
theorem PW.pt{X:Cx}{e:Expr}{t:TT}(h:PW X e t):PT X e t:=h _
def PA(X:Cx)(es:List Expr)(t:TA):Prop:=
 ∀(pos:Pos) (pins:List (Addr × Obj)) (s:Shared) (σ:St) (H:Hp) (Q:List V->Hp->Prop),Inv X pins σ H s->t σ H Q->wpAny (model X.prog X.w) X.A (spliced (backTo pos (starEach es X.env))) (AP X pins σ Q) X.xe s
def PS(X:Cx)(st:Stmt)(t:TS):Prop:=
 ∀(pins:List (Addr × Obj)) (s:Shared) (σ:St) (H:Hp) (D:eO),Inv X pins σ H s->t D σ H->wpAny (model X.prog X.w) X.A (exec st X.env) (SP X pins D) X.xe s
def PSs(X:Cx)(st:List Stmt)(t:TS):Prop:=
 ∀(pins:List (Addr × Obj)) (s:Shared) (σ:St) (H:Hp) (D:eO),Inv X pins σ H s->t D σ H->wpAny (model X.prog X.w) X.A (execs st X.env) (SP X pins D) X.xe s
theorem thn{α:Type}{t:Sem α}{Q Q':α->Shared->Prop}{M:Model}{A:Around}{E:Value->Shared->Prop}{s:Shared}(h:wpAny M A t Q E s)(hQ:∀a s,Q a s->Q' a s):wpAny M A t Q' E s:=qN h hQ fun _ _ x=>x
section
variable{X:Cx}
theorem bin{a b:Expr}{ta tb:TE}(ha:PE X a ta)(hb:PE X b tb){pins:List (Addr × Obj)}{s:Shared}{σ:St}{H:Hp}{R:V->V->Hp->Prop}(I:Inv X pins σ H s)(h:ta σ H fun x H1=>tb σ H1 fun y H2=>R x y H2)
 {α:Type} {Q:α->Shared->Prop} {f:Value->Value->Sem α}
 (hf:∀v u s2 x y H2,Inv X pins σ H2 s2->RelV x v->RelV y u->R x y H2->wpAny (model X.prog X.w) X.A (f v u) Q X.xe s2) :
 wpAny (model X.prog X.w) X.A (eval a X.env) (fun v s₁=>wpAny (model X.prog X.w) X.A (eval b X.env) (fun u s₂=>wpAny (model X.prog X.w) X.A (f v u) Q X.xe s₂) X.xe s₁) X.xe s:=by
 refine thn (ha pins s σ H _ I h) fun v s1 ⟨x,H1,I1,r1,q1⟩=>?_;refine thn (hb pins s1 σ H1 _ I1 q1) fun u s2 ⟨y,H2,I2,r2,q2⟩=>?_;exact hf v u s2 x y H2 I2 r1 r2 q2
def IC(i:Nat):TE:=fun σ H Q=>∃v,σ[i]? = some (some v)/\Q v H
def tC(v:V):TE:=fun _ H Q=>Q v H
theorem FQ(hN:X.N[i]? = some x)(hv:Vis X.env.scope x)(hd:(x==("__debug__":Str))=false:=by decide)(hcd:(x==("__classdict__":Str))=false:=by decide):PE X (.Name x pos) (IC i):=by
 intro pins s σ H Q I h;obtain⟨v,e,h⟩:=h;obtain⟨m,hn,hl⟩:=I.loc;obtain⟨u,r,l⟩:=hl i x v hN e hv;have fin:EP X pins σ Q u s:=⟨v,H,I,r,h⟩;rcases l with ⟨hk,hm⟩|⟨hk,c,hc,hcell⟩
 ·exact wpAny_Name (wpAny_loadName_local I.ok.kind hk hn hm fin) hd
 ·rcases hk with hk|hk
  ·exact wpAny_Name (wpAny_loadName_cell I.ok.kind hk hc hcell fin) hd
  ·exact wpAny_Name (wpAny_loadName_free I.ok.kind hk hc hcell fin hcd) hd
theorem aa{i j pos}:PE X (.Constant (.int i) j pos) (tC (.int i)):=fun _ _ _ H _ I h=>wpAny_Constant_int ⟨.int i,H,I.tok _,⟨_,rfl⟩,h⟩
theorem eE{b j pos}:PE X (.Constant (.bool b) j pos) (tC (.bl b)):=fun _ _ _ H _ I h=>Constant_bool ⟨.bl b,H,I,rfl,h⟩
theorem cI{j pos}:PE X (.Constant .none j pos) (tC .non):=fun _ _ _ H _ I h=>Constant_none ⟨.non,H,I,rfl,h⟩
theorem Bm{x j pos}:PE X (.Constant (.str x) j pos) (tC (.str x)):=fun _ _ _ H _ I h=>Calls.Constant_str ⟨.str x,H,I.tok _,⟨_,rfl⟩,h⟩
def Gl(X:Cx)(x:Str):Prop:=X.env.kindOf x=some .globalImplicit
theorem gO{E:Value->Shared->Prop}{pins:List (Addr × Obj)}{s:Shared}{σ:St}{H:Hp}{x:Str}{u:Value}{pos:Pos}{Q:Value->Shared->Prop}(I:Inv X pins σ H s)(hg:Gl X x)(hm:X.mg x=some u)(h:Q u s)
 (hd:(x==("__debug__":Str))=false:=by decide):wpAny (model X.prog X.w) X.A (eval (.Name x pos) X.env) Q E s:=
 Calls.Name_function_global I.ok.kind hg (Calls.loadGlobal_global (by rw[I.ok.glob];exact I.mod.glob.keeps I.bk) hm h) hd
theorem gU{E:Value->Shared->Prop}{pins:List (Addr × Obj)}{s:Shared}{σ:St}{H:Hp}{x:Str}{u:Value}{pos:Pos}{Q:Value->Shared->Prop}(I:Inv X pins σ H s)(hg:Gl X x)(hm:X.mg x=none)(hv:qK x=some u)(h:Q u s)
 (hn:x ≠ "__name__":=by decide) (hd:(x==("__debug__":Str))=false:=by decide):wpAny (model X.prog X.w) X.A (eval (.Name x pos) X.env) Q E s:=by
 obtain⟨mb,h1,h2⟩:=I.mod.blt;exact Calls.Name_function_global I.ok.kind hg (Calls.loadGlobal_builtin (by rw[I.ok.glob];exact I.mod.glob.keeps I.bk) hm (by rw[I.ok.blt];exact h1.keeps I.bk) ((h2 x hn).trans hv) h) hd
theorem v_(hg:Gl X x)(hm:X.mg x=some u)(r:RelV v u)(hd:(x==("__debug__":Str))=false:=by decide):PE X (.Name x pos) (tC v):=
 fun _ _ _ H _ I h=>gO I hg hm ⟨v,H,I,r,h⟩ hd
theorem d9(hg:Gl X x)(hm:X.mg x=none)(hv:qK x=some u)(r:RelV v u)(hn:x ≠ "__name__":=by decide)(hd:(x==("__debug__":Str))=false:=by decide):PE X (.Name x pos) (tC v):=
 fun _ _ _ H _ I h=>gU I hg hm hv ⟨v,H,I,r,h⟩ hn hd
variable{a b:Expr}{ta tb:TE}{pos:Pos}
def PC(X:Cx)(op:CmpOp)(a b:Expr)(t:TE):Prop:=
 ∀(pins:List (Addr × Obj)) (s:Shared) (σ:St) (H:Hp) (Q:VK),Inv X pins σ H s->t σ H Q ->
  wpAny (model X.prog X.w) X.A (eval a X.env) (fun v s₁=>wpAny (model X.prog X.w) X.A (eval b X.env) (fun u s₂=>wpAny (model X.prog X.w) X.A (rB op v u) (EP X pins σ Q) X.xe s₂) X.xe s₁) X.xe s
theorem sk(b:Expr){op:CmpOp}(h:op ≠ .In)(h2:op ≠ .NotIn):Yi op b=false:=by
 have e1:(op==CmpOp.In)=false:=by cases op <;> first|rfl|exact absurd rfl h
 have e2:(op==CmpOp.NotIn)=false:=by cases op <;> first|rfl|exact absurd rfl h2
 cases b <;> simp[Yi,e1,e2]
def HC(ta:TE):TE:=fun σ H Q=>ta σ H fun x H1=>Q (.bl (decide (x = .non))) H1
def DY(ta:TE):TE:=fun σ H Q=>ta σ H fun x H1=>Q (.bl (!decide (x = .non))) H1
theorem RelV.none_iff{x:V}{v:Value}(r:RelV x v):(v==Zm)=decide (x = .non):=by
 cases x with
 |non=>cases r;rfl
 |bl _=>cases r;rfl
 |int _=>obtain⟨t,rfl⟩:=r;rfl
 |str _=>obtain⟨t,rfl⟩:=r;rfl
 |byt _=>obtain⟨t,rfl⟩:=r;rfl
 |flt _=>obtain⟨t,rfl⟩:=r;rfl
 |ref _=>cases r;rfl
 |ty _=>cases r;rfl
theorem j_{j pos'}(ha:PE X a ta):PC X .Is a (.Constant .none j pos') (HC ta):=by
 intro pins s σ H Q I h;refine thn (ha pins s σ H _ I h) fun v s1 ⟨x,H1,I1,r1,q1⟩=>?_;exact Constant_none (is_none_gen ⟨.bl _,H1,I1,by rw[r1.none_iff];rfl,q1⟩)
theorem cD{j pos'}(ha:PE X a ta):PC X .IsNot a (.Constant .none j pos') (DY ta):=by
 intro pins s σ H Q I h;refine thn (ha pins s σ H _ I h) fun v s1 ⟨x,H1,I1,r1,q1⟩=>?_;exact Constant_none (isnot_none_gen ⟨.bl _,H1,I1,by rw[r1.none_iff];rfl,q1⟩)
theorem pH(h:PC X op a b t)(h1:Yi op b=false:=by first|exact sk _ (by decide) (by decide)|rfl):PE X (.Compare a [op] [b] pos) t:=fun pins s σ H Q I hw=>wpAny_Compare1 (h pins s σ H Q I hw) h1
variable{tA tB':TT}{rest:List Expr}
def En(t u:TT):TT:=fun σ H Q=>t σ H fun c H1=>if c=true then u σ H1 Q else Q false H1
def tOr(t u:TT):TT:=fun σ H Q=>t σ H fun c H1=>if c=true then Q true H1 else u σ H1 Q
def GM(t:TT):TT:=fun σ H Q=>t σ H fun c H1=>Q (!c) H1
theorem eh(ha:PT X a tA):PW X (.BoolOp .And [a] pos) tA:=by
 intro wh pins s σ H Q I h;refine isTrue_and (thn (ha pins s σ H Q I h) fun c s1 e=>?_);cases c with
 |true=>exact isTrue_and_nil e
 |false=>exact e
theorem cS(ha:PT X a tA):PW X (.BoolOp .Or [a] pos) tA:=by
 intro wh pins s σ H Q I h;refine isTrue_or (thn (ha pins s σ H Q I h) fun c s1 e=>?_);cases c with
 |false=>exact isTrue_or_nil e
 |true=>exact e
theorem gr(ha:PT X a tA)(hb:PW X (.BoolOp .And (b::rest) pos) tB'):PW X (.BoolOp .And (a::b::rest) pos) (En tA tB'):=by
 intro wh pins s σ H Q I h;refine isTrue_and (thn (ha pins s σ H _ I h) fun c s1 ⟨H1,I1,q1⟩=>?_);cases c with
 |true=>exact hb wh pins s1 σ H1 Q I1 q1
 |false=>exact⟨H1,I1,q1⟩
theorem dw(ha:PT X a tA)(hb:PW X (.BoolOp .Or (b::rest) pos) tB'):PW X (.BoolOp .Or (a::b::rest) pos) (tOr tA tB'):=by
 intro wh pins s σ H Q I h;refine isTrue_or (thn (ha pins s σ H _ I h) fun c s1 ⟨H1,I1,q1⟩=>?_);cases c with
 |true=>exact⟨H1,I1,q1⟩
 |false=>exact hb wh pins s1 σ H1 Q I1 q1
theorem bB(ha:PT X a tA):PT X (.UnaryOp .Not a pos) (GM tA):=by
 intro pins s σ H Q I h;exact isTrue_not (ha pins s σ H (fun c H1=>Q (!c) H1) I h)
theorem d6{op}(h:PE X a t):PE X (.BoolOp op [a] pos) t:=fun pins s σ H Q I hw=>BoolOp_one (h pins s σ H Q I hw)
def tIf(t:TT)(ta tb:TE):TE:=fun σ H Q=>t σ H fun c H1=>if c=true then ta σ H1 Q else tb σ H1 Q
theorem z0{c:Expr}(hc:PT X c tA)(ha:PE X a ta)(hb:PE X b tb):PE X (.IfExp c a b pos) (tIf tA ta tb):=by
 intro pins s σ H Q I h;refine wpAny_IfExp (thn (hc pins s σ H _ I h) fun d s1 ⟨H1,I1,q1⟩=>?_);cases d with
 |true=>exact ha pins s1 σ H1 Q I1 q1
 |false=>exact hb pins s1 σ H1 Q I1 q1
end
def SqL(K:W.Frag)(H:Hp)(a:Addr)(xs:List V):Prop:=
 Rd H a (.lst xs) \/
  ∃(o:Obj) (its:Array Value) (n:Nat),K.lookup a=some o/\o.cls = .type "list" /\ o.dict=none/\o.data = .seq its n/\its.size<=sizeLine/\Vals xs its.toList
def SqT(K:W.Frag)(H:Hp)(a:Addr)(xs:List V):Prop:=
 Rd H a (.tup xs) \/
  ∃(o:Obj) (its:Array Value) (n:Nat),K.lookup a=some o/\o.cls = .type "tuple" /\ o.data = .seq its n/\its.size<=sizeLine/\Vals xs its.toList
def Ir:Value->Option V
 | .none=>some .non
 | .bool b=>some (.bl b)
 | .int i _=>some (.int i)
 | .str x _=>some (.str x)
 | .bytes b _=>some (.byt b)
 | .float b _=>some (.flt b)
 | .ref a=>some (.ref a)
 | .type n=>some (.ty n)
 |_=>none
theorem RelV.abs(r:RelV x u):Ir u=some x:=by
 cases x with
 |non=>cases r;rfl
 |bl _=>cases r;rfl
 |int _=>obtain⟨t,rfl⟩:=r;rfl
 |str _=>obtain⟨t,rfl⟩:=r;rfl
 |byt _=>obtain⟨t,rfl⟩:=r;rfl
 |flt _=>obtain⟨t,rfl⟩:=r;rfl
 |ref _=>cases r;rfl
 |ty _=>cases r;rfl
theorem RelV.inj(r:RelV x u)(q:RelV y u):x=y:=se (r.abs.symm.trans q.abs)
theorem Vals.inj:∀ {xs ys:List V} {us:List Value},Vals xs us->Vals ys us->xs=ys
 |_,_,_,.nil,.nil=>rfl
 |_,_,_,.cons r t,.cons r' t'=>by rw[r.inj r',Vals.inj t t']
section
variable{X:Cx}{pins:List (Addr × Obj)}{σ:St}{H:Hp}{s:Shared}{a:Addr}{xs ys:List V}
theorem SqL.of{K:W.Frag}(h:H a=some (.lst xs)):SqL K H a xs:=.inl (.inl h)
theorem SqT.of{K:W.Frag}(h:H a=some (.tup xs)):SqT K H a xs:=.inl (.inl h)
theorem Inv.list(I:Inv X pins σ H s)(h:SqL X.K H a xs):∃its:List Value,Vals xs its/\PlainL s.heap a its.toArray/\xs.length<=sizeLine:=by
 rcases h with h|⟨o,its,n,hk,hc,hd,hs,hz,r⟩
 ·obtain⟨z,its,n,r,e⟩:=h.ok I.hok
  exact⟨its,r,⟨_,n,e,rfl,rfl,rfl⟩,z⟩
 ·refine⟨its.toList,r,⟨o,n,I.kIn a o hk,hc,hd,by simpa using hs⟩,?_⟩
  have e:=r.length;simp only[xO]at e;lia
theorem Inv.tuple(I:Inv X pins σ H s)(h:SqT X.K H a xs):∃its:List Value,Vals xs its/\IsTup s.heap a its.toArray/\xs.length<=sizeLine:=by
 rcases h with h|⟨o,its,n,hk,hc,hs,hz,r⟩
 ·obtain⟨z,its,r,p⟩:=h.ok I.hok
  exact⟨its,r,p,z⟩
 ·refine⟨its.toList,r,⟨o,I.kIn a o hk,hc,n,by simpa using hs⟩,?_⟩
  have e:=r.length;simp only[xO]at e;lia
theorem Inv.list_inj(I:Inv X pins σ H s)(h:SqL X.K H a xs)(h':SqL X.K H a ys):xs=ys:=by
 obtain⟨its,r,⟨o,n,e,_,_,d⟩,_⟩:=I.list h;obtain⟨its',r',⟨o',n',e',_,_,d'⟩,_⟩:=I.list h';rw[e]at e';cases e';rw[d]at d';injection d' with d1 _
 have:its=its':=by simpa using congrArg Array.toList d1
 subst this;exact r.inj r'
theorem Inv.tuple_inj(I:Inv X pins σ H s)(h:SqT X.K H a xs)(h':SqT X.K H a ys):xs=ys:=by
 obtain⟨its,r,⟨o,e,_,n,d⟩,_⟩:=I.tuple h;obtain⟨its',r',⟨o',e',_,n',d'⟩,_⟩:=I.tuple h';rw[e]at e';cases e';rw[d]at d';injection d' with d1 _
 have:its=its':=by simpa using congrArg Array.toList d1
 subst this;exact r.inj r'
end
abbrev Cx.wish(X:Cx)(E:Value->Shared->Prop):Cx:={ X with xe:=E }
abbrev Cx.nox(X:Cx):Cx:=X.wish fun _ _=>False
section
variable{X:Cx}{pins:List (Addr × Obj)}{σ:St}{H:Hp}{s:Shared}{E:Value->Shared->Prop}
end
section
variable{X:Cx}{st:Stmt}{rest:List Stmt}{t u:TS}{e:Expr}{te:TE}{pos:Pos}
def D4:TS:=fun D σ H=>D.nx σ H
def GK(t u:TS):TS:=fun D σ H=>t { D with nx:=u D } σ H
theorem aL:PSs X [] D4:=fun _ _ σ H _ I h=>XW ⟨σ,H,I,h⟩
theorem af(h1:PS X st t)(h2:PSs X rest u):PSs X (st::rest) (GK t u):=by
 intro pins s σ H D I h;refine wpAny_execs_cons (thn (h1 pins s σ H { D with nx:=u D } I h) fun f s1 q=>?_);cases f with
 |next=>
  obtain⟨σ',H',I',q⟩:=q;exact h2 pins s1 σ' H' D I' q
 |ret v=>exact q
 |brk=>exact q
 |cont=>exact q
theorem ag(h1:PS X st t):PSs X [st] t:=by
 intro pins s σ H D I h;refine wpAny_execs_cons (thn (h1 pins s σ H D I h) fun f s1 q=>?_);cases f with
 |next=>exact XW q
 |ret v=>exact q
 |brk=>exact q
 |cont=>exact q
theorem Inv.quiet{pins:List (Addr × Obj)}{σ:St}{H:Hp}{s:Shared}(I:Inv X pins σ H s):interactive X.env=false:=by simp[interactive,I.ok.kind]
def DT(te:TE):TS:=fun D σ H=>te σ H fun _ H1=>D.nx σ H1
theorem bC(he:PE X e te)(hs:swapsWith e none pos.line X.env=pure false:=by rfl):PS X (.Expr e pos) (DT te):=by
 intro pins s σ H D I h;exact wpAny_Expr_any (thn (he pins s σ H _ I h) fun v s1 ⟨x,H1,I1,r1,q1⟩=>⟨σ,H1,I1,q1⟩) I.quiet hs
def Gw(te:TE):TS:=fun D σ H=>te σ H D.rt
theorem aJ(he:PE X e te):PS X (.Return (some e) pos) (Gw te):=by
 intro pins s σ H D I h;exact wpAny_Return_some (thn (he pins s σ H _ I h) fun v s1 ⟨x,H1,I1,r1,q1⟩=>⟨x,σ,H1,I1,r1,q1⟩)
def Hn(c:TT)(t u:TS):TS:=fun D σ H=>c σ H fun b H1=>if b=true then t D σ H1 else u D σ H1
theorem aW{c:Expr}{a b:List Stmt}{tc:TT}(hc:PT X c tc)(ha:PSs X a t)(hb:PSs X b u):PS X (.If c a b pos) (Hn tc t u):=by
 intro pins s σ H D I h;refine wpAny_If (thn (hc pins s σ H _ I h) fun d s1 ⟨H1,I1,q1⟩=>?_);cases d with
 |true=>exact ha pins s1 σ H1 D I1 q1
 |false=>exact hb pins s1 σ H1 D I1 q1
end
abbrev TG:=V->St->Hp->(St->Hp->Prop)->Prop
abbrev TGs:=List V->St->Hp->(St->Hp->Prop)->Prop
def PG(X:Cx)(target:Expr)(t:TG):Prop:=
 ∀(pins:List (Addr × Obj)) (s:Shared) (σ:St) (H:Hp) (v:V) (u:Value) (Q:St->Hp->Prop),Inv X pins σ H s->RelV v u->t v σ H Q ->
  wpAny (model X.prog X.w) X.A (assign target X.env u) (fun _ s'=>∃σ' H',Inv X pins σ' H' s'/\Q σ' H') X.xe s
def PGs(X:Cx)(ts:List Expr)(t:TGs):Prop:=
 ∀(pins:List (Addr × Obj)) (s:Shared) (σ:St) (H:Hp) (vs:List V) (us:List Value) (Q:St->Hp->Prop),Inv X pins σ H s->Vals vs us->t vs σ H Q ->
  wpAny (model X.prog X.w) X.A (assignInOrder ((YH ts X.env).map (·.2)) us) (fun _ s'=>∃σ' H',Inv X pins σ' H' s'/\Q σ' H') X.xe s
abbrev Ek:=V->V->V->Hp->(Hp->Prop)->Prop
def GT(X:Cx)(t:Ek):Prop:=
 ∀(pins:List (Addr × Obj)) (s:Shared) (σ:St) (H:Hp) (o i v:V) (ov iv u:Value) (Q:Hp->Prop),Inv X pins σ H s->RelV o ov->RelV i iv->RelV v u->t o i v H Q ->
  wpAny (model X.prog X.w) X.A (setItem ov iv u) (fun _ s'=>∃H',Inv X pins σ H' s'/\Q H') X.xe s
section
variable{X:Cx}{pos:Pos}
def hZ(i:Nat):TG:=fun v σ H Q=>Q (σ.set i (some v)) H
theorem aF(hN:X.N.Nodup)(hi:X.N[i]? = some x)(hx:Loc X.env.scope x)(hf:X.fn x=true\/X.env.scope.names.lookup x=some .local:=by first|exact .inl rfl|exact .inr rfl|assumption):PG X (.Name x pos) (hZ i):=by
 intro pins s σ H v u Q I r h;exact wpAny_assign_Name (sT I hN hi hx r (fun s' I'=>⟨_,H,I',h⟩) hf)
def GD:TGs:=fun vs σ H Q=>vs=[]/\Q σ H
def DX(t:TG)(u:TGs):TGs:=fun vs σ H Q=>∃v r,vs=v::r/\t v σ H fun σ' H'=>u r σ' H' Q
theorem dP:PGs X [] GD:=by
 intro pins s σ H vs us Q I r h;obtain⟨e,h⟩:=h;subst e;cases r;exact assignInOrder_nil ⟨σ,H,I,h⟩
theorem aU{e:Expr}{es:List Expr}{t:TG}{u:TGs}(h1:PG X e t)(h2:PGs X es u)
 (hs:(YH (e::es) X.env).map (·.2)=assign e X.env::(YH es X.env).map (·.2):=by rfl):PGs X (e::es) (DX t u):=by
 intro pins s σ H vs us Q I r h;obtain⟨v,vr,e1,h⟩:=h;subst e1;cases r with
 |cons r rr=>
  rw[hs];refine assignInOrder_cons (thn (h1 pins s σ H _ _ _ I r h) fun _ s1 ⟨σ1,H1,I1,q1⟩=>?_);exact h2 pins s1 σ1 H1 _ _ Q I1 rr q1
def Fb(K:W.Frag)(n:Nat)(t:TGs):TG:=fun v σ H Q=>∃a xs,v = .ref a/\SqT K H a xs/\xs.length=n/\t xs σ H Q
theorem FU(hc:X.calm=true)(h:PGs X es t)
 (hn:(YH es X.env).length=n:=by rfl) (hst:(YH es X.env).findIdx? (·.1)=none:=by rfl):PG X (.Tuple es k pos) (Fb X.K n t):=by
 intro pins s σ H v u Q I r hw;obtain⟨a,xs,e1,hq,hl,hw⟩:=hw;subst e1;cases r;obtain⟨its,rv,ht,hz⟩:=I.tuple hq;refine assign_Tuple_tuple (I.ok.hd hc) ht (by simp[hn,<- hl,rv.length]) hst fun h' hx=>?_;have I1:Inv X pins σ H { s with heap:=h' }:=I.kept (t':=s.toks) fun b o e=>hx b o (xK (yr e)) e;exact h pins _ σ H xs _ Q I1 (by simpa using rv) hw
def HN(to ti:TE)(t:Ek):TG:=fun v σ H Q=>to σ H fun o H1=>ti σ H1 fun i H2=>t o i v H2 fun H3=>Q σ H3
theorem yP{o i:Expr}{to ti:TE}{t:Ek}(ho:PE X o to)(hi:PE X i ti)(hs:GT X t)
 (ha:∀v,assign (.Subscript o i pos) X.env v=(do
  let ov <- holding [v] (eval o X.env)
  let iv <- holding [v,ov] (eval i X.env)
  standAt pos
  holding [v,ov,iv] (setItem ov iv v)
  release [v,ov,iv] []):=by intro _;rfl):PG X (.Subscript o i pos) (HN to ti t):=by
 intro pins s σ H v u Q I r h;rw[ha];refine zm (Ze (thn (ho pins s σ H _ I h) fun ov s1 ⟨x,H1,I1,r1,q1⟩=>?_));refine zm (Ze (thn (hi pins s1 σ H1 _ I1 q1) fun iv s2 ⟨y,H2,I2,r2,q2⟩=>?_));refine zm (Y7 (zm (Ze (thn (hs pins s2 σ H2 x y v ov iv u _ I2 r1 r2 r q2) fun _ s3 ⟨H3,I3,q3⟩=>?_))));exact wpAny_release ⟨σ,H3,I3,q3⟩
def uZ(te:TE)(g:TG):TS:=fun D σ H=>te σ H fun x H1=>g x σ H1 D.nx
theorem nJ{tg e:Expr}{te:TE}{g:TG}(he:PE X e te)(hg:PG X tg g)(hs:swapsWithSole [tg] e pos.line X.env=pure false:=by rfl)(hw:swappedStores [tg] e X.env=pure none:=by rfl)
 (h1:(YH [tg] X.env).map (·.2)=[assign tg X.env]:=by rfl):PS X (.Assign [tg] e pos) (uZ te g):=by
 intro pins s σ H D I h;refine wpAny_Assign_stores (thn (he pins s σ H _ I h) fun v s1 ⟨x,H1,I1,r1,q1⟩=>?_) hs hw;rw[h1];exact thn (hg pins s1 σ H1 x v _ I1 r1 q1) fun _ s2 q=>q
theorem Es{i:Nat}{x:Str}{e:Expr}{te:TE}{pos':Pos}(hN:X.N.Nodup)(hi:X.N[i]? = some x)(hx:Loc X.env.scope x)(he:PE X e te)(hs:swapsWith e (some (.Name x pos')) pos.line X.env=pure false:=by rfl)(hf:X.fn x=true\/X.env.scope.names.lookup x=some .local:=by first|exact .inl rfl|exact .inr rfl|assumption) :
 PS X (.Assign [.Name x pos'] e pos) (uZ te (hZ i)):=by
 intro pins s σ H D I h;refine wpAny_Assign_Name (thn (he pins s σ H _ I h) fun v s1 ⟨y,H1,I1,r1,q1⟩=>?_) hs;exact sT I1 hN hi hx r1 (fun s2 I2=>⟨_,H1,I2,q1⟩) hf
def EG(c:TT)(tb:TS):TS:=fun D σ H=>∃W:Nat->St->Hp->Prop,(∃m,W m σ H)/\∀m σ H,W m σ H ->
 c σ H fun b H1=>if b=true then ∃N:St->Hp->Prop,(∀σ' H',N σ' H'->∃m',m'<m/\W m' σ' H')/\tb { D with nx:=N,ct:=N,bk:=D.nx } σ H1 else D.nx σ H1
theorem ip{c:Expr}{body:List Stmt}{tc:TT}{tb:TS}(hp:PassesOwn (model X.prog X.w) X.A X.env X.xe)(hc:PT X c tc)(hb:PSs X body tb):PS X (.While c body [] pos) (EG tc tb):=by
 intro pins s σ H D I h;obtain⟨W,⟨m0,w0⟩,turn⟩:=h;refine wpAny_While (codeAny_whileLoop (fun n s'=>∃σ' H',Inv X pins σ' H' s'/\W n σ' H') ?_ m0 ⟨σ,H,I,w0⟩);rintro n s1 ⟨σ1,H1,I1,w1⟩;refine YV hp (thn (hc pins s1 σ1 H1 _ I1 (turn n σ1 H1 w1)) fun b s2 ⟨H2,I2,q2⟩=>?_);cases b with
 |true=>
  obtain⟨N,hN,q2⟩:=q2;rw[if_pos rfl];refine YV hp (thn (hb pins s2 σ1 H2 _ I2 q2) fun f s3 q3=>?_);cases f with
  |next=>
   obtain⟨σ3,H3,I3,n3⟩:=q3;obtain⟨m',hm,w3⟩:=hN σ3 H3 n3;exact⟨m',hm,σ3,H3,I3,w3⟩
  |cont=>
   obtain⟨σ3,H3,I3,n3⟩:=q3;obtain⟨m',hm,w3⟩:=hN σ3 H3 n3;exact⟨m',hm,σ3,H3,I3,w3⟩
  |brk=>exact q3
  |ret v=>exact q3
 |false=>
  rw[if_neg xa];exact XW ⟨σ1,H2,I2,q2⟩
end
structure It where
 go:Nat->Hp->Prop
 yld:Nat->Hp->V->Hp->Prop
 stop:Nat->Hp->Prop
def jq(X:Cx)(pins:List (Addr × Obj))(H:Hp)(b:Addr):Prop:=
 H b=none/\b≠X.env.locals/\b∉X.fs/\(b∈X.ex\/X.s₀.heap.objs.size<=b)/\(∀x c,X.env.cells.lookup x=some c->c≠b)/\∀p∈X.pn++pins,p.1≠b
theorem Inv.fpOk{X:Cx}{pins:List (Addr × Obj)}{σ:St}{H H':Hp}{s:Shared}{b:Addr}(I:Inv X pins σ H s)(hb:s.heap.objs.size<=b)(hn:H' b=none):jq X pins H' b:=by
 refine⟨hn,Nat.ne_of_gt (rT I.lt hb),I.nofs hb,.inr (uM I.sz hb),fun x c e z=>?_,fun p hp z=>?_⟩
 ·obtain⟨v,q⟩:=I.cell x c e
  exact absurd (rT q.lt (by rw[z];exact hb)) (ZJ _)
 ·exact absurd (rT (yr (I.pin p hp).1) (by rw[z];exact hb)) (ZJ _)
structure tB(P:Program)(w:World)(K:W.Frag)(tg:Expr)(J:It)(fp:List Addr)(it:Addr)(tn:Nat->Heap->Prop):Prop where
 mem:it∈fp
 obj:∀i h,tn i h->∀b∈fp,∃o,h.get? b=some o/\∀v,o.data ≠ .cell v
 keep:∀i h h',tn i h->(∀b∈fp,∀o,h.get? b=some o->h'.get? b=some o)->tn i h'
 item:∀(X:Cx),X.prog=P->X.w=w->X.K=K->X.calm=true->∀(i:Nat) (pins:List (Addr × Obj)) (s:Shared) (σ:St) (H:Hp) (E:Value->Shared->Prop),Inv X pins σ H s->(∀b∈fp,jq X pins H b)->tn i s.heap->J.go i H ->
  wpAny (model P w) X.A (pyNext (.ref it)) (fun r s1=>∃u,r=some u /\
   wpAny (model P w) X.A (XV tg (.ref it) u) (fun _ s2=>∃x H',Inv X pins σ H' s2/\RelV x u/\J.yld i H x H'/\tn (i+1) s2.heap/\∀b∈fp,H' b=none) E s1) E s
 done:∀(X:Cx),X.prog=P->X.w=w->X.K=K->X.calm=true->∀(i:Nat) (pins:List (Addr × Obj)) (s:Shared) (σ:St) (H:Hp) (E:Value->Shared->Prop),Inv X pins σ H s->(∀b∈fp,jq X pins H b)->tn i s.heap->J.stop i H ->
  wpAny (model P w) X.A (pyNext (.ref it)) (fun r s1=>r=none/\Inv X pins σ H s1) E s
 self:∀(A:Around) (i:Nat) (s:Shared) (Q:Value->Shared->Prop) (E:Value->Shared->Prop),tn i s.heap->Q (.ref it) s->wpAny (model P w) A (pyIter (.ref it)) Q E s
abbrev TI:=St->Hp->(It->Hp->Prop)->Prop
def PIE(X:Cx)(pins:List (Addr × Obj))(σ:St)(tg:Expr)(R:It->Hp->Prop)(itv:Value)(s2:Shared):Prop:=
 ∃(it:Addr) (fp:List Addr) (tn:Nat->Heap->Prop) (J:It) (H':Hp),itv = .ref it/\Inv X pins σ H' s2/\tB X.prog X.w X.K tg J fp it tn/\tn 0 s2.heap/\(∀b∈fp,jq X pins H' b)/\R J H'
def PI(X:Cx)(tg iter:Expr)(wi:TI):Prop:=
 ∀(pins:List (Addr × Obj)) (s:Shared) (σ:St) (H:Hp) (R:It->Hp->Prop),Inv X pins σ H s->wi σ H R ->
  wpAny (model X.prog X.w) X.A (eval iter X.env) (fun v s1=>wpAny (model X.prog X.w) X.A (pyIter v) (PIE X pins σ tg R) X.xe s1) X.xe s
theorem lj{s:Shared}{o:Obj}(ho:s.heap.get? it=some o)(hc:o.cls = .type n)(hd:o.data = .fields vs)
 (hn:["enumerate","zip","dict_itemiterator","dict_reverseitemiterator","odict_iterator","itertools.zip_longest","itertools.pairwise"].contains n=false) (hQ:Q () s):wpAny M A (XV tg (.ref it) u) Q E s:=by
 unfold XV;cases tg <;> first
  |exact za hQ
  |(cases u <;> first
   |exact za hQ
   |(refine zm (wpAny_load ho ?_);rw[hc,hd];show wpAny M A (if (["enumerate","zip","dict_itemiterator","dict_reverseitemiterator","odict_iterator","itertools.zip_longest","itertools.pairwise"].contains n&&vs[0]? == some (rawInt _))=true then _ else _) Q E s;rw[if_neg (by intro h;rw[hn,Bool.false_and]at h;cases h)];exact za hQ))
def Itl(K:W.Frag)(a:Addr):It:=
 ⟨fun i H=>∃xs x,SqL K H a xs/\xs[i]? = some x,fun i H x H'=>H'=H/\∀xs,SqL K H a xs->xs[i]? = some x,fun i H=>∃xs,SqL K H a xs/\xs.length<=i⟩
def Itt(K:W.Frag)(a:Addr):It:=
 ⟨fun i H=>∃xs x,SqT K H a xs/\xs[i]? = some x,fun i H x H'=>H'=H/\∀xs,SqT K H a xs->xs[i]? = some x,fun i H=>∃xs,SqT K H a xs/\xs.length<=i⟩
def Itr(lo:Int)(n:Nat):It:=⟨fun i _=>i<n,fun i H x H'=>H'=H/\x = .int (lo+i),fun i _=>n<=i⟩
theorem xS{P:Program}{w:World}{K:W.Frag}{tg:Expr}(a it:Addr):tB P w K tg (Itl K a) [it] it (fun i h=>h.IsListIter it a i) where
 mem:=by simp
 obj:=fun i h st b hb=>by
  have e:b=it:=by simpa using hb
  subst e;obtain⟨o,e,c,d⟩:=st;exact⟨o,e,fun v z=>by rw[d]at z;cases z⟩
 keep:=fun i h h' st k=>st.at fun o e=>k it (by simp) o e
 item:=by
  intro X hP hw hK hc i pins s σ H E I hf st hg;subst hP hw hK;obtain⟨xs,x,hq,hx⟩:=hg;obtain⟨its,rv,p,hz⟩:=I.list hq;obtain⟨u,hu,ru⟩:=rv.get hx;obtain⟨f0,f1,f2,f3,f4,f5⟩:=hf it (by simp);refine wpAny_pyNext_list_item st p.isList (x:=u) (by simpa using hu) fun h' st' sb=>?_;have I1:Inv X pins σ H { s with heap:=h' }:=I.turned (t':=s.toks) (fun b o hb e=>(sb.2 b hb).trans e) f0 f1 f3 f4 f5;obtain⟨o,e,c,d⟩:=id st';exact⟨u,rfl,lj (s:={ s with heap:=h' }) e c d (by decide) ⟨x,H,I1,ru,⟨rfl,fun ys hy=>by rw[I.list_inj hy hq];exact hx⟩,st',fun b hb=>(hf b hb).1⟩⟩
 done:=by
  intro X hP hw hK hc i pins s σ H E I hf st hg;subst hP hw hK;obtain⟨xs,hq,hx⟩:=hg;obtain⟨its,rv,p,hz⟩:=I.list hq;obtain⟨f0,f1,f2,f3,f4,f5⟩:=hf it (by simp);have hl:=rv.length;exact wpAny_pyNext_list_end (I.ok.hd hc) st p.isList (by simp;lia) fun h' eb=>⟨rfl,I.turned (t':=s.toks) (fun b o hb e=>eb b o hb e) f0 f1 f3 f4 f5⟩
 self:=fun _ _ _ _ _ st h=>wpAny_pyIter_listiter st h
theorem vb{P:Program}{w:World}{K:W.Frag}{tg:Expr}(a it:Addr):tB P w K tg (Itt K a) [it] it (fun i h=>h.IsTupleIter it a i) where
 mem:=by simp
 obj:=fun i h st b hb=>by
  have e:b=it:=by simpa using hb
  subst e;obtain⟨o,e,c,d⟩:=st;exact⟨o,e,fun v z=>by rw[d]at z;cases z⟩
 keep:=fun i h h' st k=>st.at fun o e=>k it (by simp) o e
 item:=by
  intro X hP hw hK hc i pins s σ H E I hf st hg;subst hP hw hK;obtain⟨xs,x,hq,hx⟩:=hg;obtain⟨its,rv,p,hz⟩:=I.tuple hq;obtain⟨u,hu,ru⟩:=rv.get hx;obtain⟨f0,f1,f2,f3,f4,f5⟩:=hf it (by simp);refine wpAny_pyNext_tuple_item st (show s.heap.IsTuple a its.toArray from p) (x:=u) (by simpa using hu) fun h' st' sb=>?_;have I1:Inv X pins σ H { s with heap:=h' }:=I.turned (t':=s.toks) (fun b o hb e=>(sb.2 b hb).trans e) f0 f1 f3 f4 f5;obtain⟨o,e,c,d⟩:=id st';exact⟨u,rfl,lj (s:={ s with heap:=h' }) e c d (by decide) ⟨x,H,I1,ru,⟨rfl,fun ys hy=>by rw[I.tuple_inj hy hq];exact hx⟩,st',fun b hb=>(hf b hb).1⟩⟩
 done:=by
  intro X hP hw hK hc i pins s σ H E I hf st hg;subst hP hw hK;obtain⟨xs,hq,hx⟩:=hg;obtain⟨its,rv,p,hz⟩:=I.tuple hq;obtain⟨f0,f1,f2,f3,f4,f5⟩:=hf it (by simp);have hl:=rv.length;exact wpAny_pyNext_tuple_end (I.ok.hd hc) st (show s.heap.IsTuple a its.toArray from p) (by simp;lia) fun h' eb=>⟨rfl,I.turned (t':=s.toks) (fun b o hb e=>eb b o hb e) f0 f1 f3 f4 f5⟩
 self:=fun _ _ _ _ _ st h=>wpAny_pyIter_tupleiter st h
theorem uV{P:Program}{w:World}{K:W.Frag}{tg:Expr}(it:Addr)(lo:Int)(n:Nat):tB P w K tg (Itr lo n) [it] it (fun i h=>IsRangeIter h it (lo+(i:Nat)*1) ((n:Int)-(i:Nat)) 1) where
 mem:=by simp
 obj:=fun i h st b hb=>by
  have e:b=it:=by simpa using hb
  subst e;exact⟨_,st,fun v z=>by
   have z':Data.fields _=Data.cell v:=z;cases z'⟩
 keep:=fun i h h' st k=>k it (by simp) _ st
 item:=by
  intro X hP hw hK hc i pins s σ H E I hf st hg;subst hP hw hK;obtain⟨f0,f1,f2,f3,f4,f5⟩:=hf it (by simp);have W:=Walks.range (prog:=X.prog) (w:=X.w) (I.ok.hd hc) it lo 1 n;refine W.item i s _ _ hg st fun v h' tk hv st' kk=>?_;obtain⟨t,rfl⟩:=hv;have I1:Inv X pins σ H { s with heap:=h',toks:=tk }:=I.turned (fun b o hb e=>kk b o (by simpa using hb) e) f0 f1 f3 f4 f5;refine⟨_,rfl,lj (s:={ s with heap:=h',toks:=tk }) (n:="range_iterator") st' rfl rfl (by decide) ⟨.int (lo+i),H,I1,⟨t,?_⟩,⟨rfl,rfl⟩,st',fun b hb=>(hf b hb).1⟩⟩;rw[Int.mul_one]
 done:=by
  intro X hP hw hK hc i pins s σ H E I hf st hg;subst hP hw hK;obtain⟨f0,f1,f2,f3,f4,f5⟩:=hf it (by simp);exact wpAny_pyNext_range_end (I.ok.hd hc) st (by have:n<=i:=hg;lia) fun h' eb=>⟨rfl,I.turned (t':=s.toks) (fun b o hb e=>eb b o hb e) f0 f1 f3 f4 f5⟩
 self:=fun _ _ _ _ _ st h=>wpAny_pyIter_rangeiter st h
section
variable{X:Cx}{tg:Expr}
def mP(K:W.Frag)(tl:TE):TI:=fun σ H R=>tl σ H fun x H1=>∃a,x = .ref a/\(∃xs,SqL K H1 a xs)/\R (Itl K a) H1
def w6(K:W.Frag)(tl:TE):TI:=fun σ H R=>tl σ H fun x H1=>∃a,x = .ref a/\(∃xs,SqT K H1 a xs)/\R (Itt K a) H1
theorem CZ{l:Expr}{tl:TE}(hl:PE X l tl):PI X tg l (mP X.K tl):=by
 intro pins s σ H R I h;refine thn (hl pins s σ H _ I h) fun v s1 ⟨x,H1,I1,r1,q1⟩=>?_;obtain⟨a,e,⟨xs,hq⟩,q⟩:=q1;subst e;cases r1;obtain⟨its,rv,p,hz⟩:=I1.list hq;refine Xy p.isList ?_;refine⟨s1.heap.objs.size,[s1.heap.objs.size],_,_,H1,rfl,I1.kept (t':=s1.toks) fun b o e=>Heap.get?_push_of_some _ e,xS a _,⟨_,Heap.get?_push_size _ rfl,rfl,rfl⟩,fun b hb=>?_,q⟩;have e:b=s1.heap.objs.size:=by simpa using hb
 subst e;exact I1.fpOk (z4 _) (I1.hok.fresh (z4 _))
theorem Ew{l:Expr}{tl:TE}(hl:PE X l tl):PI X tg l (w6 X.K tl):=by
 intro pins s σ H R I h;refine thn (hl pins s σ H _ I h) fun v s1 ⟨x,H1,I1,r1,q1⟩=>?_;obtain⟨a,e,⟨xs,hq⟩,q⟩:=q1;subst e;cases r1;obtain⟨its,rv,p,hz⟩:=I1.tuple hq;refine wpAny_pyIter_tuple (show s1.heap.IsTuple a its.toArray from p) ?_;refine⟨s1.heap.objs.size,[s1.heap.objs.size],_,_,H1,rfl,I1.kept (t':=s1.toks) fun b o e=>Heap.get?_push_of_some _ e,vb a _,⟨_,Heap.get?_push_size _ rfl,rfl,rfl⟩,fun b hb=>?_,q⟩;have e:b=s1.heap.objs.size:=by simpa using hb
 subst e;exact I1.fpOk (z4 _) (I1.hok.fresh (z4 _))
theorem tZ{pins:List (Addr × Obj)}{σ:St}{H:Hp}{s:Shared}{R:It->Hp->Prop}{E:Value->Shared->Prop}{lo hi:Int}{t u v:Tok}{tk:Nat}(I:Inv X pins σ H s)(h1:-(2 ^ 62)<=lo)(h2:lo<2 ^ 62)(h3:-(2 ^ 62)<=hi)(h4:hi<2 ^ 62)
 (q:R (Itr lo (hi-lo).toNat) H):wpAny (model X.prog X.w) X.A (pyIter (.ref s.heap.objs.size)) (PIE X pins σ tg R) E { s with heap:=s.heap.push { cls:=.type "range",data:=.fields #[.int lo t,.int hi u,.int 1 v] },toks:=tk }:=by
 refine wpAny_pyIter_range (IsRange.new ..) (small_one h1 h2 h3 h4) ?_;have I1:Inv X pins σ H { s with heap:=s.heap.push { cls:=.type "range",data:=.fields #[.int lo t,.int hi u,.int 1 v] },toks:=tk }:=I.kept fun b o e=>Heap.get?_push_of_some _ e;refine⟨(s.heap.push { cls:=.type "range",data:=.fields #[.int lo t,.int hi u,.int 1 v] }).objs.size,[(s.heap.push { cls:=.type "range",data:=.fields #[.int lo t,.int hi u,.int 1 v] }).objs.size],_,_,H,rfl,
  I1.kept (t':=tk) fun b o e=>Heap.get?_push_of_some _ e,uV _ lo (hi-lo).toNat,?_,fun b hb=>?_,q⟩
 ·have e1:lo+((0:Nat):Int)*1=lo:=by simp
  have e2:(((hi-lo).toNat:Nat):Int)-((0:Nat):Int)=XI lo hi 1:=by rw[rangeSize_one];split <;> lia
  show IsRangeIter _ _ (lo+((0:Nat):Int)*1) ((((hi-lo).toNat:Nat):Int)-((0:Nat):Int)) 1;rw[e1,e2];exact Heap.get?_push_size _ rfl
 ·have e:b=(s.heap.push { cls:=.type "range",data:=.fields #[.int lo t,.int hi u,.int 1 v] }).objs.size:=by simpa using hb
  subst e;exact I1.fpOk (z4 _) (I1.hok.fresh (z4 _))
def DF(ta:TA):TI:=fun σ H R=>ta σ H fun vs H1=>∃j:Int,vs=[.int j] /\ -(2 ^ 62)<=j/\j<2 ^ 62/\R (Itr 0 j.toNat) H1
def DJ(ta:TA):TI:=fun σ H R=>ta σ H fun vs H1=>∃i j:Int,vs=[.int i,.int j]/\(-(2 ^ 62)<=i/\i<2 ^ 62 /\ -(2 ^ 62)<=j/\j<2 ^ 62)/\R (Itr i (j-i).toNat) H1
theorem iB{a:Expr}{ta:TA}{p pos:Pos}(hg:Gl X "range")(hm:X.mg "range" = none)(ha:PA X [a] ta)(hs:starEach [a] X.env=[(false,eval a X.env)]:=by rfl):PI X tg (.Call (.Name "range" p) [a] [] pos) (DF ta):=by
 intro pins s σ H R I h;refine Call_ (gU I hg hm boot_range (Z0 (thn (ha pos pins s σ H _ I h) fun us s1 ⟨vs,H1,I1,r1,q1⟩=>?_) hs rfl));obtain⟨j,e,q1,q2,q⟩:=q1;subst e;cases r1 with
 |cons r rr=>
  cases rr;obtain⟨t,rfl⟩:=r;exact call_range_1 (tZ I1 (by lia) (by lia) q1 q2 (by simpa using q))
theorem xL{a b:Expr}{ta:TA}{p pos:Pos}(hg:Gl X "range")(hm:X.mg "range" = none)(ha:PA X [a,b] ta)(hs:starEach [a,b] X.env=[(false,eval a X.env),(false,eval b X.env)]:=by rfl)(hs2:starEach [b] X.env=[(false,eval b X.env)]:=by rfl) :
 PI X tg (.Call (.Name "range" p) [a,b] [] pos) (DJ ta):=by
 intro pins s σ H R I h;refine Call_ (gU I hg hm boot_range (Z0 (thn (ha pos pins s σ H _ I h) fun us s1 ⟨vs,H1,I1,r1,q1⟩=>?_) (by rw[hs,hs2]) (by rw[hs2];rfl)));obtain⟨i,j,e,⟨q1,q2,q3,q4⟩,q⟩:=q1;subst e;cases r1 with
 |cons r rr=>
  cases rr with
  |cons r' rr=>
   cases rr;obtain⟨t,rfl⟩:=r;obtain⟨t',rfl⟩:=r';exact call_range_2 (tZ I1 q1 q2 q3 q4 q)
def nV(wi:TI)(g:TG)(tb:TS):TS:=fun D σ H=>wi σ H fun J H1=>∃W:Nat->Nat->St->Hp->Prop,(∃m,W 0 m σ H1)/\∀i m σ H,W i m σ H ->
 (J.stop i H/\D.nx σ H)\/(J.go i H/\∃N:St->Hp->Prop,(∀σ' H',N σ' H'->∃m',m'<m/\W (i+1) m' σ' H')/\∀x H',J.yld i H x H'->g x σ H' fun σ2 H2=>tb { D with nx:=N,ct:=N,bk:=D.nx } σ2 H2)
def nv(fp:List Addr)(h:Heap):List (Addr × Obj):=fp.filterMap fun b=>(h.get? b).map fun o=>(b,o)
theorem hJ{fp:List Addr}{h:Heap}{b:Addr}{o:Obj}(hb:b∈fp)(e:h.get? b=some o):(b,o)∈nv fp h:=List.mem_filterMap.mpr ⟨b,hb,by rw[e];rfl⟩
theorem xP{h:Heap}(hp:p∈nv fp h):p.1∈fp/\h.get? p.1=some p.2:=by
 obtain⟨b,hb,e⟩:=List.mem_filterMap.mp hp;cases q:h.get? b with
 |none=>rw[q]at e;cases e
 |some o=>
  rw[q]at e;have e':(b,o)=p:=se e;subst e';exact⟨hb,q⟩
theorem Inv.pinned{pins:List (Addr × Obj)}{σ:St}{H:Hp}{s:Shared}{fp:List Addr}(I:Inv X pins σ H s)(hf:∀b∈fp,jq X pins H b)(ho:∀b∈fp,∃o,s.heap.get? b=some o/\∀v,o.data ≠ .cell v):Inv X (pins++nv fp s.heap) σ H s:=
 I.pins_of fun p hp=>(y9.mp hp).elim (fun z=>I.pin p (uU _ z)) fun z=>by
  obtain⟨hb,e⟩:=xP z;obtain⟨f0,f1,f2,_⟩:=hf p.1 hb;obtain⟨o,e',d⟩:=ho p.1 hb;rw[e]at e';cases e';exact⟨e,f0,f1,f2,d⟩
theorem Inv.unpinned{pins pl:List (Addr × Obj)}{σ:St}{H:Hp}{s:Shared}(I:Inv X (pins++pl) σ H s):Inv X pins σ H s:=I.pins_of fun p hp=>I.pin p (uU _ (rV _ hp))
theorem dt{iter:Expr}{body:List Stmt}{wi:TI}{g:TG}{tb:TS}{pos:Pos}(hp:PassesOwn (model X.prog X.w) X.A X.env X.xe)(hc:X.calm=true)(hi:PI X tg iter wi)(hg:PG X tg g)(hb:PSs X body tb)
 (hs:∀x,Yr iter X.env x=pure x:=by intro _;rfl):PS X (.For tg iter body [] pos) (nV wi g tb):=by
 intro pins s σ H D I h;refine wpAny_For (thn (hi pins s σ H _ I h) fun v s1 h1=>thn h1 fun itv s2 h2=>?_) hs;obtain⟨it,fp,tn,J,H2,e,I2,T,st2,f2,W,⟨m0,w0⟩,turn⟩:=h2;subst e;have stat:∀ {H':Hp},(∀b∈fp,H' b=none)->∀b∈fp,jq X pins H' b:=fun hn b hb=>⟨hn b hb,(f2 b hb).2⟩;refine codeAny_forLoop_any (fun n s'=>∃i σ' H',Inv X pins σ' H' s'/\tn i s'.heap/\(∀b∈fp,H' b=none)/\W i n σ' H') ?_ m0 ⟨0,σ,H2,I2,st2,fun b hb=>(f2 b hb).1,w0⟩;rintro n s3 ⟨i,σ3,H3,I3,st3,fr3,w3⟩;rcases turn i n σ3 H3 w3 with ⟨stop,qn⟩|⟨go,N,hN,step⟩
 ·refine YV hp (thn (T.done X rfl rfl rfl hc i pins s3 σ3 H3 X.xe I3 (stat fr3) st3 stop) fun r s4 ⟨hr,I4⟩=>?_)
  subst hr;exact XW ⟨σ3,H3,I4,qn⟩
 ·refine YV hp (thn (T.item X rfl rfl rfl hc i pins s3 σ3 H3 X.xe I3 (stat fr3) st3 go) fun r s4 ⟨u,hr,h4⟩=>?_)
  subst hr;refine YV hp (thn h4 fun _ s5 ⟨x,H5,I5,r5,y5,st5,fr5⟩=>?_);have I5':=I5.pinned (stat fr5) (T.obj _ _ st5);refine YV hp (thn (hg _ s5 σ3 H5 x u _ I5' r5 (step x H5 y5)) fun _ s6 ⟨σ6,H6,I6,q6⟩=>?_);refine YV hp (thn (hb _ s6 σ6 H6 _ I6 q6) fun f s7 q7=>?_);have again:∀ {σ7:St} {H7:Hp},Inv X (pins++nv fp s5.heap) σ7 H7 s7->N σ7 H7->∃m,m<n/\∃i σ' H',Inv X pins σ' H' s7/\tn i s7.heap/\(∀b∈fp,H' b=none)/\W i m σ' H':=fun {σ7 H7} I7 n7=>by
   obtain⟨m',hm,w7⟩:=hN σ7 H7 n7;refine⟨m',hm,i+1,σ7,H7,I7.unpinned,T.keep _ _ _ st5 fun b hb o e=>(I7.pin (b,o) (uU _ (uU _ (hJ hb e)))).1,fun b hb=>?_,w7⟩;obtain⟨o,e,d⟩:=T.obj _ _ st5 b hb;exact(I7.pin (b,o) (uU _ (uU _ (hJ hb e)))).2.1
  cases f with
  |next=>obtain⟨σ7,H7,I7,n7⟩:=q7;exact again I7 n7
  |cont=>obtain⟨σ7,H7,I7,n7⟩:=q7;exact again I7 n7
  |brk=>obtain⟨σ7,H7,I7,q7⟩:=q7;exact⟨σ7,H7,I7.unpinned,q7⟩
  |ret v=>obtain⟨x7,σ7,H7,I7,r7,q7⟩:=q7;exact⟨x7,σ7,H7,I7.unpinned,r7,q7⟩
end
theorem ia{K:W.Frag}{a:Addr}{xs:List V}{g:TG}{tb:TS}{D:eO}{σ:St}{H:Hp}(Pv:Nat->St->Hp->Prop)(h0:Pv 0 σ H)(hl:∀i σ H,i<=xs.length->Pv i σ H->SqL K H a xs)
 (hs:∀i x σ H,xs[i]? = some x->Pv i σ H->g x σ H fun σ2 H2=>tb { D with nx:=Pv (i+1),ct:=Pv (i+1),bk:=D.nx } σ2 H2) (hd:∀σ H,Pv xs.length σ H->D.nx σ H) :
 ∃W:Nat->Nat->St->Hp->Prop,(∃m,W 0 m σ H)/\∀i m σ H,W i m σ H ->
  ((Itl K a).stop i H/\D.nx σ H)\/((Itl K a).go i H/\∃N:St->Hp->Prop,(∀σ' H',N σ' H'->∃m',m'<m/\W (i+1) m' σ' H')/\∀x H',(Itl K a).yld i H x H'->g x σ H' fun σ2 H2=>tb { D with nx:=N,ct:=N,bk:=D.nx } σ2 H2):=by
 refine⟨fun i m σ H=>m=xs.length-i/\i<=xs.length/\Pv i σ H,⟨xs.length,by simp,ud _,h0⟩,?_⟩;rintro i m σ H ⟨rfl,hi,p⟩;have q:=hl i σ H hi p;by_cases hlt:i<xs.length
 ·refine .inr ⟨⟨xs,xs[i],q,by simp[hlt]⟩,Pv (i+1),fun σ' H' p'=>⟨xs.length-(i+1),by lia,rfl,hlt,p'⟩,fun x H' y=>?_⟩
  obtain⟨e,y⟩:=y;subst e;exact hs i x σ _ (y xs q) p
 ·have e:i=xs.length:=by lia
  subst e;exact .inl ⟨⟨xs,q,z4 _⟩,hd σ H p⟩
theorem vX{K:W.Frag}{a:Addr}{xs:List V}{g:TG}{tb:TS}{D:eO}{σ:St}{H:Hp}(Pv:Nat->St->Hp->Prop)(h0:Pv 0 σ H)(hl:∀i σ H,i<=xs.length->Pv i σ H->SqT K H a xs)
 (hs:∀i x σ H,xs[i]? = some x->Pv i σ H->g x σ H fun σ2 H2=>tb { D with nx:=Pv (i+1),ct:=Pv (i+1),bk:=D.nx } σ2 H2) (hd:∀σ H,Pv xs.length σ H->D.nx σ H) :
 ∃W:Nat->Nat->St->Hp->Prop,(∃m,W 0 m σ H)/\∀i m σ H,W i m σ H ->
  ((Itt K a).stop i H/\D.nx σ H)\/((Itt K a).go i H/\∃N:St->Hp->Prop,(∀σ' H',N σ' H'->∃m',m'<m/\W (i+1) m' σ' H')/\∀x H',(Itt K a).yld i H x H'->g x σ H' fun σ2 H2=>tb { D with nx:=N,ct:=N,bk:=D.nx } σ2 H2):=by
 refine⟨fun i m σ H=>m=xs.length-i/\i<=xs.length/\Pv i σ H,⟨xs.length,by simp,ud _,h0⟩,?_⟩;rintro i m σ H ⟨rfl,hi,p⟩;have q:=hl i σ H hi p;by_cases hlt:i<xs.length
 ·refine .inr ⟨⟨xs,xs[i],q,by simp[hlt]⟩,Pv (i+1),fun σ' H' p'=>⟨xs.length-(i+1),by lia,rfl,hlt,p'⟩,fun x H' y=>?_⟩
  obtain⟨e,y⟩:=y;subst e;exact hs i x σ _ (y xs q) p
 ·have e:i=xs.length:=by lia
  subst e;exact .inl ⟨⟨xs,q,z4 _⟩,hd σ H p⟩
theorem iA{lo:Int}{n:Nat}{g:TG}{tb:TS}{D:eO}{σ:St}{H:Hp}(Pv:Nat->St->Hp->Prop)(h0:Pv 0 σ H)
 (hs:∀i σ H,i<n->Pv i σ H->g (.int (lo+i)) σ H fun σ2 H2=>tb { D with nx:=Pv (i+1),ct:=Pv (i+1),bk:=D.nx } σ2 H2) (hd:∀σ H,Pv n σ H->D.nx σ H) :
 ∃W:Nat->Nat->St->Hp->Prop,(∃m,W 0 m σ H)/\∀i m σ H,W i m σ H ->
  ((Itr lo n).stop i H/\D.nx σ H)\/((Itr lo n).go i H/\∃N:St->Hp->Prop,(∀σ' H',N σ' H'->∃m',m'<m/\W (i+1) m' σ' H')/\∀x H',(Itr lo n).yld i H x H'->g x σ H' fun σ2 H2=>tb { D with nx:=N,ct:=N,bk:=D.nx } σ2 H2):=by
 refine⟨fun i m σ H=>m=n-i/\i<=n/\Pv i σ H,⟨n,by simp,ud _,h0⟩,?_⟩;rintro i m σ H ⟨rfl,hi,p⟩;by_cases hlt:i<n
 ·refine .inr ⟨hlt,Pv (i+1),fun σ' H' p'=>⟨n-(i+1),by lia,rfl,hlt,p'⟩,fun x H' y=>?_⟩
  obtain⟨e,y⟩:=y;subst e y;exact hs i σ _ hlt p
 ·have e:i=n:=by lia
  subst e;exact .inl ⟨z4 _,hd σ H p⟩
abbrev R2:=V->V->Hp->VK->Prop
def OpR(X:Cx)(f:Value->Value->Sem Value)(r:R2):Prop:=
 ∀(pins:List (Addr × Obj)) (s:Shared) (σ:St) (H:Hp) (x y:V) (v u:Value) (Q:VK),Inv X pins σ H s->RelV x v->RelV y u->r x y H Q ->
  wpAny (model X.prog X.w) X.A (f v u) (EP X pins σ Q) X.xe s
def UnR(X:Cx)(f:Value->Sem Value)(r:V->Hp->VK->Prop):Prop:=
 ∀(pins:List (Addr × Obj)) (s:Shared) (σ:St) (H:Hp) (x:V) (v:Value) (Q:VK),Inv X pins σ H s->RelV x v->r x H Q ->
  wpAny (model X.prog X.w) X.A (f v) (EP X pins σ Q) X.xe s
def CallR(X:Cx)(f:Value)(r:List V->Hp->VK->Prop):Prop:=
 ∀(pins:List (Addr × Obj)) (s:Shared) (σ:St) (H:Hp) (xs:List V) (us:List Value) (Q:VK),Inv X pins σ H s->Vals xs us->r xs H Q ->
  wpAny (model X.prog X.w) X.A (call f us) (EP X pins σ Q) X.xe s
def Iw(X:Cx)(r:V->Hp->(Bool->Hp->Prop)->Prop):Prop:=
 ∀(pins:List (Addr × Obj)) (s:Shared) (σ:St) (H:Hp) (x:V) (v:Value) (Q:Bool->Hp->Prop),Inv X pins σ H s->RelV x v->r x H Q ->
  wpAny (model X.prog X.w) X.A (truthy v) (TP X pins σ Q) X.xe s
def tOp(r:R2)(ta tb:TE):TE:=fun σ H Q=>ta σ H fun x H1=>tb σ H1 fun y H2=>r x y H2 Q
def tUn(r:V->Hp->VK->Prop)(ta:TE):TE:=fun σ H Q=>ta σ H fun x H1=>r x H1 Q
def rI(C:Int->Int->Prop)(g:Int->Int->V):R2:=fun x y H Q=>∃i j,x = .int i/\y = .int j/\C i j/\Q (g i j) H
def rI0(g:Int->Int->V):R2:=fun x y H Q=>∃i j,x = .int i/\y = .int j/\Q (g i j) H
def rU(g:Int->V):V->Hp->VK->Prop:=fun x H Q=>∃i,x = .int i/\Q (g i) H
section
variable{X:Cx}{a b c:Expr}{ta tb tc:TE}{pos:Pos}
theorem FF(ha:PE X a ta)(hb:PE X b tb){pins:List (Addr × Obj)}{s:Shared}{σ:St}{H:Hp}{R:V->V->Hp->Prop}(I:Inv X pins σ H s)
 (h:ta σ H fun x H1=>tb σ H1 fun y H2=>R x y H2) {Q:Value->Shared->Prop} {f:Value->Value->Sem Value}
 (hf:∀v u s2 x y H2,Inv X pins σ H2 s2->RelV x v->RelV y u->R x y H2->wpAny (model X.prog X.w) X.A (f v u) Q X.xe s2) :
 wpAny (model X.prog X.w) X.A (eval a X.env) (fun v s₁=>wpAny (model X.prog X.w) X.A (eval b X.env) (fun u s₂=>wpAny (model X.prog X.w) X.A (f v u) Q X.xe s₂) X.xe s₁) X.xe s:=by
 refine thn (ha pins s σ H _ I h) fun v s1 ⟨x,H1,I1,r1,q1⟩=>?_;refine thn (hb pins s1 σ H1 _ I1 q1) fun u s2 ⟨y,H2,I2,r2,q2⟩=>?_;exact hf v u s2 x y H2 I2 r1 r2 q2
theorem aj{op:Operator}{r:R2}(ho:OpR X (binaryOp op) r)(ha:PE X a ta)(hb:PE X b tb):PE X (.BinOp a op b pos) (tOp r ta tb):=by
 intro pins s σ H Q I h;exact wpAny_BinOp (FF ha hb I h fun v u s2 x y H2 I2 rx ry q=>ho pins s2 σ H2 x y v u Q I2 rx ry q)
theorem rK{op:UnaryOp}{r:V->Hp->VK->Prop}(ho:UnR X (unaryOp op) r)(ha:PE X a ta):PE X (.UnaryOp op a pos) (tUn r ta):=by
 intro pins s σ H Q I h;exact UnaryOp_ (thn (ha pins s σ H _ I h) fun v s1 ⟨x,H1,I1,r1,q1⟩=>ho pins s1 σ H1 x v Q I1 r1 q1)
theorem opI{f:Value->Value->Sem Value}{C:Int->Int->Prop}{g:Int->Int->Int}
 (rule:∀(i j:Int) (t u:Tok) (s:Shared) (Q:Value->Shared->Prop) (E:Value->Shared->Prop),C i j->Q (.int (g i j) s.toks) { s with toks:=s.toks+1 }->wpAny (model X.prog X.w) X.A (f (.int i t) (.int j u)) Q E s) :
 OpR X f (rI C fun i j=>.int (g i j)):=by
 intro pins s σ H x y v u Q I rx ry h;obtain⟨i,j,rfl,rfl,hc,q⟩:=h;obtain⟨t,rfl⟩:=rx;obtain⟨t',rfl⟩:=ry;exact rule i j t t' s _ _ hc ⟨.int (g i j),H,I.tok _,⟨_,rfl⟩,q⟩
theorem HY{f:Value->Value->Sem Value}{g:Int->Int->Int}
 (rule:∀(i j:Int) (t u:Tok) (s:Shared) (Q:Value->Shared->Prop) (E:Value->Shared->Prop),Q (.int (g i j) s.toks) { s with toks:=s.toks+1 }->wpAny (model X.prog X.w) X.A (f (.int i t) (.int j u)) Q E s) :
 OpR X f (rI0 fun i j=>.int (g i j)):=by
 intro pins s σ H x y v u Q I rx ry h;obtain⟨i,j,rfl,rfl,q⟩:=h;obtain⟨t,rfl⟩:=rx;obtain⟨t',rfl⟩:=ry;exact rule i j t t' s _ _ ⟨.int (g i j),H,I.tok _,⟨_,rfl⟩,q⟩
theorem Ct{f:Value->Value->Sem Value}{g:Int->Int->Bool}
 (rule:∀(i j:Int) (t u:Tok) (s:Shared) (Q:Value->Shared->Prop) (E:Value->Shared->Prop),Q (.bool (g i j)) s->wpAny (model X.prog X.w) X.A (f (.int i t) (.int j u)) Q E s) :
 OpR X f (rI0 fun i j=>.bl (g i j)):=by
 intro pins s σ H x y v u Q I rx ry h;obtain⟨i,j,rfl,rfl,q⟩:=h;obtain⟨t,rfl⟩:=rx;obtain⟨t',rfl⟩:=ry;exact rule i j t t' s _ _ ⟨.bl (g i j),H,I,rfl,q⟩
def Gb(i j:Int):Prop:=0<j/\j<1073741824
def Fr(i j:Int):Prop:=0<=j/\j<=1000000/\i.natAbs<2 ^ 64
def CMul(i j:Int):Prop:=(-(2 ^ 64)<i/\i<2 ^ 64)\/(-(2 ^ 64)<j/\j<2 ^ 64)
theorem CMul.ok{i j:Int}(h:CMul i j):IntMulOk i j:=by
 rcases h with ⟨h1,h2⟩|⟨h1,h2⟩
 ·exact .of_left (intBits_le_64 h1 h2)
 ·exact .of_right (intBits_le_64 h1 h2)
theorem Fs:OpR X (binaryOp .Add) (rI0 fun i j=>.int (i+j)):=HY fun _ _ _ _ _ _ _ q=>add_int q
theorem EL:OpR X (binaryOp .Sub) (rI0 fun i j=>.int (i-j)):=HY fun _ _ _ _ _ _ _ q=>sub_int q
theorem EH:OpR X (binaryOp .Mult) (rI CMul fun i j=>.int (i*j)):=opI fun _ _ _ _ _ _ _ hc q=>mul_int q hc.ok
theorem CW:OpR X (binaryOp .FloorDiv) (rI Gb fun i j=>.int (i / j)):=opI fun i j _ _ _ _ _ hc q=>by
 have h1:(0:Int)<j:=hc.1;have h2:j<1073741824:=hc.2;exact floordiv_int (by lia) (by rw[Int.fdiv_eq_ediv_of_nonneg i (by lia)];exact q) (.inl (PyProof.noPylong_small (by lia)))
theorem E6:OpR X (binaryOp .Mod) (rI (fun _ j=>0<j) fun i j=>.int (i % j)):=opI fun i j _ _ _ _ _ hc q=>by
 have h1:(0:Int)<j:=hc;exact mod_int' (by lia) (by rw[Int.fmod_eq_emod_of_nonneg i (by lia)];exact q)
theorem FC:OpR X (binaryOp .Pow) (rI Fr fun i j=>.int (i ^ j.toNat)):=opI fun _ _ _ _ _ _ _ hc q=>pow_int_small hc.1 hc.2.1 hc.2.2 q
theorem unI{f:Value->Sem Value}{g:Int->Int}
 (rule:∀(i:Int) (t:Tok) (s:Shared) (Q:Value->Shared->Prop) (E:Value->Shared->Prop),Q (.int (g i) s.toks) { s with toks:=s.toks+1 }->wpAny (model X.prog X.w) X.A (f (.int i t)) Q E s) :
 UnR X f (rU fun i=>.int (g i)):=by
 intro pins s σ H x v Q I rx h;obtain⟨i,rfl,q⟩:=h;obtain⟨t,rfl⟩:=rx;exact rule i t s _ _ ⟨.int (g i),H,I.tok _,⟨_,rfl⟩,q⟩
theorem FS:UnR X (unaryOp .USub) (rU fun i=>.int (-i)):=unI fun _ _ _ _ _ q=>neg_int q
end
def Fk:V->V->Bool
 | .non,.non=>true | .non,.int _=>true | .int _,.non=>true | .non,.bl _=>true | .bl _,.non=>true | .non,.str _=>true | .str _,.non=>true
 | .int _,.int _=>true | .bl _,.bl _=>true | .str _,.str _=>true | .byt _,.byt _=>true
 | .int _,.str _=>true | .str _,.int _=>true | .bl _,.str _=>true | .str _,.bl _=>true
 |_,_=>false
def rEq:R2:=fun x y H Q=>Fk x y=true/\Q (.bl (decide (x=y))) H
def rNe:R2:=fun x y H Q=>Fk x y=true/\Q (.bl (!decide (x=y))) H
theorem wS:decide (V.int i=V.int j)=(i==j):=by
 rw[Y6];simp
theorem Ad:decide (V.bl i=V.bl j)=(i==j):=by
 rw[Y6];simp
theorem wN:decide (V.str i=V.str j)=(i==j):=by
 rw[Y6];simp
theorem wz{i j:Array UInt8}:decide (V.byt i=V.byt j)=(i.toList==j.toList):=by
 rw[Y6];cases i;cases j;simp
section
variable{X:Cx}{a b c:Expr}{ta tb tc:TE}{pos:Pos}
theorem bh(I:Inv X pins σ H s)(q:Q (.bl k) H)(e:k=k'):EP X pins σ Q (.bool k') s:=by
 subst e;exact⟨.bl k,H,I,rfl,q⟩
theorem Hr:OpR X (rB .Eq) rEq:=by
 intro pins s σ H x y v u Q I rx ry h;obtain⟨hs,q⟩:=h;cases x with
 |non=>
  cases rx;cases y with
  |non=>cases ry;exact PySem.EqNone.eq_none_none (bh I q (by simp))
  |bl j=>cases ry;exact PySem.EqNone.eq_none_bool (bh I q (by simp))
  |int j=>obtain⟨t',rfl⟩:=ry;exact PySem.EqNone.eq_none_int (bh I q (by simp))
  |str j=>obtain⟨t',rfl⟩:=ry;exact PySem.EqNone.eq_none_str (bh I q (by simp))
  |_=>exact absurd (show false=true from hs) xa
 |bl i=>
  cases rx;cases y with
  |non=>cases ry;exact PySem.EqNone.eq_bool_none (bh I q (by simp))
  |bl j=>cases ry;exact eq_bool (bh I q Ad)
  |str j=>obtain⟨t',rfl⟩:=ry;exact PySem.EqMixed.eq_bool_str (bh I q (by simp))
  |_=>exact absurd (show false=true from hs) xa
 |int i=>
  obtain⟨t,rfl⟩:=rx;cases y with
  |non=>cases ry;exact PySem.EqNone.eq_int_none (bh I q (by simp))
  |int j=>obtain⟨t',rfl⟩:=ry;exact eq_int (bh I q wS)
  |str j=>obtain⟨t',rfl⟩:=ry;exact PySem.EqMixed.eq_int_str (bh I q (by simp))
  |_=>exact absurd (show false=true from hs) xa
 |str i=>
  obtain⟨t,rfl⟩:=rx;cases y with
  |non=>cases ry;exact PySem.EqNone.eq_str_none (bh I q (by simp))
  |bl j=>cases ry;exact PySem.EqMixed.eq_str_bool (bh I q (by simp))
  |int j=>obtain⟨t',rfl⟩:=ry;exact PySem.EqMixed.eq_str_int (bh I q (by simp))
  |str j=>obtain⟨t',rfl⟩:=ry;exact eq_str (bh I q wN)
  |_=>exact absurd (show false=true from hs) xa
 |byt i=>
  obtain⟨t,rfl⟩:=rx;cases y with
  |byt j=>obtain⟨t',rfl⟩:=ry;exact PySem.W.eq_bytes (bh I q wz)
  |_=>exact absurd (show false=true from hs) xa
 |_=>cases y <;> exact absurd (show false=true from hs) xa
theorem Hq:OpR X (rB .NotEq) rNe:=by
 intro pins s σ H x y v u Q I rx ry h;obtain⟨hs,q⟩:=h;cases x with
 |non=>
  cases rx;cases y with
  |non=>cases ry;exact PySem.EqNone.ne_none_none (bh I q (by simp))
  |bl j=>cases ry;exact PySem.EqNone.ne_none_bool (bh I q (by simp))
  |int j=>obtain⟨t',rfl⟩:=ry;exact PySem.EqNone.ne_none_int (bh I q (by simp))
  |str j=>obtain⟨t',rfl⟩:=ry;exact PySem.EqNone.ne_none_str (bh I q (by simp))
  |_=>exact absurd (show false=true from hs) xa
 |bl i=>
  cases rx;cases y with
  |non=>cases ry;exact PySem.EqNone.ne_bool_none (bh I q (by simp))
  |bl j=>cases ry;exact ne_bool (bh I q (congrArg not Ad))
  |str j=>obtain⟨t',rfl⟩:=ry;exact PySem.EqMixed.ne_bool_str (bh I q (by simp))
  |_=>exact absurd (show false=true from hs) xa
 |int i=>
  obtain⟨t,rfl⟩:=rx;cases y with
  |non=>cases ry;exact PySem.EqNone.ne_int_none (bh I q (by simp))
  |int j=>obtain⟨t',rfl⟩:=ry;exact ne_int (bh I q (congrArg not wS))
  |str j=>obtain⟨t',rfl⟩:=ry;exact PySem.EqMixed.ne_int_str (bh I q (by simp))
  |_=>exact absurd (show false=true from hs) xa
 |str i=>
  obtain⟨t,rfl⟩:=rx;cases y with
  |non=>cases ry;exact PySem.EqNone.ne_str_none (bh I q (by simp))
  |bl j=>cases ry;exact PySem.EqMixed.ne_str_bool (bh I q (by simp))
  |int j=>obtain⟨t',rfl⟩:=ry;exact PySem.EqMixed.ne_str_int (bh I q (by simp))
  |str j=>obtain⟨t',rfl⟩:=ry;exact ne_str (bh I q (congrArg not wN))
  |_=>exact absurd (show false=true from hs) xa
 |byt i=>
  obtain⟨t,rfl⟩:=rx;cases y with
  |byt j=>obtain⟨t',rfl⟩:=ry;exact PySem.W.ne_bytes (bh I q (congrArg not wz))
  |_=>exact absurd (show false=true from hs) xa
 |_=>cases y <;> exact absurd (show false=true from hs) xa
theorem GG:OpR X (rB .Lt) (rI0 fun i j=>.bl (decide (i<j))):=Ct fun _ _ _ _ _ _ _ q=>lt_int q
theorem G9:OpR X (rB .LtE) (rI0 fun i j=>.bl (decide (i<=j))):=Ct fun _ _ _ _ _ _ _ q=>le_int q
theorem HL:OpR X (rB .Gt) (rI0 fun i j=>.bl (decide (j<i))):=Ct fun _ _ _ _ _ _ _ q=>gt_int q
theorem HE:OpR X (rB .GtE) (rI0 fun i j=>.bl (decide (j<=i))):=Ct fun _ _ _ _ _ _ _ q=>ge_int q
theorem xA:OpR X (rB .Lt) (fun x y H Q=>∃i j,x = .str i/\y = .str j/\Q (.bl (decide (i.cps.toList<j.cps.toList))) H):=by
 intro pins s σ H x y v u Q I rx ry h;obtain⟨i,j,rfl,rfl,q⟩:=h;obtain⟨t,rfl⟩:=rx;obtain⟨t',rfl⟩:=ry;exact lt_str (bh I q rfl)
theorem xE:OpR X (rB .In) (fun x y H Q=>∃i j,x = .str i/\y = .str j/\Q (.bl (!(Builtin.Str.occurrences j i 0 j.length 1).isEmpty)) H):=by
 intro pins s σ H x y v u Q I rx ry h;obtain⟨i,j,rfl,rfl,q⟩:=h;obtain⟨t,rfl⟩:=rx;obtain⟨t',rfl⟩:=ry;exact in_str (bh I q rfl)
theorem OpR.or{f:Value->Value->Sem Value}{r r':R2}(h:OpR X f r)(h':OpR X f r'):OpR X f (fun x y H Q=>r x y H Q\/r' x y H Q):=by
 intro pins s σ H x y v u Q I rx ry q;rcases q with q|q
 ·exact h pins s σ H x y v u Q I rx ry q
 ·exact h' pins s σ H x y v u Q I rx ry q
theorem gm(b:Expr)(h:op ≠ .In:=by decide)(h2:op ≠ .NotIn:=by decide):Yi op b=false:=by
 have e1:(op==CmpOp.In)=false:=by cases op <;> first|rfl|exact absurd rfl h
 have e2:(op==CmpOp.NotIn)=false:=by cases op <;> first|rfl|exact absurd rfl h2
 cases b <;> simp[Yi,e1,e2]
theorem eY{op:CmpOp}{r:R2}(ho:OpR X (rB op) r)(ha:PE X a ta)(hb:PE X b tb)(hm:Yi op b=false):PE X (.Compare a [op] [b] pos) (tOp r ta tb):=by
 intro pins s σ H Q I h;exact wpAny_Compare1 (FF ha hb I h fun v u s2 x y H2 I2 rx ry q=>ho pins s2 σ H2 x y v u Q I2 rx ry q) hm
def Ie(K:W.Frag)(x:V)(H:Hp)(k:Bool):Prop:=
 match x with
 | .non=>k=false
 | .bl b=>k=b
 | .int i=>k=(i != 0)
 | .str y=>y.length<=sizeLine/\k=((y.length:Int) != 0)
 | .byt y=>y.size<=sizeLine/\k=((y.size:Int) != 0)
 | .ref p=>(∃xs,SqL K H p xs/\k = !xs.isEmpty)\/(∃xs,SqT K H p xs/\k = !xs.isEmpty)\/∃kvs,H p=some (.dK kvs)/\k = !kvs.isEmpty
 |_=>False
theorem vy{κ:Type}{kvs:List (κ × V)}{vs:List (κ × Value)}(r:KV kvs vs):(!vs.isEmpty) = !kvs.isEmpty:=by
 cases r <;> rfl
theorem nQ{xs:List V}{its:List Value}(r:Vals xs its):(!its.toArray.isEmpty) = !xs.isEmpty:=by
 cases r <;> simp
theorem kj:(sizeLine:Nat)<2 ^ 63:=by rw[uS];decide
theorem Ic:Iw X (fun x H Q=>∃k,Ie X.K x H k/\Q k H):=by
 intro pins s σ H x v Q I rx h;obtain⟨k,e,q⟩:=h;have hl:=kj;have hs:sizeLine=16777216:=uS;cases x with
 |non=>
  cases rx;have e':k=false:=e;subst e';exact truthy_none ⟨H,I,q⟩
 |bl b=>
  cases rx;have e':k=b:=e;subst e';exact Zp ⟨H,I,q⟩
 |int i=>
  obtain⟨t,rfl⟩:=rx;have e':k=(i != 0):=e;subst e';exact PySem.P.truthy_int ⟨H,I,q⟩
 |str y=>
  obtain⟨t,rfl⟩:=rx;obtain⟨hy,e'⟩:y.length<=sizeLine/\k=((y.length:Int) != 0):=e;subst e';exact PySem.P.truthy_str (by lia) ⟨H,I.tok _,q⟩
 |byt y=>
  obtain⟨t,rfl⟩:=rx;obtain⟨hy,e'⟩:y.size<=sizeLine/\k=((y.size:Int) != 0):=e;subst e';exact PySem.W.truthy_bytes (by lia) ⟨H,I.tok _,q⟩
 |ref p=>
  cases rx;have e':(∃xs,SqL X.K H p xs/\k = !xs.isEmpty)\/(∃xs,SqT X.K H p xs/\k = !xs.isEmpty)\/∃kvs,H p=some (.dK kvs)/\k = !kvs.isEmpty:=e;rcases e' with ⟨xs,hx,e'⟩|⟨xs,hx,e'⟩|⟨kvs,hx,e'⟩
  ·subst e'
   obtain⟨its,r,pl,hz⟩:=I.list hx;have hlen:=r.length;exact wpAny_truthy_list pl.isList (by simp only[yg];lia) ⟨H,I.tok _,by rw[nQ r];exact q⟩
  ·subst e'
   obtain⟨its,r,pl,hz⟩:=I.tuple hx;have hlen:=r.length;exact truthy_tuple pl (by simp only[yg];lia) ⟨H,I.tok _,by rw[nQ r];exact q⟩
  ·subst e'
   obtain⟨hz,hS,vs,r,m⟩:kvs.length<=sizeLine/\(p==ZP)=false/\∃vs,KV kvs vs/\s.heap.DictOf (bb X.prog X.w) p vs:=I.hok p _ hx;have hlen:kvs.length=vs.length:=Paired.length r;exact wpAny_truthy_dict hS m (by lia) ⟨H,I.tok _,by rw[vy r];exact q⟩
 |_=>exact(show False from e).elim
theorem uF:OpR X (binaryOp .Add) (fun x y H Q=>∃i j,x = .str i/\y = .str j/\i.length+j.length<=sizeLine/\Q (.str (i++j)) H):=by
 intro pins s σ H x y v u Q I rx ry h;obtain⟨i,j,rfl,rfl,hz,q⟩:=h;obtain⟨t,rfl⟩:=rx;obtain⟨t',rfl⟩:=ry;exact add_str (fun t' tk=>⟨.str (i++j),H,I.tok _,⟨_,rfl⟩,q⟩) hz
theorem eL(r:Vals [x] us):∃u,us=[u]/\RelV x u:=by
 cases r with
 |cons r1 r2=>cases r2;exact⟨_,rfl,r1⟩
theorem rJ(r:Vals [x,y] us):∃u w',us=[u,w']/\RelV x u/\RelV y w':=by
 cases r with
 |cons r1 r2=>
  cases r2 with
  |cons r3 r4=>cases r4;exact⟨_,_,rfl,r1,r3⟩
theorem xY(hc:X.calm=true):CallR X (.builtin "max") (fun xs H Q=>∃i j,xs=[.int i,.int j]/\Q (.int (if j > i then j else i)) H):=by
 intro pins s σ H xs us Q I r h;obtain⟨i,j,rfl,q⟩:=h;obtain⟨u,w',rfl,⟨t,rfl⟩,⟨t',rfl⟩⟩:=rJ r;refine max_two_ints (I.ok.hd hc) fun h' tk k=>⟨_,H,I.kept k,?_,q⟩;by_cases hj:j > i
 ·rw[if_pos hj,if_pos hj];exact⟨_,rfl⟩
 ·rw[if_neg hj,if_neg hj];exact⟨_,rfl⟩
theorem yB(hc:X.calm=true):CallR X (.builtin "min") (fun xs H Q=>∃i j,xs=[.int i,.int j]/\Q (.int (if j<i then j else i)) H):=by
 intro pins s σ H xs us Q I r h;obtain⟨i,j,rfl,q⟩:=h;obtain⟨u,w',rfl,⟨t,rfl⟩,⟨t',rfl⟩⟩:=rJ r;refine min_two_ints (I.ok.hd hc) fun h' tk k=>⟨_,H,I.kept k,?_,q⟩;by_cases hj:j<i
 ·rw[if_pos hj,if_pos hj];exact⟨_,rfl⟩
 ·rw[if_neg hj,if_neg hj];exact⟨_,rfl⟩
theorem xb:CallR X (.type "int") (fun xs H Q=>(∃i,xs=[.int i]/\Q (.int i) H)\/∃k,xs=[.bl k]/\Q (.int (if k then 1 else 0)) H):=by
 intro pins s σ H xs us Q I r h;rcases h with ⟨i,rfl,q⟩|⟨k,rfl,q⟩
 ·obtain⟨u,rfl,t,rfl⟩:=eL r
  exact call_int_int ⟨.int i,H,I,⟨_,rfl⟩,q⟩
 ·obtain⟨u,rfl,r1⟩:=eL r
  cases r1;exact call_int_bool ⟨.int (if k then 1 else 0),H,I.tok _,⟨_,rfl⟩,q⟩
def Ik(K:W.Frag)(x:V)(H:Hp)(n:Nat):Prop:=
 match x with
 | .str y=>y.length<=sizeLine/\n=y.length
 | .byt y=>y.size<=sizeLine/\n=y.size
 | .ref p=>(∃xs,SqL K H p xs/\n=xs.length)\/∃xs,SqT K H p xs/\n=xs.length
 |_=>False
theorem Bk:CallR X (.builtin "len") (fun xs H Q=>∃x n,xs=[x]/\Ik X.K x H n/\Q (.int n) H):=by
 intro pins s σ H xs us Q I r h;obtain⟨x,n,rfl,e,q⟩:=h;obtain⟨u,rfl,rx⟩:=eL r;have hl:=kj;have hs:sizeLine=16777216:=uS;cases x with
 |str y=>
  obtain⟨t,rfl⟩:=rx;obtain⟨hy,e'⟩:y.length<=sizeLine/\n=y.length:=e;subst e';exact len_str (by lia) ⟨.int _,H,I.tok _,⟨_,rfl⟩,q⟩
 |byt y=>
  obtain⟨t,rfl⟩:=rx;obtain⟨hy,e'⟩:y.size<=sizeLine/\n=y.size:=e;subst e';exact PySem.W.len_bytes (by lia) ⟨.int _,H,I.tok _,⟨_,rfl⟩,q⟩
 |ref p=>
  cases rx;have e':(∃xs,SqL X.K H p xs/\n=xs.length)\/∃xs,SqT X.K H p xs/\n=xs.length:=e;rcases e' with ⟨xs,hx,e'⟩|⟨xs,hx,e'⟩
  ·subst e'
   obtain⟨its,r',pl,hz⟩:=I.list hx;have hlen:=r'.length;exact Calls.call_len_list pl.isList (by simp only[yg];lia) ⟨.int xs.length,H,I.tok _,⟨_,by simp only[yg];rw[hlen]⟩,q⟩
  ·subst e'
   obtain⟨its,r',pl,hz⟩:=I.tuple hx;have hlen:=r'.length;exact len_tuple pl (by simp only[yg];lia) ⟨.int xs.length,H,I.tok _,⟨_,by simp only[yg];rw[hlen]⟩,q⟩
 |_=>exact(show False from e).elim
end
structure ObjM(h:Heap)(x dx C:Addr)(mA:Str->Option Value):Prop where
 obj:h.get? x=some (Ym C dx)
 ns:h.Ns1 dx mA
 ne:dx≠x
theorem xr{h:Heap}(n:h.Ns1 dx mA):∃od,h.get? dx=some od/\∀name,PySem.W.lookIn name od=some (mA name):=by
 obtain⟨o,es,ep,ho,hd,hk,_,hm⟩:=n;refine⟨o,ho,fun name=>?_⟩;have e:=hm name;unfold nsFind findBy at e;rw[<- Array.find?_toList]at e;unfold PySem.W.lookIn;rw[hd];dsimp only;split
 ·rename_i y q
  rw[q]at e;exact congrArg some e
 ·rename_i q
  rw[q]at e;have a:es.toList.any (·.refKey)=false:=by
   rw[List.any_eq_false];intro y hy;obtain⟨z,t,hkey⟩:=hk y (Array.mem_toList_iff.mp hy);simp[Xj.refKey,hkey]
  have a':¬ es.toList.any (·.refKey)=true:=by rw[a];exact xa
  rw[if_neg a'];exact congrArg some e
theorem ObjM.look(I:ObjM h x dx C mA):∃od,PySem.W.InstAt h x (Ym C dx) C (some od)/\∀name,PySem.W.lookIn name od=some (mA name):=
 let ⟨od,ho,hl⟩:=xr I.ns
 ⟨od,⟨I.obj,rfl,rfl,ho⟩,hl⟩
section
variable{prog:Program}{w:World}{A:Around}{E:Value->Shared->Prop}{s:Shared}{K:W.Frag}{x dx C f:Addr}{mA:Str->Option Value}{name:Str}{v:Value}
theorem B_(X:K.In s.heap)(I:ObjM s.heap x dx C mA)(hg:PySem.W.plainGet K C name=true)(hh:Xw K C=true)
 (ha:u7 K (.ref C) name=some none) (hv:mA name=some v) (hv':PySem.W.handedIn v=true) (h:Q v { s with toks:=s.toks+1 }) :
 wpAny (model prog w) A (getAttr (.ref x) name expr) Q E s:=by
 obtain⟨od,J,hl⟩:=I.look;exact PySem.W.get_value X J (PySem.W.plainGet_of hg).1 (PySem.W.findObj_own hh ha rfl (by rw[hl,hv])) hv' h
theorem zy{Q:Value × List Value->Shared->Prop}(X:K.In s.heap)(I:ObjM s.heap x dx C mA)(hg:PySem.W.plainGet K C name=true)
 (hf:u7 K (.ref C) name=some (some (.ref f))) (ht:PySem.W.isFn K (.ref f)=true) (hv:mA name=none) (h:Q (.ref f,[.ref x]) s) :
 wpAny (model prog w) A (getMethod (.ref x) name pl) Q E s:=by
 obtain⟨od,J,hl⟩:=I.look;exact PySem.W.method_fn X J (PySem.W.plainGet_of hg).1 (PySem.W.plainGet_of hg).2 hf (beq_iff_eq.mp ht) (by show(PySem.W.lookIn name od).map (·.isSome)=some false;rw[hl,hv];rfl) h
theorem Dt{ns:List Str}(X:K.In s.heap)(I:ObjM s.heap x dx C mA)
 (hs:u7 K (.ref C) "__setattr__" = some (some (.builtin "object.__setattr__"))) (hp:PySem.W.plainOver K C=true) (ht:PySem.W.takerIn K C name=some none) (hh:Xw K C=true)
 (hw:PySem.Within mA ns) (hsz:ns.length<=sizeLine)
 (h:∀h',ObjM h' x dx C (fun y=>if y=name then some v else mA y)->Yx dx s.heap h'->Q () { s with heap:=h',toks:=s.toks+2 }) :
 wpAny (model prog w) A (setAttr (.ref x) name v) Q E s:=by
 obtain⟨od,J,hl⟩:=I.look;refine PySem.W.set_plain X J hs (PySem.W.osa_open (s:={ s with toks:=s.toks+1 }) (r:=none) X J hp ht fun b=>?_);obtain⟨cd,hc,hd'⟩:=PySem.W.any_some hh;have hx:s.heap.get? x=some ⟨.ref C,some dx,.plain,#[]⟩:=I.obj;refine zm (za (zm (zm (wpAny_loadPart hx (zm (PySem.W.Looks.here (s:={ s with toks:=s.toks+1 }) (PySem.W.looks_clsIn X hc) ?_))))));rw[hd'];refine za (a:=some dx) (zm (za (zm ?_)));refine wpAny_nsSet1 (s:={ s with toks:=s.toks+1 }) I.ns fun h' hn2 hs2=>?_;obtain⟨oD,esD,epD,hoD,hdD,hcD⟩:=hn2.count (PySem.Within.cons name v hw);refine zm (wpAny_lookBehind hoD (by rw[hdD];exact pastItsLine_dict (uM hcD (by rw[uO];lia))) ?_);exact za (h _ ⟨(hs2.2 _ (Ne.symm I.ne)).trans I.obj,hn2,I.ne⟩ hs2)
theorem yV(X:K.In s.heap)(hm:PySem.W.makesIn K C=true)
 (hi:u7 K (.ref C) "__init__" = some (some (.ref f))) (hf:PySem.W.typeIn K (.ref f)=some (.type "function"))
 (h:codeAny (model prog w) (A.under (.builtin "type.__call__" ⟨.ref C::vs,kw⟩)) (.call (.ref f) ⟨.ref (s.heap.objs.size+1)::vs,kw⟩) (PySem.W.InitBack (s.heap.objs.size+1) R)
  { s with heap:=(s.heap.push ZK).push (Ym C s.heap.objs.size) }) :
 codeAny (model prog w) A (.call (.ref C) ⟨vs,kw⟩) R s:=by
 obtain⟨hh,g,d,t,os⟩:=s;exact PySem.W.make_core (PySem.W.makes_of X hm) (PySem.W.looks_findIn X hi) (fun self=>PySem.W.bind_fn X self hf) (.inl rfl) h
end
def dE(f:Str)(v:V):List (Str × V)->List (Str × V)
 | []=>[(f,v)]
 |(g,x)::r=>if g=f then (g,v)::r else (g,x)::dE f v r
theorem lq(f g:Str)(v:V):∀fs:List (Str × V),(dE f v fs).lookup g=if g=f then some v else fs.lookup g
 | []=>by
  show wZ g [(f,v)]=_;by_cases h:g=f
  ·have hb:(g==f)=true:=beq_iff_eq.mpr h
   simp only[wZ,hb,if_pos h]
  ·have hb:(g==f)=false:=beq_eq_false_iff_ne.mpr h
   simp only[wZ,hb,if_neg h]
 |(k,x)::r=>by
  have ih:=lq f g v r;rw[show dE f v ((k,x)::r)=(if k=f then (k,v)::r else (k,x)::dE f v r) from rfl];by_cases hk:k=f
  ·rw[if_pos hk]
   by_cases h:g=k
   ·have hb:(g==k)=true:=beq_iff_eq.mpr h
    simp only[wZ,hb,if_pos (h.trans hk)]
   ·have hb:(g==k)=false:=beq_eq_false_iff_ne.mpr h
    simp only[wZ,hb,if_neg (fun e:g=f=>h (e.trans hk.symm))]
  ·rw[if_neg hk]
   by_cases h:g=k
   ·have hb:(g==k)=true:=beq_iff_eq.mpr h
    simp only[wZ,hb,if_neg (fun e:g=f=>hk (h.symm.trans e))]
   ·have hb:(g==k)=false:=beq_eq_false_iff_ne.mpr h
    simp only[wZ,hb];exact ih
theorem j4(f:Str)(v:V):∀fs:List (Str × V),f∈(dE f v fs).map (·.1)/\∀g,g∈fs.map (·.1)->g∈(dE f v fs).map (·.1)
 | []=>⟨by simp[dE],fun g h=>by simp at h⟩
 |(k,x)::r=>by
  obtain⟨i1,i2⟩:=j4 f v r;rw[show dE f v ((k,x)::r)=(if k=f then (k,v)::r else (k,x)::dE f v r) from rfl];by_cases hk:k=f
  ·rw[if_pos hk]
   subst hk;exact⟨by simp,fun g h=>by simpa using h⟩
  ·rw[if_neg hk]
   refine⟨?_,fun g h=>?_⟩
   ·rw[xx]
    exact vt _ i1
   ·rw[xx]at h |-
    rcases zG.mp h with e|e
    ·exact zG.mpr (.inl e)
    ·exact vt _ (i2 g e)
theorem lf(f:Str)(v:V):∀fs:List (Str × V),(dE f v fs).length<=fs.length+1
 | []=>by simp[dE]
 |(k,x)::r=>by
  have ih:=lf f v r;rw[show dE f v ((k,x)::r)=(if k=f then (k,v)::r else (k,x)::dE f v r) from rfl];by_cases hk:k=f
  ·rw[if_pos hk,uO,uO];lia
  ·rw[if_neg hk,uO,uO];lia
theorem RelO.some_of(r:RelO (some v) o):∃u,o=some u/\RelV v u:=by
 cases o with
 |none=>exact(show False from r).elim
 |some u=>exact⟨u,rfl,r⟩
theorem RelO.none_of(r:RelO none o):o=none:=by
 cases o with
 |none=>rfl
 |some u=>exact(show False from r).elim
theorem xj(r:RelV v u):PySem.W.handedIn u=true:=by
 cases v with
 |non=>cases (show u=Zm from r);rfl
 |bl b=>cases (show u=Value.bool b from r);rfl
 |int i=>obtain⟨t,e⟩:=(show ∃t,u=Value.int i t from r);cases e;rfl
 |str x=>obtain⟨t,e⟩:=(show ∃t,u=Z9 x t from r);cases e;rfl
 |byt b=>obtain⟨t,e⟩:=(show ∃t,u=Value.bytes b t from r);cases e;rfl
 |flt b=>obtain⟨t,e⟩:=(show ∃t,u=Value.float b t from r);cases e;rfl
 |ref a=>cases (show u=yy a from r);rfl
 |ty n=>cases (show u=Yz n from r);rfl
section
variable{P:Program}{w:World}{H H':Hp}{h h':Heap}{a C dx:Addr}{fs fs':List (Str × V)}
theorem mn(hok:HOk P w H h)(e:H a=some (.ins C dx fs)):∃mA,ObjM h a dx C mA/\(∀f,RelO (fs.lookup f) (mA f))/\PySem.Within mA (fs.map (·.1))/\fs.length<=1000/\H dx=some (.own a):=by
 obtain⟨d,z,ne,ob,mA,n,r,q⟩:=(show ObjOk P w H h a (.ins C dx fs) from hok a _ e);exact⟨mA,⟨ob,n,ne⟩,r,q,z,d⟩
end
structure Cls(K:W.Frag)(C:Addr):Prop where
 pg:PySem.W.plainGet K C Str.empty=true
 hd:Xw K C=true
 po:PySem.W.plainOver K C=true
 sa:u7 K (.ref C) "__setattr__" = some (some (.builtin "object.__setattr__"))
theorem Cls.get{K:W.Frag}{C:Addr}(c:Cls K C)(f:Str):PySem.W.plainGet K C f=true:=c.pg
def NoAttr(K:W.Frag)(C:Addr)(f:Str):Prop:=u7 K (.ref C) f=some none
theorem NoAttr.taker{K:W.Frag}{C:Addr}{f:Str}(n:NoAttr K C f):PySem.W.takerIn K C f=some none:=by
 unfold PySem.W.takerIn;rw[show u7 K (.ref C) f=some none from n]
 rfl
structure zd(K:W.Frag)(C:Addr)(m:Str)(f:Addr):Prop where
 at_:u7 K (.ref C) m=some (some (.ref f))
 fn:PySem.W.isFn K (.ref f)=true
 kp:Yu K (.ref f)=true
section
variable{X:Cx}{pins:List (Addr × Obj)}{σ:St}{H:Hp}{s:Shared}{a C dx:Addr}{fs:List (Str × V)}{f:Str}{v:V}{A:Around}{E:Value->Shared->Prop}
theorem ur{b:Bool}{Q:Value->Shared->Prop}(I:Inv X pins σ H s)(e:H a=some (.ins C dx fs))(c:Cls X.K C)(n:NoAttr X.K C f)(l:fs.lookup f=some v)
 (h:∀u s',Inv X pins σ H s'->RelV v u->Q u s'):wpAny (model X.prog X.w) A (getAttr (.ref a) f b) Q E s:=by
 obtain⟨mA,O,r,_,_,_⟩:=mn I.hok e;obtain⟨u,hu,ru⟩:=RelO.some_of (v:=v) (o:=mA f) (by rw[<- l];exact r f);exact B_ I.kIn O (c.get f) c.hd n hu (xj ru) (h u _ (I.tok _) ru)
theorem n6{m:Str}{g:Addr}{pl:Sem Bool}{Q:Value × List Value->Shared->Prop}(I:Inv X pins σ H s)(e:H a=some (.ins C dx fs))(c:Cls X.K C)(k:zd X.K C m g)(l:fs.lookup m=none)
 (h:Q (.ref g,[.ref a]) s):wpAny (model X.prog X.w) A (getMethod (.ref a) m pl) Q E s:=by
 obtain⟨mA,O,r,_,_,_⟩:=mn I.hok e;have hn:mA m=none:=RelO.none_of (by rw[<- l];exact r m);exact zy I.kIn O (c.get m) k.at_ k.fn hn h
theorem vi{y:V}{u:Value}{Q:Unit->Shared->Prop}(I:Inv X pins σ H s)(e:H a=some (.ins C dx fs))(c:Cls X.K C)(n:NoAttr X.K C f)(hl:fs.length<1000)(ry:RelV y u)
 (h:∀s',Inv X pins σ (upd H a (.ins C dx (dE f y fs))) s'->Q () s'):wpAny (model X.prog X.w) A (setAttr (.ref a) f u) Q E s:=by
 obtain⟨mA,O,r,wi,_,ho⟩:=mn I.hok e;have hz:(fs.map (·.1)).length<=sizeLine:=by rw[zK,uS];lia
 refine Dt I.kIn O c.sa c.po n.taker c.hd wi hz fun h' O' sb=>h _ ?_;have hd:∃o,h'.get? dx=some o:=let ⟨o,_,_,e',_⟩:=O'.ns;⟨o,e'⟩;refine I.write (x:=a) (e:=dx) (by rw[e];exact Z2) (.inr ho) (fun b q hb z=>(sb.2 b hb).trans z) hd ?_;refine⟨by rw[ah O.ne];exact ho,?_,O.ne,O'.obj,_,O'.ns,fun g=>?_,fun g hg=>?_⟩
 ·have:=lf f y fs;lia
 ·show RelO ((dE f y fs).lookup g) (if g=f then some u else mA g)
  rw[lq];by_cases q:g=f
  ·rw[if_pos q,if_pos q];exact ry
  ·rw[if_neg q,if_neg q];exact r g
 ·by_cases q:g=f
  ·rw[q];exact(j4 f y fs).1
  ·refine(j4 f y fs).2 g (wi g fun z=>hg ?_)
   show(if g=f then some u else mA g)=none;rw[if_neg q];exact z
theorem Inv.made(I:Inv X pins σ H s):Inv X pins σ (upd (upd H s.heap.objs.size (.own (s.heap.objs.size+1))) (s.heap.objs.size+1) (.ins C s.heap.objs.size []))
 { s with heap:=(s.heap.push ZK).push (Ym C s.heap.objs.size) }:=by
 have e1:(s.heap.push ZK).get? s.heap.objs.size=some ZK:=Heap.get?_push_size s.heap rfl;have e2:((s.heap.push ZK).push (Ym C s.heap.objs.size)).get? (s.heap.objs.size+1)=some (Ym C s.heap.objs.size):=by
  have:=Heap.get?_push_size (s.heap.push ZK) (o:=Ym C s.heap.objs.size) rfl
  rwa [Zq]at this
 have e3:(s.heap.push ZK).Ns s.heap.objs.size (fun _=>none):=⟨ZK,#[],_,e1,rfl,(fun e he=>absurd he (by simp)),fun _=>rfl⟩;have I1:=I.laid (a:=s.heap.objs.size) (o:=.own (s.heap.objs.size+1)) (h':=s.heap.push ZK) (t':=s.toks) (fun b u q=>Heap.get?_push_of_some _ q) (z4 _) ⟨_,e1⟩;refine I1.laid (a:=s.heap.objs.size+1) (o:=.ins C s.heap.objs.size []) (t':=s.toks) (fun b u q=>Heap.get?_push_of_some _ q) (Nat.le_of_eq (Zq _ _)) ?_;have ne:s.heap.objs.size≠s.heap.objs.size+1:=xK (Xf _);refine⟨by rw[ah ne,ad],ud _,ne,e2,fun _=>none,(Heap.Ns1.of_empty e3).at fun o q=>Heap.get?_push_of_some _ q,fun _=>Z2,fun y hy=>absurd rfl hy⟩
theorem B6{prog:Program}{w:World}{env:Env}{e:Expr}{f:Str}{pos:Pos}{s:Shared}{Q:Value->Shared->Prop}(hb:Xa e f env (eval e env)=eval e env)
 (h:wpAny (model prog w) A (eval e env) (fun o s₁=>wpAny (model prog w) A (getAttr o f true) Q E s₁) E s):wpAny (model prog w) A (eval (.Attribute e f pos) env) Q E s:=
 Attribute_any_ h (by rw[arm_eval_Attribute,hb])
end
section
variable{X:Cx}{o e value:Expr}{f:Str}{pos pos' tpos:Pos}{ta tv:TE}
end
section
variable{X:Cx}{pins:List (Addr × Obj)}{σ:St}{H:Hp}{s:Shared}{A:Around}{E:Value->Shared->Prop}{Q:Value->Shared->Prop}{c:Value}{b:Bool}
inductive jc (K:W.Frag) (H:Hp):V->Value->Prop where
 |non:jc K H .non (.type "NoneType")
 |bl (x:Bool):jc K H (.bl x) (.type "bool")
 |int (i:Int):jc K H (.int i) (.type "int")
 |str (x:Str):jc K H (.str x) (.type "str")
 |flt (x:UInt64):jc K H (.flt x) (.type "float")
 |lst {a:Addr} {xs:List V} (e:H a=some (.lst xs)):jc K H (.ref a) (.type "list")
 |frz {a:Addr} {o:Obj} {xs:List V} (e:H a=some (.frz o (.lst xs))):jc K H (.ref a) (.type "list")
 |tup {a:Addr} {xs:List V} (e:H a=some (.tup xs)):jc K H (.ref a) (.type "tuple")
 |dK {a:Addr} {kvs:List (Key × V)} (e:H a=some (.dK kvs)):jc K H (.ref a) (.type "dict")
 |dT {a:Addr} {kvs:List (List Key × V)} (e:H a=some (.dT kvs)):jc K H (.ref a) (.type "dict")
 |ins {a C dx:Addr} {fs:List (Str × V)} (e:H a=some (.ins C dx fs)) (cl:Cls K C) (ha:u7 K (.ref C) "__class__" = some (some (.builtin "object.__class__")))
  (hn:PySem.W.specialIn K (.builtin "object.__class__") "__get__" = some (some (.builtin "getset_descriptor.__get__"))) (htk:PySem.W.takesIn K (.builtin "object.__class__")=some true)
  (hm:YG K C (.type "object")=some true):jc K H (.ref a) (.ref C)
theorem xJ(I:Inv X pins σ H s)(rx:RelV x u)(ty:jc X.K H x t)(e:Yv X.K t c=some b)(h:∀tk,Q (.bool b) { s with toks:=tk }) :
 wpAny (model X.prog X.w) A (call (.builtin "isinstance") [u,c]) Q E s:=by
 cases ty with
 |non=>cases (show u=Zm from rx);exact ZS PySem.W.kitx_none I.kIn Z2 e (fun z=>nomatch z) h
 |bl y=>cases (show u=Value.bool y from rx);exact ZS PySem.W.kitx_bool I.kIn Z2 e (fun z=>nomatch z) h
 |int i=>obtain⟨t,q⟩:=(show ∃t,u=Value.int i t from rx);cases q;exact ZS PySem.W.kitx_int I.kIn Z2 e (fun z=>nomatch z) h
 |str y=>obtain⟨t,q⟩:=(show ∃t,u=Z9 y t from rx);cases q;exact ZS PySem.W.kitx_str I.kIn Z2 e (fun z=>nomatch z) h
 |flt y=>obtain⟨t,q⟩:=(show ∃t,u=Value.float y t from rx);cases q;exact ZS PySem.W.kitx_float I.kIn Z2 e (fun z=>nomatch z) h
 | @lst a xs ea=>
  cases (show u=yy a from rx);obtain⟨_,_,n,_,h1⟩:=(show ObjOk X.prog X.w H s.heap a (.lst xs) from I.hok a _ ea);exact ZS PySem.W.kitx_list I.kIn ⟨_,h1,rfl⟩ e (fun z=>nomatch z) h
 | @frz a ob xs ea=>
  cases (show u=yy a from rx);obtain⟨_,_,_,n,_,h1⟩:=(show ObjOk X.prog X.w H s.heap a (.frz ob (.lst xs)) from I.hok a _ ea);exact ZS PySem.W.kitx_list I.kIn ⟨_,h1,rfl⟩ e (fun z=>nomatch z) h
 | @tup a xs ea=>
  cases (show u=yy a from rx);obtain⟨_,_,_,p⟩:=(show ObjOk X.prog X.w H s.heap a (.tup xs) from I.hok a _ ea);obtain⟨o,h1,h2,_⟩:=p;exact ZS PySem.W.kitx_tuple I.kIn ⟨o,h1,h2⟩ e (fun z=>nomatch z) h
 | @dK a kvs ea=>
  cases (show u=yy a from rx);obtain⟨_,_,vs,_,p⟩:=(show ObjOk X.prog X.w H s.heap a (.dK kvs) from I.hok a _ ea);obtain⟨o,es,ep,h1,h2,_⟩:=p;exact ZS PySem.W.kitx_dict I.kIn ⟨o,h1,h2.1⟩ e (fun z=>nomatch z) h
 | @dT a kvs ea=>
  cases (show u=yy a from rx);obtain⟨_,_,xs,_,o,es,ep,h1,h2,_⟩:=(show ObjOk X.prog X.w H s.heap a (.dT kvs) from I.hok a _ ea);exact ZS PySem.W.kitx_dict I.kIn ⟨o,h1,h2.1⟩ e (fun z=>nomatch z) h
 | @ins a C dx fs ea cl ha hn htk hm=>
  cases (show u=yy a from rx);obtain⟨mA,O,_⟩:=mn I.hok ea;obtain⟨od,J,_⟩:=O.look;exact ZS (PySem.W.kitx_own (cl.get _) cl.hd ha hn htk hm) I.kIn J e (fun z=>nomatch z) h
end
structure Room(k:Nat)(A:Around):Prop where
 hd:A.handled=none
 dp:A.depth+3*k+5<recursionLimit
 un:A.units+16*k+200<cLine
theorem Room.mono(r:Room k A)(h:j<=k):Room j A:=⟨r.hd,by have:=r.dp;lia,by have:=r.un;lia⟩
theorem Room.deeper{A:Around}(r:Room (k+1) A)(env:Env):Room k (A.deeper env):=
 ⟨r.hd,by have:=r.dp;show A.depth+1+3*k+5<_;lia,by have:=r.un;show A.units+3+16*k+200<_;lia⟩
theorem uY{A:Around}:(A.under (.builtin "type.__call__" ⟨.ref C::us,kw⟩)).depth=A.depth+1:=by
 first|rfl|simp[Around.under,Code.weight,Code.isCreation,Code.isGuard,Code.isCaller,Code.frames,Code.isFrame,guardIds]
theorem uI{A:Around}:(A.under (.builtin "type.__call__" ⟨.ref C::us,kw⟩)).units=A.units+1:=by
 first|rfl|simp[Around.under,Code.cUnits,Code.frames,Code.isFrame]
theorem Room.make{A:Around}(r:Room (k+1) A)(C:Addr)(us:List Value)(kw:List (Str × Value)):Room k (A.under (.builtin "type.__call__" ⟨.ref C::us,kw⟩)):=
 ⟨r.hd,by have:=r.dp;rw[uY];lia,by have:=r.un;rw[uI];lia⟩
theorem Room.depth{A:Around}(r:Room k A):A.depth<recursionLimit:=by have:=r.dp;lia
def jP:TA:=fun _ H Q=>Q [] H
def cg(ta:TE)(tr:TA):TA:=fun σ H Q=>ta σ H fun x H1=>tr σ H1 fun xs H2=>Q (x::xs) H2
section
variable{X:Cx}{e:Expr}{es:List Expr}{te:TE}{t:TA}{pos:Pos}
theorem Ge:PA X [] jP:=fun _ _ _ _ H Q I h=>YK ⟨[],H,I,.nil,h⟩
theorem Ds(ha:PE X e te)(hr:PA X es t)(hs:starEach (e::es) X.env=(false,eval e X.env)::starEach es X.env:=by rfl):PA X (e::es) (cg te t):=by
 intro pos pins s σ H Q I h;rw[hs];show wpAny _ _ (spliced ((false,eval e X.env)::backTo pos (starEach es X.env))) _ _ s;refine ZE (thn (ha pins s σ H _ I h) fun u s1 ⟨x,H1,I1,r1,q1⟩=>?_);exact thn (hr pos pins s1 σ H1 _ I1 q1) fun us s2 ⟨xs,H2,I2,r2,q2⟩=>⟨x::xs,H2,I2,.cons r1 r2,q2⟩
def G6(t:TA):TE:=fun σ H Q=>t σ H fun xs H1=>xs.length<=sizeLine/\∀p,H1 p=none->Q (.ref p) (upd H1 p (.tup xs))
def HP(t:TA):TE:=fun σ H Q=>t σ H fun xs H1=>xs.length<=sizeLine/\∀p,H1 p=none->Q (.ref p) (upd H1 p (.lst xs))
theorem bJ{x1}(h:PA X es t):PE X (.Tuple es x1 pos) (G6 t):=by
 intro pins s σ H Q I hq;refine wpAny_Tuple_spliced (thn (h pos pins s σ H _ I hq) fun us s1 ⟨xs,H1,I1,r,z,q⟩=>⟨by rw[<- r.length];exact z,?_⟩);have hf:H1 s1.heap.objs.size=none:=I1.hok.fresh (z4 _);refine⟨.ref s1.heap.objs.size,upd H1 s1.heap.objs.size (.tup xs),I1.laid (t':=s1.toks) (fun b u e=>Heap.get?_push_of_some _ e) (z4 _) ?_,rfl,q _ hf⟩;exact⟨z,us,r,⟨_,Heap.get?_push_size _ rfl,rfl,_,rfl⟩⟩
theorem cX(h:PA X es t):PE X (.List es pos) (HP t):=by
 intro pins s σ H Q I hq;refine wpAny_List_spliced (thn (h pos pins s σ H _ I hq) fun us s1 ⟨xs,H1,I1,r,z,q⟩=>⟨by rw[<- r.length];exact z,?_⟩);have hf:H1 s1.heap.objs.size=none:=I1.hok.fresh (z4 _);refine⟨.ref s1.heap.objs.size,upd H1 s1.heap.objs.size (.lst xs),I1.laid (t':=s1.toks) (fun b u e=>Heap.get?_push_of_some _ e) (z4 _) ?_,rfl,q _ hf⟩;exact⟨z,us,0,r,Heap.get?_push_size _ rfl⟩
end
abbrev Sp:=List V->Hp->VK->XK->Prop
abbrev CXT:=List Env->Hp->Shared->XK->Value->Shared->Prop
structure Env0(P:Program)(w:World)(K:W.Frag)(mg:Str->Option Value)(base:Heap)(A:Around)(outer:List Env)(s:Shared)(H:Hp):Prop where
 frames:A.frames=some outer
 mod:Mod K mg base
 bs:∀b o,base.get? b=some o->s.heap.get? b=some o/\H b=none
 bsz:base.objs.size<=s.heap.objs.size
 funs:s.heap.FunFrames base outer
 frf:∀b∈frs outer,H b=none
 hok:HOk P w H s.heap
 bare:AllBare s.gens
def CE(outer:List Env)(P:Program)(w:World)(H:Hp)(s:Shared)(Q:VK)(u:Value)(s':Shared):Prop:=
 ∃v H',s'.os=s.os/\AllBare s'.gens/\Un (frs outer) [] H H' s.heap s'.heap/\HOk P w H' s'.heap/\RelV v u/\Q v H'
def CR(CX:CXT)(outer:List Env)(P:Program)(w:World)(H:Hp)(s:Shared)(Q:VK)(E:XK)(r:Result)(s':Shared):Prop:=
 match r with
 | .ok (.ret u)=>CE outer P w H s Q u s'
 | .ok _=>False
 | .error e=>CX outer H s E e s'
structure hU(P:Program)(w:World)(K:W.Frag)(mg:Str->Option Value)(base:Heap)(CX:CXT)(k:Nat)(f:Addr)(fd:FuncData)(ps:List Str)(sp:Sp):Prop where
 len:∀vs H Q E,sp vs H Q E->vs.length=ps.length
 run:∀(A:Around) (outer:List Env) (s:Shared) (H:Hp) (args:Args) (us:List Value) (vs:List V) (Q:VK) (E:XK),Room k A->Env0 P w K mg base A outer s H->BindsTo s fd args (ps.zip us)->Vals vs us->sp vs H Q E ->
  codeAny (model P w) A (.call (.ref f) args) (CR CX outer P w H s Q E) s
theorem Env0.make{P:Program}{w:World}{K:W.Frag}{mg:Str->Option Value}{base:Heap}{A:Around}{outer:List Env}{s:Shared}{H:Hp}(e:Env0 P w K mg base A outer s H)(C:Addr)(us:List Value)(kw:List (Str × Value)) :
 Env0 P w K mg base (A.under (.builtin "type.__call__" ⟨.ref C::us,kw⟩)) outer s H:=⟨by first|exact e.frames|(simpa [Around.under,Code.envs,Code.isFrame,pushEnvs] using e.frames),e.mod,e.bs,e.bsz,e.funs,e.frf,e.hok,e.bare⟩
section
variable{X:Cx}{pins:List (Addr × Obj)}{σ:St}{H:Hp}{s s':Shared}
theorem Inv.env0(I:Inv X pins σ H s):Env0 X.prog X.w X.K X.mg X.base X.A X.stack s H:=
 ⟨I.ok.frames,I.ok.mod,I.bs,uM I.ok.bsz I.sz,I.stack,I.stkFree,I.hok,I.bare⟩
theorem Inv.after(I:Inv X pins σ H s)(h:CE X.stack X.prog X.w H s Q u s'):EP X pins σ Q u s':=by
 obtain⟨v,H',os,bare,un,hok,r,q⟩:=h;obtain⟨hh,g,d,t,os'⟩:=s';obtain rfl:os'=s.os:=os;exact⟨v,H',I.call (h':=hh) (g':=g) (d':=d) (t':=t) (ch:=[]) un hok bare (fun b z=>absurd z (by simp)),r,q⟩
end
def Binds(K:W.Frag)(fd:FuncData)(ps:List Str)(ds:List Value):Prop:=
 ∀(s:Shared) (us:List Value),K.In s.heap->(us++ds).length=ps.length->BindsTo s fd ⟨us,[]⟩ (ps.zip (us++ds))
theorem Binds.all{K:W.Frag}{fd:FuncData}{ps:List Str}(h:∀us:List Value,us.length=ps.length->bindArgs fd ⟨us,[]⟩=pure (ps.zip us)):Binds K fd ps []:=fun s us _ hl=>by
 rw[Zh]at hl |-
 exact .of_eq (h us hl)
section
variable{X:Cx}{CX:CXT}{k:Nat}{f C:Addr}{fd:FuncData}{ps:List Str}{sp:Sp}{dvs:List V}{ds:List Value}{E:XK}{x m:Str}{p pos apos:Pos}{e o:Expr}{es:List Expr}{ta:TE}{t:TA}
structure Mk(K:W.Frag)(C f:Addr):Prop where
 makes:PySem.W.makesIn K C=true
 init:u7 K (.ref C) "__init__" = some (some (.ref f))
 fn:PySem.W.isFn K (.ref f)=true
 kp:Yu K (.ref C)=true
end
section
variable{X:Cx}{CX:CXT}{k:Nat}{f C:Addr}{fd:FuncData}{ps ks:List Str}{sp:Sp}{E:XK}{x m:Str}{p pos apos kpos:Pos}{e o:Expr}{es:List Expr}{kws:List Keyword}{te ta:TE}{t tk:TA}{nm:Option Str}
variable{g:List Value->List Value->List Value}{gV:List V->List V->List V}
end
structure bd(N P:List Str)(sc:Scope):Prop where
 kind:sc.kind = .function
 co:sc.isCoroutine=false
 gen:sc.isGenerator=false
 nd:N.Nodup
 pre:N.take P.length=P
 par:∀x∈P,sc.names.lookup x=some .local\/sc.names.lookup x=some .cell
 nofree:∀y∈sc.names,y.2 ≠ .free
theorem o7{kindOf:Str->Option NameKind}{x:Str}:∀ {binds:List (Str × Value)} {m:Str->Option Value},(∀v,(x,v)∉binds)->bindL kindOf binds m x=m x
 | [],_,_=>rfl
 |(n,v)::r,m,h=>by
  unfold bindL;rw[o7 fun w hw=>h w (vt _ hw)];split
  ·have:x≠n:=by rintro rfl;exact h v ZF
   simp[this]
  ·rfl
theorem oU{kindOf:Str->Option NameKind}{x:Str}:∀ {binds:List (Str × Value)} {m:Str->Option Value},(∀v,(x,v)∉binds)->bindC kindOf binds m x=m x
 | [],_,_=>rfl
 |(n,v)::r,m,h=>by
  unfold bindC;rw[oU fun w hw=>h w (vt _ hw)];split
  ·rfl
  ·have:x≠n:=by rintro rfl;exact h v ZF
   simp[this]
theorem pC{kindOf:Str->Option NameKind}{x:Str}{v:Value}:∀ {P:List Str} {vs:List Value} {i:Nat} {m:Str->Option Value},P.Nodup->P[i]? = some x->vs[i]? = some v->kindOf x=some .local ->
 bindL kindOf (P.zip vs) m x=some v
 | [],_,_,_,_,h,_,_=>by simp at h
 |_::_,[],_,_,_,_,h,_=>by simp at h
 |p::P,w::vs,0,m,nd,h1,h2,hk=>by
  simp at h1 h2;subst h1;subst h2;show bindL kindOf ((p,w)::P.zip vs) m p=_;unfold bindL;rw[o7 fun v hv=>(Zd.mp nd).1 (List.of_mem_zip hv).1,if_pos hk];simp
 |p::P,w::vs,i+1,m,nd,h1,h2,hk=>by
  show bindL kindOf ((p,w)::P.zip vs) m x=_;unfold bindL;exact pC (i:=i) (Zd.mp nd).2 (by simpa using h1) (by simpa using h2) hk
theorem oV{kindOf:Str->Option NameKind}{x:Str}{v:Value}:∀ {P:List Str} {vs:List Value} {i:Nat} {m:Str->Option Value},P.Nodup->P[i]? = some x->vs[i]? = some v->kindOf x≠some .local ->
 bindC kindOf (P.zip vs) m x=some v
 | [],_,_,_,_,h,_,_=>by simp at h
 |_::_,[],_,_,_,_,h,_=>by simp at h
 |p::P,w::vs,0,m,nd,h1,h2,hk=>by
  simp at h1 h2;subst h1;subst h2;show bindC kindOf ((p,w)::P.zip vs) m p=_;unfold bindC;rw[oU fun v hv=>(Zd.mp nd).1 (List.of_mem_zip hv).1,if_neg hk];simp
 |p::P,w::vs,i+1,m,nd,h1,h2,hk=>by
  show bindC kindOf ((p,w)::P.zip vs) m x=_;unfold bindC;exact oV (i:=i) (Zd.mp nd).2 (by simpa using h1) (by simpa using h2) hk
def eU(N:List Str)(vs:List V):St:=vs.map some++List.replicate (N.length-vs.length) none
def bW(CX:CXT)(P:Program)(w:World)(K:W.Frag)(mg:Str->Option Value)(base:Heap)(N:List Str)(qual:Str)(scope:Scope)(f:Addr)(cd:Value)(A:Around)(outer:List Env)(s:Shared)(H:Hp)(E:XK):Cx where
 prog:=P
 w:=w
 K:=K
 mg:=mg
 base:=base
 A:=A.deeper (envOfC qual scope s.heap.objs.size f cd)
 N:=N
 s₀:=s
 H₀:=H
 env:=envOfC qual scope s.heap.objs.size f cd
 outer:=outer
 stack:=envOfC qual scope s.heap.objs.size f cd::outer
 ex:=[]
 calm:=true
 fn:=fun _=>true
 pn:=[]
 xe:=fun e s'=>wpAny (model P w) (A.deeper (envOfC qual scope s.heap.objs.size f cd)) (leaving (envOfC qual scope s.heap.objs.size f cd) e) (fun _ s''=>CX outer H s E e s'') (fun e' s''=>CX outer H s E e' s'') s'
theorem sQ{sc:Scope}(h:sc.names.lookup x=some .cell):∃c,(cellsFrom n sc.names []).lookup x=some c:=by
 have q:=PySem.W.cellsFrom_some sc.names n [] (.inl h);exact Option.isSome_iff_exists.mp q
theorem yh{CX:CXT}{P:Program}{w:World}{K:W.Frag}{mg:Str->Option Value}{base:Heap}{N ps:List Str}{qual:Str}{scope:Scope}{f:Addr}{cd:Value}{A:Around}{outer:List Env}{s s1:Shared}{H:Hp}{E:XK}{us:List Value}{vs:List V}
 (S:bd N ps scope) (hd:A.handled=none) (e0:Env0 P w K mg base A outer s H) (hl:vs.length=ps.length) (r:Vals vs us)
 (x:InCallC s s.heap.objs.size (bindL (envOfC qual scope s.heap.objs.size f cd).kindOf (ps.zip us) fun _=>none) (cellsFrom (s.heap.objs.size+1) scope.names []) (bindC (envOfC qual scope s.heap.objs.size f cd).kindOf (ps.zip us) fun _=>none) s1) :
 Inv (bW CX P w K mg base N qual scope f cd A outer s H E) [] (eU N vs) H s1:=by
 have hpl:ps.length<=N.length:=by have:=congrArg YS S.pre;rw[qW]at this;lia
 obtain⟨h1,tk,rfl,hk⟩:=x.done;have noA:∀b:Addr,b∉(bW CX P w K mg base N qual scope f cd A outer s H E).ex:=fun b z=>absurd (show b∈([]:List Addr) from z) (by simp);refine⟨⟨e0.mod,S.kind,rfl,rfl,z4 _,fun y z c h1 h2=>?_,fun y hy=>?_,fun y c _ h=>?_,fun _=>hd,Around.frames_deeper e0.frames,.inr ⟨rfl,rfl⟩,fun b z=>absurd z (noA b),e0.bs,e0.bsz,fun b _ _=>noA b,fun b z=>absurd z (noA b),e0.funs,e0.frf⟩,
  rfl,e0.bare,Un.kept hk,⟨_,x.toInCall.ns,fun i y v h1 h2 h3=>?_⟩,fun y c h=>⟨_,x.cell y c h⟩,e0.hok.fresh (z4 _),fun y c h=>?_,fun p hp=>absurd (show p∈([]:List (Addr × Obj)) from hp) (by simp),e0.hok.kept hk,?_⟩
 ·exact name_of_addr x.apart (Z5 h1) (Z5 h2)
 ·have hy:scope.names.lookup y=some .cell\/scope.names.lookup y=some .free:=hy
  rcases hy with hy|hy
  ·exact sQ hy
  ·exact absurd rfl (S.nofree _ (Z5 hy))
 ·exact Yk (x.above y c (Z5 h))
 ·have hi:i<vs.length:=by
   unfold eU at h2;by_cases hi:i<vs.length
   ·exact hi
   ·rw[List.getElem?_append_right (by simpa using hi)]at h2
    rw[List.getElem?_replicate]at h2;split at h2 <;> cases h2
  have ha:vs[i]? = some v:=by
   unfold eU at h2;rw[List.getElem?_append_left (by simpa using hi),List.getElem?_map]at h2;cases e:vs[i]? with
   |none=>rw[e]at h2;cases h2
   |some a=>rw[e]at h2;cases h2;rfl
  obtain⟨u,hu,rv⟩:=r.get ha;have hp:ps[i]? = some y:=by
   rw[<- S.pre,List.getElem?_take_of_lt (by lia)];exact h1
  have ndP:ps.Nodup:=by rw[<- S.pre];exact S.nd.sublist (List.take_sublist _ _)
  refine⟨u,rv,?_⟩;rcases S.par y (xg hp) with k|k
  ·exact .inl ⟨k,pC ndP hp hu k⟩
  ·obtain⟨c,e⟩:=sQ (n:=s.heap.objs.size+1) k
   refine .inr ⟨.inl k,c,e,?_⟩;have q:=x.cell y c e;rw[oV ndP hp hu (by show scope.names.lookup y≠_;rw[k];decide)]at q;exact q
 ·exact e0.hok.fresh (Yk (x.above y c (Z5 h)))
 ·unfold eU
  show _=N.length;rw[yw,zK,List.length_replicate];lia
theorem Hx{CX:CXT}{P:Program}{w:World}{K:W.Frag}{mg:Str->Option Value}{base:Heap}{k:Nat}{f:Addr}{name qual:Str}{params:Arguments}{body:List Stmt}{scope:Scope}{dV kV doc pm cdv ct oc:Value}{an od:Option Addr}
 {osl:Array (Option Value)} {N ps:List Str} {sp:Sp} (lk:K.lookup f=some ⟨oc,od,.func (YQ name qual params body scope dV kV doc pm an cdv ct),osl⟩) (hcd:PySem.W.codeIn K cdv qual=true) (S:bd N ps scope)
 (len:∀vs H Q E,sp vs H Q E->vs.length=ps.length)
 (hbody:∀(A:Around) (outer:List Env) (s:Shared) (H:Hp) (vs:List V) (Q:VK) (E:XK),Room k (A.deeper (envOfC qual scope s.heap.objs.size f cdv))->sp vs H Q E ->
  ∃t,PSs (bW CX P w K mg base N qual scope f cdv A outer s H E) body t/\t { nx:=fun _ H'=>Q .non H',rt:=Q } (eU N vs) H) :
 hU P w K mg base CX (k+1) f (YQ name qual params body scope dV kV doc pm an cdv ct) ps sp:=by
 refine⟨len,fun A outer s H args us vs Q E hr e0 hb r hsp=>?_⟩;have hl:=len _ _ _ _ hsp;have KX:K.In s.heap:=e0.mod.kin.keeps fun b o e=>(e0.bs b o e).1;have lim:s.heap.NoLimit:=e0.mod.nolimit.keeps fun b o e=>(e0.bs b o e).1;have hkind:∀y∈ps.zip us,scope.names.lookup y.1=some .local\/(scope.names.lookup y.1=some .cell/\((cellsFrom (s.heap.objs.size+1) scope.names []).lookup y.1).isSome=true):=fun⟨n,v⟩ hy=>by
  rcases S.par n (List.of_mem_zip hy).1 with q|q
  ·exact .inl q
  ·exact .inr ⟨q,PySem.W.cellsFrom_some _ _ _ (.inl q)⟩
 refine codeAny_call_function hr.depth (KX _ _ lk) rfl S.co S.gen rfl (PySem.W.codeRec_of KX hcd) (hb _ _ _ _ ?_);refine wpAny_newFunctionEnv_cells S.kind hkind fun env he s1 x=>?_;subst he;refine⟨lim.keeps x.toInCall.keep,codeAny_func ?_⟩;obtain⟨t,ht,hq⟩:=hbody A outer s H vs Q E (hr.deeper _) hsp;have I:Inv (bW CX P w K mg base N qual scope f cdv A outer s H E) [] (eU N vs) H s1:=yh S hr.hd e0 hl r x;refine qN (ht [] s1 (eU N vs) H _ I hq) (fun fl s' hs=>?_) fun e s' hs=>hs;have fin:∀ {σ':St} {H':Hp} {v:V} {u:Value},Inv (bW CX P w K mg base N qual scope f cdv A outer s H E) [] σ' H' s'->RelV v u->Q v H'->CE outer P w H s Q u s':=
  fun {σ' H' v u} J rv q=>⟨v,H',J.os,J.bare,J.base,J.hok,rv,q⟩
 cases fl with
 |ret u=>
  obtain⟨v,σ',H',J,rv,q⟩:=hs;exact fin J rv q
 |next=>
  obtain⟨σ',H',J,q⟩:=hs;exact fin (v:=V.non) (u:=Zm) J rfl q
 |brk=>
  obtain⟨_,_,_,q⟩:=hs;exact Z3 q
 |cont=>
  obtain⟨_,_,_,q⟩:=hs;exact Z3 q
section
variable{X:Cx}{x:Str}{p pos:Pos}{e:Expr}{es:List Expr}{t:TA}{id T:String}{r:List V->Hp->VK->Prop}
def tCB(r:List V->Hp->VK->Prop)(t:TA):TE:=fun σ H Q=>t σ H fun vs H1=>r vs H1 Q
theorem aH(hc:CallR X (.builtin id) r)(hg:Gl X x)(hm:X.mg x=none)(hv:qK x=some (.builtin id))(ha:PA X (e::es) t)(hn:x ≠ "__name__":=by decide)(hdb:(x==("__debug__":Str))=false:=by decide)
 (he:starEach (e::es) X.env=(false,eval e X.env)::starEach es X.env:=by rfl) (hpl:(backTo pos (starEach es X.env)).any (·.1)=false:=by rfl):PE X (.Call (.Name x p) (e::es) [] pos) (tCB r t):=by
 intro pins s σ H Q I h;refine Yy (gU I hg hm hv ?_ hn hdb);exact PyProof.Rows.callWith_builtin1 (thn (ha pos pins s σ H _ I h) fun us s1 ⟨vs,H1,I1,r1,q1⟩=>hc pins s1 σ H1 vs us Q I1 r1 q1) he hpl
theorem d7(hc:CallR X (.type T) r)(hg:Gl X x)(hm:X.mg x=none)(hv:qK x=some (.type T))(ha:PA X (e::es) t)(hn:x ≠ "__name__":=by decide)(hdb:(x==("__debug__":Str))=false:=by decide)
 (he:starEach (e::es) X.env=(false,eval e X.env)::starEach es X.env:=by rfl) (hpl:(backTo pos (starEach es X.env)).any (·.1)=false:=by rfl):PE X (.Call (.Name x p) (e::es) [] pos) (tCB r t):=by
 intro pins s σ H Q I h;refine Yy (gU I hg hm hv ?_ hn hdb);exact Z0 (thn (ha pos pins s σ H _ I h) fun us s1 ⟨vs,H1,I1,r1,q1⟩=>hc pins s1 σ H1 vs us Q I1 r1 q1) he hpl
end
end L2
namespace HT
open PySem PyProof.Rows
section
open PySem.SeqAt
open PySem.AutoSeq1 (wpAny_loadPart')
open PySem.MeetsSeq PySem.MeetsSeq2 PySem.MeetsSeq3
end
section
variable{prog:Program}{w:World}{A:Around}{E:Value->Shared->Prop}{s:Shared}
theorem cat_tup{vs ws:List Value}(ht:IsTup s.heap t vs.toArray)(hb:IsTup s.heap b ws.toArray)(hv:vs≠[])
 (h1:ws=[]->Q (.ref t) s) (h2:ws≠[]->Q (.ref s.heap.objs.size) { s with heap:=s.heap.push { cls:=.type "tuple",data:=.seq (vs++ws).toArray } })
 (hsz:vs.length+ws.length<=sizeLine):wpAny (model prog w) A (binaryOp .Add (.ref t) (.ref b)) Q E s:=by
 obtain⟨⟨cls,dd,data,sl⟩,ho,hc,n,hd⟩:=id ht;obtain⟨⟨cls2,dd2,data2,sl2⟩,ho2,hc2,n2,hd2⟩:=id hb;simp only at hc hd hc2 hd2;subst hc hd hc2 hd2;have e:vs.toArray++ws.toArray=(vs++ws).toArray:=by simp
 by_cases hw:ws=[]
 ·exact concat_meets ⟨_,ho,rfl⟩ ⟨_,ho2,rfl⟩ noFill_tuple_add seq_tuple_add PySem.F.slot_tuple_add XJ (XX _ _)
   (tuple_addW1 t b vs.toArray ws.toArray n n2 dd dd2 sl sl2 (by simpa using hv) (by simp[hw])) ⟨ho,ho2,h1 hw⟩
 ·refine concat_meets ⟨_,ho,rfl⟩ ⟨_,ho2,rfl⟩ noFill_tuple_add seq_tuple_add PySem.F.slot_tuple_add XJ (XX _ _)
   (tuple_addW2 t b vs.toArray ws.toArray n n2 dd dd2 sl sl2 (by simpa using hv) (by simpa using hw) (by rw[yg,yg];exact hsz)) ⟨ho,ho2,?_⟩
  rw[e];exact h2 hw
def sIx(n d:Nat):Option Int->Nat
 |none=>d
 |some v=>if v<0 then (v+(n:Int)).toNat else min v.toNat n
theorem sIx_none(n d:Nat):sIx n d none=d:=rfl
theorem sIx_nat(n d k:Nat):sIx n d (some (k:Int))=min k n:=by
 show(if (k:Int)<0 then ((k:Int)+(n:Int)).toNat else min (k:Int).toNat n)=min k n;rw[if_neg (by lia),ZU]
theorem sIx_le(n d:Nat)(hd:d<=n)(o:Option Int):sIx n d o<=n:=by
 cases o with
 |none=>exact hd
 |some v=>
  show(if v<0 then (v+(n:Int)).toNat else min v.toNat n)<=n;by_cases hv:v<0
  ·rw[if_pos hv];lia
  ·rw[if_neg hv];exact Nat.min_le_right _ _
theorem wA(v:Int)(n d:Nat):(if v<0 then max (v+(n:Int)) 0 else min v (n:Int))=((sIx n d (some v):Nat):Int):=by
 show(if v<0 then max (v+(n:Int)) 0 else min v (n:Int))=(((if v<0 then (v+(n:Int)).toNat else min v.toNat n):Nat):Int);by_cases hv:v<0
 ·simp only[if_pos hv];lia
 ·simp only[if_neg hv];lia
theorem u0(lo hi:Option Int)(n:Nat):Xd lo hi 1 (n:Int)=(((sIx n 0 lo:Nat):Int),((sIx n n hi:Nat):Int)):=by
 have h1:¬ ((1:Int)<0):=by lia
 unfold Xd;simp only[h1,if_false];refine Prod.ext ?_ ?_
 ·cases lo with
  |none=>rfl
  |some v=>exact wA v n 0
 ·cases hi with
  |none=>rfl
  |some v=>exact wA v n n
theorem uX(i j:Nat):YW (i:Int) (j:Int) 1=j-i:=by
 unfold YW;have h1:(1:Int) > 0:=by lia
 simp only[h1,if_true,Int.ediv_one];split <;> lia
theorem nF{Q:Option Int->Shared->Prop}(p:IsPart v o)(h:Q o s):wpAny (model prog w) A (Builtin.Slice.slicePartIndex v) Q E s:=by
 cases p with
 |none=>exact slicePart_none h
 |int i t=>exact slicePart_int h
theorem k8{sl:Addr}{vl vu:Value}{lo hi:Option Int}{n:Nat}{Q:Int × Int × Nat->Shared->Prop}(hs:s.heap.IsSliceOf sl vl vu .none)(pl:IsPart vl lo)(pu:IsPart vu hi)
 (h:Q (((sIx n 0 lo:Nat):Int),1,sIx n n hi-sIx n 0 lo) s):wpAny (model prog w) A (Builtin.Slice.sliceApplied (.ref sl) (pure (n:Int))) Q E s:=by
 obtain⟨os,hos,hcs,hds⟩:=id hs;unfold Builtin.Slice.sliceApplied Builtin.Slice.sliceFields;refine zm (zm (ZM hos hds (x:=vl) rfl (zm (ZM hos hds (x:=vu) rfl (zm (ZM hos hds (x:=.none) rfl (za ?_)))))));refine zm (slicePart_none ?_);show wpAny _ _ (if ((1:Int)==0)=true then _ else _) _ _ s;rw[if_neg (by decide)];refine zm (nF pl (zm (nF pu (zm (za ?_)))));show wpAny _ _ (match Xd lo hi 1 (n:Int) with|(lo,hi)=>pure (lo,(1:Int),YW lo hi 1)) _ _ s;rw[u0 lo hi n];show wpAny _ _ (pure (((sIx n 0 lo:Nat):Int),(1:Int),YW ((sIx n 0 lo:Nat):Int) ((sIx n n hi:Nat):Int) 1)) _ _ s;rw[uX];exact za h
theorem AJ(xs:Array Value)(i k:Nat):((Zj k).filterMap fun(m:Nat)=>xs[((i:Int)+(m:Int)*1).toNat]?).toArray=((xs.toList.drop i).take k).toArray:=by
 have e:(fun(m:Nat)=>xs[((i:Int)+(m:Int)*1).toNat]?)=fun m=>xs[i+m]?:=by
  funext m;have:((i:Int)+(m:Int)*1).toNat=i+m:=by lia
  rw[this]
 rw[e];have:=pick_run xs i k;rw[List.filterMap_map]at this;have e2:((fun x=>xs[x]?) ∘ fun x=>i+x)=fun m=>xs[i+m]?:=rfl;rw[e2]at this;rw[this]
theorem getItem_tuple_cut{t sl:Addr}{items:Array Value}{vl vu:Value}{lo hi:Option Int}{Q:Value->Shared->Prop}(ht:IsTup s.heap t items)(hs:s.heap.IsSliceOf sl vl vu .none)(pl:IsPart vl lo)(pu:IsPart vu hi)
 (hw:¬ (sIx items.size 0 lo=0/\sIx items.size items.size hi=items.size))
 (h:Q (.ref s.heap.objs.size) { s with heap:=s.heap.push { cls:=.type "tuple",data:=.seq ((items.toList.drop (sIx items.size 0 lo)).take (sIx items.size items.size hi-sIx items.size 0 lo)).toArray } })
 (hsz:items.size<=sizeLine):wpAny (model prog w) A (getItem (.ref t) (.ref sl)) Q E s:=by
 have htake:sizeOk (.seq ((items.toList.drop (sIx items.size 0 lo)).take (sIx items.size items.size hi-sIx items.size 0 lo)).toArray):=by
  show((items.toList.drop (sIx items.size 0 lo)).take (sIx items.size items.size hi-sIx items.size 0 lo)).toArray.size<=sizeLine;rw[yg,qW,List.length_drop,xO];lia
 have hj:sIx items.size items.size hi<=items.size:=sIx_le _ _ (z4 _) hi;obtain⟨os,hos,hcs,hds⟩:=id hs;have hTs:s.TypeIs (.ref sl) "slice":=⟨os,hos,hcs⟩;unfold getItem
 try with_reducible refine Ze ?_
 first|refine zm (za ?_)|skip
 refine zm (wpAny_sequenceKey ht.typeIs (by decide) ?_);refine zm (wpAny_callSpecial?_slot (name:=zI "__getitem__") ht.typeIs PyProof.Rows.slot_tuple_getitem
  (r6 PyProof.Rows.slot_tuple_getitem ht.typeIs entry_tuple_getitem ?_ (args_tuple_getitem _ _)))
 show wpAny _ _ (Builtin.Tuple.tupleItemsOf (.ref t) >>= _) _ _ s;refine zm (tupleItemsOf_ ht ?_);refine zm (wpAny_typeOf hTs ?_);rw[if_pos (by decide)];refine zm (k8 hs pl pu ?_);have hno:¬ ((((sIx items.size 0 lo:Nat):Int)==0&&(1:Int)==1&&(sIx items.size items.size hi-sIx items.size 0 lo)==items.size)=true):=by
  intro q;rw[Zi,Zi]at q;have q1:((sIx items.size 0 lo:Nat):Int)=0:=eq_of_beq q.1.1;have q2:sIx items.size items.size hi-sIx items.size 0 lo=items.size:=eq_of_beq q.2;exact hw ⟨by lia,by lia⟩
 show wpAny _ _ (if (((sIx items.size 0 lo:Nat):Int)==0&&(1:Int)==1&&(sIx items.size items.size hi-sIx items.size 0 lo)==items.size)=true then _ else _) _ _ s;rw[if_neg hno,AJ]
 first
  |exact zm (m:=YD _) (pL (za ⟨_,rfl,za h⟩) htake)
  |exact zm (m:=YD _) (pL (zm (za (za ⟨_,rfl,za h⟩))) htake)
  |exact zm (zm (m:=YD _) (pL (za (za ⟨_,rfl,za h⟩)) htake))
  |exact zm (zm (m:=YD _) (pL (za ⟨_,rfl,za h⟩) htake))
end
end HT
namespace L2
open PySem PySem.Spec PyProof.Rows
abbrev TO:=St->Hp->(Option Int->Hp->Prop)->Prop
def PO(X:Cx)(e:Option Expr)(t:TO):Prop:=
 ∀(pins:List (Addr × Obj)) (s:Shared) (σ:St) (H:Hp) (Q:Option Int->Hp->Prop),Inv X pins σ H s->t σ H Q ->
  wpAny (model X.prog X.w) X.A (evalPart e X.env) (fun u s'=>∃o H',Inv X pins σ H' s'/\IsPart u o/\Q o H') X.xe s
def wa:TO:=fun _ H Q=>Q none H
def D0(t:TE):TO:=fun σ H Q=>t σ H fun x H1=>∃i,x = .int i/\Q (some i) H1
theorem mY{ns:List Int}:∀ {us:List Value},Vals (ns.map V.int) us->IntsAre us ns:=by
 induction ns with
 |nil=>intro us r;rw[YO]at r;cases r;exact .nil
 |cons n ns ih=>
  intro us r;rw[xx]at r;cases r with
  |cons r1 r2=>
   obtain⟨t,e⟩:=r1;subst e;exact .cons n t (ih r2)
section
variable{X:Cx}{e:Expr}{te:TE}{lo hi:Option Expr}{tl th:TO}{pos p2:Pos}
theorem da:PO X none wa:=by
 intro pins s σ H Q I h;rw[evalPart_none];exact za ⟨none,H,I,.none,h⟩
theorem c8(h:PE X e te):PO X (some e) (D0 te):=by
 intro pins s σ H Q I hw;rw[evalPart_some];refine thn (h pins s σ H _ I hw) fun u s1 ⟨x,H1,I1,r1,q1⟩=>?_;obtain⟨i,rfl,q⟩:=q1;obtain⟨t,rfl⟩:=r1;exact⟨some i,H1,I1,.int i t,q⟩
def SlR(X:Cx)(r:V->Option Int->Option Int->Hp->VK->Prop):Prop:=
 ∀(pins:List (Addr × Obj)) (s:Shared) (σ:St) (H:Hp) (x:V) (v vl vu:Value) (lo hi:Option Int) (sl:Addr) (Q:VK),Inv X pins σ H s->RelV x v->s.heap.IsSliceOf sl vl vu .none->IsPart vl lo->IsPart vu hi->r x lo hi H Q ->
  ∃T id,typeLookup (.type T) "__getitem__" = pure (some (.builtin id))/\s.TypeIs v T/\wpAny (model X.prog X.w) X.A (getItem v (.ref sl)) (EP X pins σ Q) X.xe s
def tSl(r:V->Option Int->Option Int->Hp->VK->Prop)(te:TE)(tl th:TO):TE:=fun σ H Q=>te σ H fun x H1=>tl σ H1 fun l H2=>th σ H2 fun u H3=>r x l u H3 Q
theorem ci{r:V->Option Int->Option Int->Hp->VK->Prop}(hr:SlR X r)(he:PE X e te)(hl:PO X lo tl)(hu:PO X hi th):PE X (.Subscript e (.Slice lo hi none p2) pos) (tSl r te tl th):=by
 intro pins s σ H Q I h;refine Subscript_ (thn (he pins s σ H _ I h) fun v s1 ⟨x,H1,I1,r1,q1⟩=>?_);refine wpAny_Slice (thn (hl pins s1 σ H1 _ I1 q1) fun vl s2 ⟨l,H2,I2,pl,q2⟩=>thn (hu pins s2 σ H2 _ I2 q2) fun vu s3 ⟨u,H3,I3,pu,q3⟩=>?_);rw[evalPart_none];refine za ?_;have I4:Inv X pins σ H3 { s3 with heap:=s3.heap.push { cls:=.type "slice",data:=.fields #[vl,vu,.none] } }:=I3.kept (t':=s3.toks) fun b ob q=>Heap.get?_push_of_some _ q;obtain⟨T,id,hT,ht,hg⟩:=hr pins { s3 with heap:=s3.heap.push { cls:=.type "slice",data:=.fields #[vl,vu,.none] } } σ H3 x v vl vu l u s3.heap.objs.size Q I4 r1 (Heap.IsSliceOf.new ..) pl pu q3;show wpAny (model X.prog X.w) X.A (subscriptTail e (.Slice lo hi none p2) v (.ref s3.heap.objs.size)) (EP X pins σ Q) X.xe { s3 with heap:=s3.heap.push { cls:=.type "slice",data:=.fields #[vl,vu,.none] } };exact tail_any (ops:=[.ref s3.heap.objs.size,v]) ht hT hg (by with_unfolding_all rfl)
def h_(xs:List V)(lo hi:Option Int):List V:=(xs.drop (HT.sIx xs.length 0 lo)).take (HT.sIx xs.length xs.length hi-HT.sIx xs.length 0 lo)
theorem lB(xs:List V)(lo hi:Option Int):(h_ xs lo hi).length<=xs.length:=by
 unfold h_;rw[qW,List.length_drop];lia
def GU(K:W.Frag):V->Option Int->Option Int->Hp->VK->Prop:=fun x lo hi H Q=>∃a xs,x = .ref a/\SqT K H a xs /\
 ¬ (HT.sIx xs.length 0 lo=0/\HT.sIx xs.length xs.length hi=xs.length)/\∀p,H p=none->Q (.ref p) (upd H p (.tup (h_ xs lo hi)))
theorem E5:SlR X (GU X.K):=by
 intro pins s σ H x v vl vu lo hi sl Q I rx hs pl pu h;obtain⟨a,xs,rfl,hx,hw,q⟩:=h;cases rx;obtain⟨its,r,ht,hz⟩:=I.tuple hx;have hlen:its.toArray.size=xs.length:=by rw[yg];exact r.length.symm
 refine⟨"tuple",_,PyProof.Rows.slot_tuple_getitem.lookup,ht.typeIs,?_⟩;refine HT.getItem_tuple_cut ht hs pl pu (by rw[hlen];exact hw) ?_ (by rw[hlen];exact hz);rw[hlen];refine⟨.ref s.heap.objs.size,_,I.laid (t':=s.toks) (o:=.tup (h_ xs lo hi)) (fun b ob q=>Heap.get?_push_of_some _ q) (z4 _) ?_,rfl,q _ (I.hok.fresh (z4 _))⟩;exact⟨uM (lB xs lo hi) hz,_,(r.drop (HT.sIx xs.length 0 lo)).take (HT.sIx xs.length xs.length hi-HT.sIx xs.length 0 lo),IsTup.new _ _⟩
def Hw(K:W.Frag):R2:=fun x y H Q=>∃a b xs ys,x = .ref a/\y = .ref b/\SqT K H a xs/\SqT K H b ys/\xs≠[]/\xs.length+ys.length<=sizeLine /\
 (ys=[]->Q (.ref a) H)/\(ys≠[]->∀p,H p=none->Q (.ref p) (upd H p (.tup (xs++ys))))
theorem Vals.nil_iff(r:Vals xs us):us=[]↔xs=[]:=by
 cases r with
 |nil=>simp
 |cons _ _=>simp
theorem Cb:OpR X (binaryOp .Add) (Hw X.K):=by
 intro pins s σ H x y v u Q I rx ry h;obtain⟨a,b,xs,ys,rfl,rfl,ha,hb,hx,hz,q1,q2⟩:=h;cases rx;cases ry;obtain⟨its,r1,p1,_⟩:=I.tuple ha;obtain⟨its2,r2,p2,_⟩:=I.tuple hb;refine HT.cat_tup p1 p2 (fun z=>hx (r1.nil_iff.mp z)) (fun z=>⟨.ref a,H,I,rfl,q1 (r2.nil_iff.mp z)⟩) (fun z=>?_) (by rw[<- r1.length,<- r2.length];exact hz);refine⟨.ref s.heap.objs.size,_,I.laid (t':=s.toks) (o:=.tup (xs++ys)) (fun b ob q=>Heap.get?_push_of_some _ q) (z4 _) ?_,rfl,q2 (fun w=>z (r2.nil_iff.mpr w)) _ (I.hok.fresh (z4 _))⟩;exact⟨by rw[yw];exact hz,_,r1.append r2,IsTup.new _ _⟩
end
def ixN(n:Nat)(i:Int):Option Nat:=if 0<=i then (if i<n then some i.toNat else none) else if -(n:Int)<=i then some (i+n).toNat else none
def atI{α:Type}(xs:List α)(i:Int):Option α:=(ixN xs.length i).bind fun j=>xs[j]?
theorem v6{i:Int}(h:ixN n i=some j):seqIndex? i n=some j/\j<n /\ -(n:Int)<=i/\i<n:=by
 unfold ixN at h;by_cases h0:0<=i
 ·rw[if_pos h0]at h
  by_cases h1:i<n
  ·rw[if_pos h1]at h
   have e:i.toNat=j:=se h;exact⟨by rw[seqIndex_of h0 h1,e],by lia,by lia,h1⟩
  ·rw[if_neg h1]at h;cases h
 ·rw[if_neg h0]at h
  by_cases h1:-(n:Int)<=i
  ·rw[if_pos h1]at h
   have e:(i+n).toNat=j:=se h;exact⟨by rw[seqIndex_neg (by lia) h1,e],by lia,h1,by lia⟩
  ·rw[if_neg h1]at h;cases h
theorem qM{α:Type}{xs:List α}{i:Int}{v:α}(h:atI xs i=some v):∃j,seqIndex? i xs.length=some j/\xs[j]? = some v/\j<xs.length /\ -(xs.length:Int)<=i/\i<xs.length:=by
 unfold atI at h;cases e:ixN xs.length i with
 |none=>rw[e]at h;cases h
 |some j=>
  rw[e]at h;obtain⟨h1,h2,h3,h4⟩:=v6 e;exact⟨j,h1,h,h2,h3,h4⟩
theorem av{α:Type}{xs:List α}{j:Nat}{v:α}(h:xs[j]? = some v):atI xs (j:Int)=some v:=by
 have hj:j<xs.length:=(List.getElem?_eq_some_iff.mp h).1;have e:ixN xs.length (j:Int)=some j:=by
  unfold ixN;rw[if_pos (by lia),if_pos (by lia)];simp
 unfold atI;rw[e];exact h
theorem mW{α:Type}(xs:List α)(v:α):atI (xs++[v]) (-1)=some v:=by
 have hl:(xs++[v]).length=xs.length+1:=by simp
 have e:ixN (xs++[v]).length (-1)=some xs.length:=by
  unfold ixN;rw[hl,if_neg (by decide),if_pos (by lia)]
  congr 1
  lia
 unfold atI;rw[e];show(xs++[v])[xs.length]? = some v;simp
def qF(b:Expr):Prop:=∀o i,subscripted b false o i=operate [o,i] (getItem o i)
def IxR(X:Cx)(r:R2):Prop:=
 ∀(value slice:Expr) (pins:List (Addr × Obj)) (s:Shared) (σ:St) (H:Hp) (x y:V) (v u:Value) (Q:VK),Inv X pins σ H s->RelV x v->RelV y u->r x y H Q ->
  subscripted slice false v u=operate [v,u] (getItem v u)->wpAny (model X.prog X.w) X.A (subscriptTail value slice v u) (EP X pins σ Q) X.xe s
def MtR(X:Cx)(id:String)(r:V->List V->Hp->VK->Prop):Prop:=
 ∀(pins:List (Addr × Obj)) (s:Shared) (σ:St) (H:Hp) (x:V) (xs:List V) (v:Value) (us:List Value) (Q:VK),Inv X pins σ H s->RelV x v->Vals xs us->r x xs H Q ->
  wpAny (model X.prog X.w) X.A (call (.builtin id) (v::us)) (EP X pins σ Q) X.xe s
section
variable{X:Cx}{a b:Expr}{ta tb:TE}{pos:Pos}
theorem IxR.or{r r':R2}(h:IxR X r)(h':IxR X r'):IxR X (fun x y H Q=>r x y H Q\/r' x y H Q):=by
 intro value slice pins s σ H x y v u Q I rx ry q hs;rcases q with q|q
 ·exact h value slice pins s σ H x y v u Q I rx ry q hs
 ·exact h' value slice pins s σ H x y v u Q I rx ry q hs
theorem Hs{r:R2}(hr:IxR X r)(ha:PE X a ta)(hb:PE X b tb)(hs:qF b):PE X (.Subscript a b pos) (tOp r ta tb):=by
 intro pins s σ H Q I h;exact Subscript_ (FF ha hb I h fun v u s2 x y H2 I2 rx ry q=>hr a b pins s2 σ H2 x y v u Q I2 rx ry q (hs _ _))
def GC(K:W.Frag):R2:=fun x y H Q=>∃p xs i v,x = .ref p/\y = .int i/\SqL K H p xs/\atI xs i=some v/\Q v H
def Hd(K:W.Frag):R2:=fun x y H Q=>∃p xs i v,x = .ref p/\y = .int i/\SqT K H p xs/\atI xs i=some v/\Q v H
def GS:R2:=fun x y H Q=>∃z i c,x = .str z/\y = .int i/\z.length<=sizeLine/\atI z.cps.toList i=some c/\Q (.str ⟨#[c]⟩) H
theorem vS:IxR X (GC X.K):=by
 intro value slice pins s σ H x y v u Q I rx ry h hs;obtain⟨p,xs,i,z,rfl,rfl,hq,he,q⟩:=h;cases rx;obtain⟨t,rfl⟩:=ry;obtain⟨its,r,pl,hz⟩:=I.list hq;obtain⟨j,h1,h2,h3,h4,h5⟩:=qM he;obtain⟨w,ew,rw'⟩:=r.get h2;have hl:=r.length;have hn:=kj;have fin:EP X pins σ Q w s:=⟨z,H,I,rw',q⟩;by_cases h0:0<=i
 ·have hj:i.toNat=j:=by
   rw[seqIndex_of h0 h5]at h1;exact se h1
  exact item_listR pl.isList h0 (by lia) (by rw[hj];simpa using ew) fin hs
 ·have hj:(i+(its.toArray.size:Int)).toNat=j:=by
   rw[seqIndex_neg (by lia) h4]at h1;rw[yg,<- hl];exact se h1
  exact subscriptTail_builtinR (x:=w) pl.isList.typeIs slot_list_getitem.lookup
   (wpAny_getItem_list_neg (Q:=fun r s'=>r=w/\EP X pins σ Q r s') pl.isList (by lia) (by rw[yg] <;> lia) (by lia) (by rw[hj];simpa using ew) ⟨rfl,fin⟩) hs
theorem Ej:IxR X (Hd X.K):=by
 intro value slice pins s σ H x y v u Q I rx ry h hs;obtain⟨p,xs,i,z,rfl,rfl,hq,he,q⟩:=h;cases rx;obtain⟨t,rfl⟩:=ry;obtain⟨its,r,pl,hz⟩:=I.tuple hq;obtain⟨j,h1,h2,h3,h4,h5⟩:=qM he;obtain⟨w,ew,rw'⟩:=r.get h2;have hl:=r.length;have hn:=kj;have fin:EP X pins σ Q w s:=⟨z,H,I,rw',q⟩;exact subscriptTail_builtinR (x:=w) pl.typeIs slot_tuple_getitem.lookup
  (getItem_tuple (j:=j) (Q:=fun r s'=>r=w/\EP X pins σ Q r s') pl (by lia) (by lia) (by rw[yg,<- hl];exact h1) (by simpa using ew) ⟨rfl,fin⟩) hs
theorem E9:IxR X GS:=by
 intro value slice pins s σ H x y v u Q I rx ry h hs;obtain⟨z,i,c,rfl,rfl,hz,he,q⟩:=h;obtain⟨t,rfl⟩:=rx;obtain⟨t',rfl⟩:=ry;obtain⟨j,h1,h2,h3,h4,h5⟩:=qM he;have hl:z.cps.toList.length=z.length:=by simp[Yn]
 rw[hl]at h1 h4 h5;have hn:=kj;exact tail_any (XT s z t) slot_str_getitem.lookup (getItem_str (c:=c) (by
  have e1:decide (i < -(2 ^ 63:Int))=false:=decide_eq_false (by lia);have e2:decide (i ≥ 2 ^ 63)=false:=decide_eq_false (by lia);rw[e1,e2,Bool.or_false]) (by rw[h1];simpa using h2) ⟨.str ⟨#[c]⟩,H,I.tok _,⟨_,rfl⟩,q⟩) hs
def rIx(K:W.Frag):R2:=fun x y H Q=>GC K x y H Q\/Hd K x y H Q\/GS x y H Q
theorem F_:IxR X (rIx X.K):=vS.or (Ej.or E9)
theorem uR(its:List Value)(n j:Nat)(u:Value):Zb (·.setIfInBounds j u) { cls:=.type "list",data:=.seq its.toArray n } = { cls:=.type "list",data:=.seq (its.set j u).toArray n }:=by
 simp[Zb]
theorem Inv.lst{pins:List (Addr × Obj)}{σ:St}{H:Hp}{s:Shared}{p:Addr}{xs:List V}(I:Inv X pins σ H s)(h:H p=some (.lst xs)) :
 ∃(its:List Value) (n:Nat),Vals xs its/\s.heap.get? p=some { cls:=.type "list",data:=.seq its.toArray n }/\xs.length<=sizeLine:=by
 obtain⟨z,its,n,r,e⟩:=I.hok p _ h;exact⟨its,n,r,e,z⟩
theorem Inv.lstUpd{s:Shared}{xs ys:List V}{its its':List Value}(I:Inv X pins σ H s)(h:H p=some (.lst xs))
 (ho:s.heap.get? p=some { cls:=.type "list",data:=.seq its.toArray n }) (hf:f { cls:=.type "list",data:=.seq its.toArray n } = { cls:=.type "list",data:=.seq its'.toArray n' }) (r:Vals ys its') (hz:ys.length<=sizeLine) (t:Nat) :
 Inv X pins σ (upd H p (.lst ys)) { s with heap:=s.heap.update p f,toks:=t }:=by
 have e:(s.heap.update p f).get? p=some { cls:=.type "list",data:=.seq its'.toArray n' }:=by
  rw[Heap.get?_update_self f ho (by rw[hf] <;> rfl),hf]
 refine I.write (x:=p) (e:=p) (by rw[h];trivial) (.inl rfl) (fun b u hb q=>(Heap.get?_update_other _ _ (Ne.symm hb)).trans q) ⟨_,e⟩ ?_;exact⟨hz,its',n',r,e⟩
def DO:V->V->V->Hp->(Hp->Prop)->Prop:=fun o i v H Q=>∃p xs k j,o = .ref p/\i = .int k/\H p=some (.lst xs)/\ixN xs.length k=some j/\Q (upd H p (.lst (xs.set j v)))
theorem rC:GT X DO:=by
 intro pins s σ H o i v ov iv u Q I ro ri rv h;obtain⟨p,xs,k,j,rfl,rfl,hp,hj,q⟩:=h;cases ro;obtain⟨t,rfl⟩:=ri;obtain⟨its,n,r,ho,hz⟩:=I.lst hp;obtain⟨h1,h2,h3,h4⟩:=v6 hj;have hl:=r.length;have hn:=kj;have I':Inv X pins σ (upd H p (.lst (xs.set j v))) { s with heap:=s.heap.update p (Zb (·.setIfInBounds j u)) }:=
  I.lstUpd hp ho (uR its n j u) (r.set rv j) (by rw[List.length_set];exact hz) s.toks
 by_cases h0:0<=k
 ·have hk:k.toNat=j:=by
   rw[seqIndex_of h0 h4]at h1;exact se h1
  exact PySem.W.ki_setAt ho h0 (by lia) (by rw[yg,<- hl];exact h4) (by rw[hk];exact⟨_,I',q⟩)
 ·have hk:(k+(its.toArray.size:Int)).toNat=j:=by
   rw[seqIndex_neg (by lia) h3]at h1;rw[yg,<- hl];exact se h1
  exact PySem.W.ki_setBack ho (by lia) (by rw[yg,<- hl];exact h3) (by lia) (by rw[hk];exact⟨_,I',q⟩)
theorem jQ(lo hi:Option Int)(n:Nat):(YT lo hi none n).1=((HT.sIx n 0 lo:Nat):Int)/\(YT lo hi none n).2.1=((HT.sIx n n hi:Nat):Int)/\(YT lo hi none n).2.2=1:=by
 refine⟨?_,?_,rfl⟩
 ·cases lo with
  |none=>simp[YT,HT.sIx]
  |some i=>
   simp only[YT,HT.sIx,Option.getD_none,show(1:Int) > 0 by decide,if_true];by_cases h:i<0
   ·simp only[h,if_true] <;> lia
   ·simp only[h,if_false] <;> lia
 ·cases hi with
  |none=>simp[YT,HT.sIx]
  |some i=>
   simp only[YT,HT.sIx,Option.getD_none,show(1:Int) > 0 by decide,if_true];by_cases h:i<0
   ·simp only[h,if_true] <;> lia
   ·simp only[h,if_false] <;> lia
theorem n8(its:List Value)(lo hi:Option Int):slicePick its.toArray lo hi none=((its.drop (HT.sIx its.length 0 lo)).take (HT.sIx its.length its.length hi-HT.sIx its.length 0 lo)).toArray:=by
 obtain⟨h1,h2,h3⟩:=jQ lo hi its.toArray.size;unfold slicePick;rw[h1,h2,h3];simp only[sliceRange_one,pick_run,yg] <;> rfl
def FX(K:W.Frag):V->Option Int->Option Int->Hp->VK->Prop:=fun x lo hi H Q=>∃a xs,x = .ref a/\SqL K H a xs/\∀p,H p=none->Q (.ref p) (upd H p (.lst (h_ xs lo hi)))
theorem Ca:SlR X (FX X.K):=by
 intro pins s σ H x v vl vu lo hi sl Q I rx hs pl pu h;obtain⟨a,xs,rfl,hx,q⟩:=h;cases rx;obtain⟨its,r,ht,hz⟩:=I.list hx;have hlen:=r.length;refine⟨"list",_,slot_list_getitem.lookup,ht.isList.typeIs,?_⟩;refine wpAny_getItem_list_slice ht.isList hs pl pu .none (by simp) ?_ (by rw[yg] <;> lia);rw[n8,<- hlen];refine⟨.ref s.heap.objs.size,_,I.laid (t':=s.toks) (o:=.lst (h_ xs lo hi)) (fun b ob q=>Heap.get?_push_of_some _ q) (z4 _) ?_,rfl,q _ (I.hok.fresh (z4 _))⟩;exact⟨uM (lB xs lo hi) hz,_,0,(r.drop (HT.sIx xs.length 0 lo)).take (HT.sIx xs.length xs.length hi-HT.sIx xs.length 0 lo),Heap.get?_push_size _ rfl⟩
def dX:V->Bool
 | .non=>true
 | .bl _=>true
 | .int _=>true
 | .str _=>true
 |_=>false
def eqV:V->V->Bool
 | .non,.non=>true
 | .bl a,.bl b=>a==b
 | .bl a,.int b=>(if a then 1 else 0)==b
 | .int a,.bl b=>a==(if b then 1 else 0)
 | .int a,.int b=>a==b
 | .str a,.str b=>a==b
 |_,_=>false
theorem uz(ry:RelV y u)(rx:RelV x v)(fy:dX y=true)(fx:dX x=true):SeqAt.EqAt A s u v (eqV y x):=by
 cases y with
 |non=>
  cases ry;cases x with
  |non=>cases rx;exact SeqAt.EqAt.same _
  |bl b=>cases rx;exact SeqAt.EqAt.none_bool b
  |int b=>obtain⟨t,rfl⟩:=rx;exact SeqAt.EqAt.none_int b t
  |str b=>obtain⟨t,rfl⟩:=rx;exact SeqAt.EqAt.none_str b t
  |_=>exact absurd (show false=true from fx) xa
 |bl a=>
  cases ry;cases x with
  |non=>cases rx;exact SeqAt.EqAt.bool_none a
  |bl b=>cases rx;exact SeqAt.EqAt.bool_bool a b
  |int b=>obtain⟨t,rfl⟩:=rx;exact SeqAt.EqAt.bool_int a b t
  |str b=>obtain⟨t,rfl⟩:=rx;exact SeqAt.EqAt.bool_str a b t
  |_=>exact absurd (show false=true from fx) xa
 |int a=>
  obtain⟨t',rfl⟩:=ry;cases x with
  |non=>cases rx;exact SeqAt.EqAt.int_none a t'
  |bl b=>cases rx;exact SeqAt.EqAt.int_bool a t' b
  |int b=>obtain⟨t,rfl⟩:=rx;exact SeqAt.EqAt.int_int a t' b t
  |str b=>obtain⟨t,rfl⟩:=rx;exact SeqAt.EqAt.int_str a t' b t
  |_=>exact absurd (show false=true from fx) xa
 |str a=>
  obtain⟨t',rfl⟩:=ry;cases x with
  |non=>cases rx;exact SeqAt.EqAt.str_none a t'
  |bl b=>cases rx;exact SeqAt.EqAt.str_bool a t' b
  |int b=>obtain⟨t,rfl⟩:=rx;exact SeqAt.EqAt.str_int a t' b t
  |str b=>obtain⟨t,rfl⟩:=rx;exact SeqAt.EqAt.str_str a t' b t
  |_=>exact absurd (show false=true from fx) xa
 |_=>exact absurd (show false=true from fy) xa
def eqU(x:V)(u:Value):Bool:=match u with
 | .none=>eqV .non x
 | .bool b=>eqV (.bl b) x
 | .int i _=>eqV (.int i) x
 | .str z _=>eqV (.str z) x
 |_=>false
theorem As(r:RelV y u)(f:dX y=true):eqU x u=eqV y x:=by
 cases y with
 |non=>cases r;rfl
 |bl b=>cases r;rfl
 |int i=>obtain⟨t,rfl⟩:=r;rfl
 |str z=>obtain⟨t,rfl⟩:=r;rfl
 |_=>exact absurd (show false=true from f) xa
theorem js:∀ {xs:List V} {us:List Value},Vals xs us->xs.all dX=true->us.any (eqU x)=xs.any fun y=>eqV y x
 |_,_,.nil,_=>rfl
 |y::xs,u::us,.cons r t,f=>by
  rw[List.all_cons,Zi]at f;rw[Y9,Y9,As r f.1,js t f.2]
theorem iq(rx:RelV x v)(fx:dX x=true):∀ {xs:List V} {us:List Value},Vals xs us->xs.all dX=true->∀u∈us,SeqAt.EqAt A s u v (eqU x u)
 |_,_,.nil,_=>fun u hu=>by cases hu
 |y::xs,u::us,.cons r t,f=>fun u' hu=>by
  rw[List.all_cons,Zi]at f;rcases zG.mp hu with rfl|hu
  ·rw[As r f.1];exact uz r rx f.1 fx
  ·exact iq rx fx t f.2 u' hu
def inV(x:V)(xs:List V):Bool:=xs.any fun y=>eqV y x
def rIn(K:W.Frag)(neg:Bool):R2:=fun x y H Q=>∃p xs,y = .ref p/\(SqL K H p xs\/SqT K H p xs)/\dX x=true/\xs.all dX=true/\Q (.bl (if neg then !inV x xs else inV x xs)) H
theorem yq:OpR X (rB .In) (rIn X.K false):=by
 intro pins s σ H x y v u Q I rx ry h;obtain⟨p,xs,rfl,hq,fx,fs,q⟩:=h;cases ry;rcases hq with hq|hq
 ·obtain⟨its,r,pl,hz⟩:=I.list hq
  refine SeqAt.in_listAt (eqU x) pl.isList (fun w hw=>iq rx fx r fs w (by simpa using hw)) ⟨.bl _,H,I,rfl,?_⟩;rw[show its.toArray.any (eqU x)=its.any (eqU x) by simp,js r fs];exact q
 ·obtain⟨its,r,pl,hz⟩:=I.tuple hq
  refine SeqAt.in_tupleAt (eqU x) pl (fun w hw=>iq rx fx r fs w (by simpa using hw)) ⟨.bl _,H,I,rfl,?_⟩;rw[show its.toArray.any (eqU x)=its.any (eqU x) by simp,js r fs];exact q
theorem ql:OpR X (rB .NotIn) (rIn X.K true):=by
 intro pins s σ H x y v u Q I rx ry h;obtain⟨p,xs,rfl,hq,fx,fs,q⟩:=h;cases ry;rcases hq with hq|hq
 ·obtain⟨its,r,pl,hz⟩:=I.list hq
  refine SeqAt.notIn_listAt (eqU x) pl.isList (fun w hw=>iq rx fx r fs w (by simpa using hw)) ⟨.bl _,H,I,rfl,?_⟩;rw[show its.toArray.any (eqU x)=its.any (eqU x) by simp,js r fs];exact q
 ·obtain⟨its,r,pl,hz⟩:=I.tuple hq
  refine SeqAt.notIn_tupleAt (eqU x) pl (fun w hw=>iq rx fx r fs w (by simpa using hw)) ⟨.bl _,H,I,rfl,?_⟩;rw[show its.toArray.any (eqU x)=its.any (eqU x) by simp,js r fs];exact q
theorem CallR.or{f:Value}{r r':List V->Hp->VK->Prop}(h:CallR X f r)(h':CallR X f r'):CallR X f (fun xs H Q=>r xs H Q\/r' xs H Q):=by
 intro pins s σ H xs us Q I rs q;rcases q with q|q
 ·exact h pins s σ H xs us Q I rs q
 ·exact h' pins s σ H xs us Q I rs q
theorem pE:CallR X (.type "list") (fun xs H Q=>∃p ys,xs=[.ref p]/\(SqL X.K H p ys\/SqT X.K H p ys)/\∀l,H l=none->Q (.ref l) (upd H l (.lst ys))):=by
 intro pins s σ H xs us Q I r h;obtain⟨p,ys,rfl,hq,q⟩:=h;obtain⟨u,rfl,rx⟩:=eL r;cases rx;have fin:∀(its:List Value),Vals ys its->ys.length<=sizeLine->∀(h':Heap) (c':Nat),(∀b o',s.heap.get? b=some o'->h'.get? b=some o') ->
  h'.get? s.heap.objs.size=some { cls:=.type "list",dict:=none,data:=.seq its.toArray c',slots:=#[] }->EP X pins σ Q (.ref s.heap.objs.size) { s with heap:=h' }:=fun its r' hz h' c' kp e=>
  ⟨.ref s.heap.objs.size,_,I.laid (t':=s.toks) kp (z4 _) (show ObjOk X.prog X.w _ h' _ (.lst ys) from⟨hz,its,c',r',e⟩),rfl,q _ (I.hok.fresh (z4 _))⟩
 rcases hq with hq|hq
 ·obtain⟨its,r',pl,hz⟩:=I.list hq
  have hlen:=r'.length;obtain⟨o,ho,hc,n,hd⟩:=pl.isList;exact call_list_seq p (.inl rfl) ho hc hd (fun h' c' kp e=>fin its r' hz h' c' kp e) (by simp only[yg] <;> lia)
 ·obtain⟨its,r',pl,hz⟩:=I.tuple hq
  have hlen:=r'.length;obtain⟨o,ho,hc,n,hd⟩:=pl;exact call_list_seq p (.inr rfl) ho hc hd (fun h' c' kp e=>fin its r' hz h' c' kp e) (by simp only[yg] <;> lia)
theorem oh:CallR X (.type "tuple") (fun xs H Q=>∃p ys,xs=[.ref p]/\((SqL X.K H p ys/\∀l,H l=none->Q (.ref l) (upd H l (.tup ys)))\/(SqT X.K H p ys/\Q (.ref p) H))):=by
 intro pins s σ H xs us Q I r h;obtain⟨p,ys,rfl,h⟩:=h;obtain⟨u,rfl,rx⟩:=eL r;cases rx;rcases h with ⟨hq,q⟩|⟨hq,q⟩
 ·obtain⟨its,r',pl,hz⟩:=I.list hq
  have hlen:=r'.length;refine call_tuple_list pl.isList (fun h' kp=>?_) (by simp only[yg] <;> lia);have I1:Inv X pins σ H { s with heap:=h' }:=I.kept (t':=s.toks) kp;have I2:Inv X pins σ (upd H h'.objs.size (.tup ys)) { s with heap:=h'.push { cls:=.type "tuple",data:=.seq its.toArray } }:=
   I1.laid (t':=s.toks) (fun b o e=>Heap.get?_push_of_some _ e) (z4 _) (show ObjOk X.prog X.w _ _ _ (.tup ys) from⟨hz,its,r',IsTup.new _ _⟩)
  exact⟨.ref h'.objs.size,_,I2,rfl,q _ (I1.hok.fresh (z4 _))⟩
 ·obtain⟨its,r',pl,hz⟩:=I.tuple hq
  exact call_tuple_same pl ⟨.ref p,H,I,rfl,q⟩
def tyV(K:W.Frag)(T:String)(x:V)(H:Hp):Prop:=match x with
 | .str _=>T = "str"
 | .int _=>T = "int"
 | .ref p=>(T = "list" /\ ∃xs,SqL K H p xs)\/(T = "tuple" /\ ∃o,K.lookup p=some o/\o.cls = .type "tuple" /\ o.dict=none) \/
  (T = "dict" /\ ((∃kvs,H p=some (.dK kvs))\/∃kvs,H p=some (.dT kvs)))\/(T = "set" /\ ∃S n,H p=some (.set S n))
 |_=>False
theorem Fh{pins:List (Addr × Obj)}{σ:St}{H:Hp}{s:Shared}{T:String}{x:V}{v:Value}(I:Inv X pins σ H s)(r:RelV x v)(ty:tyV X.K T x H) :
 s.TypeIs v T/\∀a,v = .ref a->∃ob,s.heap.get? a=some ob/\ob.dict=none:=by
 cases x with
 |str z=>
  obtain⟨t,rfl⟩:=r;cases (show T = "str" from ty);exact⟨XT s z t,fun _ e=>nomatch e⟩
 |int i=>
  obtain⟨t,rfl⟩:=r;cases (show T = "int" from ty);exact⟨typeIs_int s i t,fun _ e=>nomatch e⟩
 |ref p=>
  cases r;rcases ty with ⟨rfl,xs,hq⟩|⟨rfl,o,hk,hc,hd⟩|⟨rfl,hk⟩|⟨rfl,S,n,hk⟩
  ·obtain⟨its,_,pl,_⟩:=I.list hq
   refine⟨pl.isList.typeIs,fun a e=>?_⟩;cases e;obtain⟨o,n,e,c,hd,_⟩:=pl;exact⟨o,e,hd⟩
  ·refine⟨⟨o,I.kIn p o hk,hc⟩,fun a e=>?_⟩
   cases e;exact⟨o,I.kIn _ o hk,hd⟩
  ·have z:∃o,s.heap.get? p=some o/\o.ExactDict:=by
    rcases hk with ⟨kvs,hk⟩|⟨kvs,hk⟩
    ·obtain⟨_,_,_,_,o,_,_,e,ex,_⟩:=I.hok p _ hk
     exact⟨o,e,ex⟩
    ·obtain⟨_,_,_,_,o,_,_,e,ex,_⟩:=I.hok p _ hk
     exact⟨o,e,ex⟩
   obtain⟨o,e,ex⟩:=z;refine⟨⟨o,e,ex.1⟩,fun a e2=>?_⟩;cases e2;exact⟨o,e,ex.2.1⟩
  ·obtain⟨o,_,_,_,e,ex,_⟩:=I.hok p _ hk
   refine⟨⟨o,e,ex.1⟩,fun a e2=>?_⟩;cases e2;exact⟨o,e,ex.2.1⟩
 |_=>exact Z3 ty
def tBM(K:W.Frag)(T:String)(r:V->List V->Hp->VK->Prop)(to:TE)(t:TA):TE:=fun σ H Q=>to σ H fun x H1=>tyV K T x H1/\t σ H1 fun xs H2=>r x xs H2 Q
variable{o e:Expr}{es:List Expr}{to:TE}{t:TA}{name:Str}{apos cpos:Pos}{T id:String}{r:V->List V->Hp->VK->Prop}
theorem Ha(pa:PlainAttrs T)(slot:Slot T name id)(hty:typeOf (.builtin id)=pure (.type "method_descriptor"))(hm:MtR X id r)(ho:PE X o to)(ha:PA X (e::es) t)
 (hbase:Xa o name X.env (eval o X.env)=eval o X.env:=by rfl)
 (hfew:((backTo cpos (starEach (e::es) X.env)).all (fun x=>!x.1)&&(backToKw cpos (Xq [] X.env)).all (fun x=>x.1.isSome)
  && decide ((e::es).length+([]:List Keyword).length+(if ([]:List Keyword).isEmpty then 0 else 1)<30))=true:=by rfl)
 (hline:(apos.endLine==cpos.line)=true:=by rfl) (hs:starEach (e::es) X.env=(false,eval e X.env)::starEach es X.env:=by rfl) (hplain:(backTo cpos (starEach es X.env)).any (·.1)=false:=by rfl) :
 PE X (.Call (.Attribute o name apos) (e::es) [] cpos) (tBM X.K T r to t):=by
 intro pins s σ H Q I h;refine wpAny_Call_method_late hbase hfew hline rfl (thn (ho pins s σ H _ I h) fun v s1 ⟨x,H1,I1,r1,ty,q1⟩=>?_);obtain⟨h1,h2⟩:=Fh I1 r1 ty;refine⟨T,id,pa,slot,hty,h1,h2,?_⟩;have hA:=ha cpos pins s1 σ H1 _ I1 q1;rw[hs]at hA |-
 refine Calls.callWith_builtin (by show(false || (backTo cpos (starEach es X.env)).any (·.1))=false;rw[hplain] <;> rfl) (ZB ?_);exact thn hA fun us s2 ⟨vs,H2,I2,r2,q2⟩=>hm pins s2 σ H2 x vs v us Q I2 r1 r2 q2
end
def MtM(X:Cx)(id:String)(r:V->List V->Hp->VK->Prop):Prop:=
 ∀(pins:List (Addr × Obj)) (s:Shared) (σ:St) (H:Hp) (x:V) (xs:List V) (v:Value) (us:List Value) (Q:VK),Inv X pins σ H s->RelV x v->Vals xs us->r x xs H Q ->
  wpAny (model X.prog X.w) X.A (call (.builtin id) (v::us)) (EP X pins σ Q) X.xe s
theorem Vals.one:∀ {x:V} {us:List Value},Vals [x] us->∃u,us=[u]/\RelV x u
 |_,_,.cons r .nil=>⟨_,rfl,r⟩
theorem Vals.dropLast{xs:List V}{us:List Value}(h:Vals xs us):Vals xs.dropLast us.dropLast:=by
 induction h with
 |nil=>exact .nil
 |cons r t ih=>
  cases t with
  |nil=>exact .nil
  |cons q t'=>exact .cons r ih
section
variable{X:Cx}{pins:List (Addr × Obj)}{σ:St}{H:Hp}{s:Shared}{l b:Addr}{xs ys zs:List V}
theorem Inv.lset{its its':List Value}{f:Array Value->Array Value}(I:Inv X pins σ H s)(hH:H l=some (.lst xs))
 (e:s.heap.get? l=some { cls:=.type "list",data:=.seq its.toArray n }) (hf:f its.toArray=its'.toArray) (hv:Vals ys its') (hz:ys.length<=sizeLine) :
 Inv X pins σ (upd H l (.lst ys)) { s with heap:=s.heap.update l (Zb f),toks:=t' }:=by
 have q:=PySem.IsL.update e f;rw[hf]at q;refine I.write (x:=l) (e:=l) (by rw[hH];exact trivial) (.inl rfl) (fun b' u hb hu=>(Heap.get?_update_other s.heap (Zb f) (Ne.symm hb)).trans hu) ⟨_,q⟩ ?_;exact⟨hz,its',_,hv,q⟩
theorem Inv.lnew{its:List Value}(I:Inv X pins σ H s)(hv:Vals ys its)(hz:ys.length<=sizeLine) :
 Inv X pins σ (upd H s.heap.objs.size (.lst ys)) { s with heap:=s.heap.push { cls:=.type "list",data:=.seq its.toArray },toks:=t' }:=
 I.laid (fun _ _ q=>Heap.get?_push_of_some _ q) (z4 _) ⟨hz,its,0,hv,Heap.get?_push_size _ rfl⟩
theorem Inv.fresh(I:Inv X pins σ H s):H s.heap.objs.size=none:=I.hok.fresh (z4 _)
theorem Inv.lstM(I:Inv X pins σ H s)(hH:H l=some (.lst xs)):xs.length<=sizeLine/\∃(its:List Value) (n:Nat),Vals xs its/\xs.length=its.length/\s.heap.get? l=some { cls:=.type "list",data:=.seq its.toArray n }:=by
 obtain⟨z,its,n,r,e⟩:=I.hok l _ hH;exact⟨z,its,n,r,r.length,e⟩
end
section
variable{X:Cx}
def v4:V->List V->Hp->VK->Prop:=fun x vs H Q=>∃l xs y,x = .ref l/\vs=[y]/\H l=some (.lst xs)/\xs.length<sizeLine/\Q .non (upd H l (.lst (xs++[y])))
theorem d8:MtM X "list.append" v4:=by
 intro pins s σ H x vs v us Q I rx rv h;obtain⟨l,xs,y,rfl,rfl,hH,hz,q⟩:=h;cases rx;obtain⟨u,rfl,ru⟩:=rv.one;obtain⟨z,its,n,r,hl,e⟩:=I.lstM hH;refine call_meets F.slot_list_append ⟨_,e,rfl⟩ F.entry_list_append (F.args_list_append_2 _ _) (PySem.list_append l its.toArray n u (by rw[yg];lia)) ⟨e,?_⟩;refine⟨.non,_,I.lset (its':=its++[u]) hH e (by simp) (r.append (.cons ru .nil)) ?_,rfl,q⟩;rw[yw,pM];lia
end
section
variable{prog:Program}{w:World}{A:Around}{E:Value->Shared->Prop}{s:Shared}
end
section
variable{X:Cx}
end
end L2
namespace Att
open PySem PySem.W PySem.Calls PyProof.Rows
theorem lR:∀(ns:List Int) (vs:List Value),WellAll P h vs (ns.map WData.int)->IntsAre vs ns:=by
 intro ns
 induction ns with
 |nil=>
  intro vs w;rw[YO]at w;cases w;exact .nil
 |cons n ns ih=>
  intro vs w;rw[xx]at w;cases w with
  |cons a b=>
   cases a;exact .cons _ _ (ih _ b)
theorem yE{l:OpenLaw}(hn:l.most=some n){h:Heap}
 (hpre:l.row.toRowW.claim.pre args=true) (hwl:WellAll P h vals args) :
 ∃a vs ns,vals=[yy a]/\args=[WData.list (ns.map WData.int)]/\h.get? a=some { cls:=.type "list",data:=.seq vs.toArray }/\IntsAre vs ns/\ns.length<=n:=by
 have hsh:WShape.hasAll [] args [.list .int]=true:=(pre_splitW hpre).1;have hc:l.pre.holds [] { args:=args }=true:=(pre_splitW hpre).2;obtain⟨d,r,rfl,h1,h2⟩:=hasAllW_cons hsh;obtain rfl:=hasAllW_nil h2;obtain⟨xs,rfl,h3⟩:=hasW_list h1;obtain⟨ns,rfl⟩:=items_int h3;have hlen:ns.length<=n:=by
  unfold OpenLaw.pre at hc;have h4:(WTm.not (.lt (.lit (.int (n:Int))) (.len (.arg 0)))).holds [] { args:=[.list (ns.map .int)] }=true:=by
   have h4:=(holds_andW hc).1;rw[hn]at h4;exact h4
  have h5:=condW_of h4 (w_not (w_lt w_lit (w_len_list (w_arg rfl))));rw[zK]at h5;refine Nat.le_of_not_lt fun q=>?_;have q':(n:Int)<((ns.length:Nat):Int):=by lia
  first
   |(rw[decide_eq_true q']at h5;exact absurd h5 (by decide))
   |(simp at h5;lia)
 cases hwl with
 |cons w1 w2=>
  cases w2;cases w1 with
  |list ho hall=>exact⟨_,_,ns,rfl,rfl,ho,lR ns _ hall,hlen⟩
theorem w8(l:OpenLaw)(args:List WData):l.row.toRowW.claim.post args (.bool true) args=true:=
 postW_of (r:=l.row.toRowW) (X:=(true==true))
  (show WShape.has [] (.bool true) .bool=true by first|rfl|decide|simp[WShape.has,WShape.arms,WShape.armsAll])
  (show(WTm.eq .res (.lit (.bool true))).value [] { args:=args,res:=some (.bool true),after:=args }=some (.bool (true==true)) from w_eq_bool (w_res rfl) w_lit) rfl
theorem attach_call{l:OpenLaw}{XP:(Str->Option Value)->Heap->Prop}{d:DefRec}
 (hn:l.most=some n) (hdf:d.params.defaults=[])
 (call:∀(w:World) (s₀ s₁:Shared) (mg mb:Str->Option Value) (fa:Addr) (o:Obj) (pm cd doc:Value) (a:Addr) (vs:List Value) (ns:List Int),
  Ground q loose [] XP w s₀ mg mb s₁.heap->YP w s₁.heap ->
  s₁.heap.get? fa=some o->o.data = .func (docDef d.name d.params d.body d.scope pm cd doc)->s₁.heap.CodeRec cd d.name->mg d.name=some (.ref fa) ->
  s₁.heap.get? a=some { cls:=.type "list",data:=.seq vs.toArray }->IntsAre vs ns->ns.length<=n->s₁.gens = #[] ->
  codeAny (model l.prog w) callerA (.call (.ref fa) ⟨[.ref a],[]⟩) (fun r s'=>r = .ok (.ret (.bool true))/\OldK s₁.heap s'.heap/\s'.os=s₁.os/\AllBare s'.gens) s₁) :
 WalkO q loose XP YP l.row.toRowW d [] (fun f vs=>PySem.call f vs):=by
 intro w s₀ s₁ mg mb G Y fa o pm cd doc dV kV ho hd hcd hD hmg hg args vals as hpre hlay hrd hwl hlo;obtain rfl:dV = .none:=Dflts.none hD hdf;obtain rfl:kV = .none:=Dflts.noKw hD;obtain⟨a,vs,ns,rfl,rfl,hobj,hints,hlen⟩:=yE hn hpre hwl;refine enter_call (YR (call w s₀ s₁ mg mb fa o pm cd doc a vs ns G Y ho (fd_plain hd) hcd hmg hobj hints hlen hg) fun r s' hq=>?_);obtain⟨rfl,h2,h3,h4⟩:=hq;exact⟨.inl ⟨.bool true,.bool true,[],rfl,fun _=>rfl,.bool true,w8 l _,fun _=>⟨List.Pairwise.nil,fun _ hm=>(nomatch hm)⟩⟩,h2,h3,h4⟩
section
variable{prog:Program}{w:World}{A:Around}{E:Value->Shared->Prop}{s:Shared}{K:Frag}
end
end Att
namespace L2
open PySem PySem.Spec PyProof.Rows
theorem oX:∀ {vs:List Value} {ns:List Int},IntsAre vs ns->Vals (ns.map V.int) vs
 |_,_,.nil=>.nil
 |_,_,.cons n t h=>.cons ⟨t,rfl⟩ (oX h)
def xR(H:Hp):Prop:=∀b,H b=none\/∃o xs,H b=some (.frz o (.lst xs))
theorem yT{K:W.Frag}{s₁:Shared}{vs:List Value}{ns:List Int}
 (KX:K.In s₁.heap) (hns:s₁.heap.Ns ZL mg) (hb:s₁.heap.Ns builtinsNs mb) (hbb:∀x:Str,x ≠ "__name__" -> mb x=qK x) (hlim:s₁.heap.NoLimit) (hg:s₁.gens = #[])
 (ha:s₁.heap.get? a=some { cls:=.type "list",data:=.seq vs.toArray }) (hi:IntsAre vs ns) (hl:ns.length<=sizeLine) (hr:Room k callerA)
 (F:∀base:Heap,K.In base->base.Ns ZL mg->hU P w K mg base CX k fa fd [x] sp) (hbind:∀(s:Shared) (u:Value),BindsTo s fd ⟨[u],[]⟩ [(x,u)])
 (hsp:∀H:Hp,xR H->SqL K H a (ns.map V.int)->sp [.ref a] H (fun v _=>v = .bl true) fun _ _ _=>False)
 (hCX:∀H e s',CX [] H s₁ (fun _ _ _=>False) e s'->False) :
 codeAny (model P w) callerA (.call (.ref fa) ⟨[.ref a],[]⟩) (fun r s'=>r = .ok (.ret (.bool true))/\OldK s₁.heap s'.heap/\s'.os=s₁.os/\AllBare s'.gens) s₁:=by
 have rv:=oX hi;have lenV:=hi.length;have core:∀H:Hp,xR H->SqL K H a (ns.map V.int)->HOk P w H s₁.heap->(∀b,H b≠none->b=a)->(H a≠none->K.lookup a=none) ->
  codeAny (model P w) callerA (.call (.ref fa) ⟨[.ref a],[]⟩) (fun r s'=>r = .ok (.ret (.bool true))/\OldK s₁.heap s'.heap/\s'.os=s₁.os/\AllBare s'.gens) s₁:=by
  intro H hO hS hok hA hK;have base_of:∀ {b:Addr} {o:Obj},s₁.heap.get? b=some o->H b=none->(pU s₁.heap H).get? b=some o:=fun e n=>zg e n;have noA:∀ {b:Addr} {o:Obj} {es:Array Xj} {ep:Nat},s₁.heap.get? b=some o->o.data = .dict es ep->H b=none:=fun {b o es ep} e d=>by
   cases q:H b with
   |none=>rfl
   |some u=>
    have e':b=a:=hA b (by rw[q];simp);subst e';rw[ha]at e;cases e;have d':Data.seq vs.toArray _=XM es ep:=d;cases d'
  have nsK:∀ {b:Addr} {m:Str->Option Value},s₁.heap.Ns b m->(pU s₁.heap H).Ns b m:=fun {b m} ⟨o,es,ep,e,d,r⟩=>⟨o,es,ep,base_of e (noA e d),d,r⟩;have hKb:K.In (pU s₁.heap H):=fun b o e=>base_of (KX b o e) (by
   cases q:H b with
   |none=>rfl
   |some u=>
    have e':b=a:=hA b (by rw[q];simp);subst e';rw[hK (by rw[q];simp)]at e;cases e)
  have hM:Mod K mg (pU s₁.heap H):=⟨hKb,nsK hns,⟨mb,nsK hb,hbb⟩,let ⟨mc,h1,h2⟩:=hlim;⟨mc,nsK h1,h2⟩⟩;have e0:Env0 P w K mg (pU s₁.heap H) callerA [] s₁ H:=⟨rfl,hM,fun b o e=>Dm e,Nat.le_of_eq (yJ _ _),trivial,fun b hb=>absurd (show b∈([]:List Addr) from hb) (by simp),hok,.of_eq hg⟩;refine YR ((F _ hKb (nsK hns)).run callerA [] s₁ H ⟨[.ref a],[]⟩ [.ref a] [.ref a] _ _ hr e0 (hbind s₁ (.ref a)) (.cons rfl .nil) (hsp H hO hS)) fun r s' h=>?_;cases r with
  |error e=>exact(hCX H e s' h).elim
  |ok fl=>
   cases fl with
   |next=>exact Z3 h
   |brk=>exact Z3 h
   |cont=>exact Z3 h
   |ret u=>
    obtain⟨v,H',os,bare,un,hok',r',q⟩:=h;have q':v = .bl true:=q;subst q';obtain rfl:u=Value.bool true:=r';refine⟨rfl,OldK.of_keep fun b o e=>?_,os,bare⟩;cases q:H b with
    |none=>exact un.keep b o e q (by intro z;exact absurd (show b∈([]:List Addr) from z) (by simp)) (by simp)
    |some u=>
     rcases hO b with z|⟨ob,xs,z⟩
     ·rw[q]at z;cases z
     ·have z2:=un.frzs b ob _ z
      obtain⟨e1,_⟩:=hok b _ z;obtain⟨e2,_⟩:=hok' b _ z2;rw[e]at e1;cases e1;exact e2
 cases hk:K.lookup a with
 |some o=>
  have e:=KX a o hk;rw[ha]at e;cases e;refine core (fun _=>none) (fun _=>.inl rfl) (.inr ⟨_,vs.toArray,_,hk,rfl,rfl,rfl,by rw[yg,lenV];exact hl,by simpa using rv⟩) (fun b u z=>by have z':(none:Option HO)=some u:=z;cases z') (fun b z=>absurd rfl z) fun z=>absurd rfl z
 |none=>
  refine core (fun b=>if b=a then some (.frz { cls:=.type "list",data:=.seq vs.toArray } (.lst (ns.map V.int))) else none) (fun b=>?_) (.inl (.inr ⟨{ cls:=.type "list",data:=.seq vs.toArray },if_pos rfl⟩)) (fun b u z=>?_) (fun b z=>?_) fun _=>hk
  ·by_cases hb:b=a
   ·exact .inr ⟨_,_,if_pos hb⟩
   ·exact .inl (if_neg hb)
  ·by_cases hb:b=a
   ·have z':=(if_pos hb).symm.trans z
    cases z';subst hb;exact⟨ha,by rw[zK];exact hl,vs,_,rv,ha⟩
   ·have z':=(if_neg hb).symm.trans z
    cases z'
  ·by_cases hb:b=a
   ·exact hb
   ·exact absurd (if_neg hb) z
theorem B7{l:PySem.W.OpenLaw}{n k:Nat}{q:Program}{loose:List Str}{XP:(Str->Option Value)->Heap->Prop}{YP:World->Heap->Prop}{d:DefRec}{K:Params->W.Frag}{CX:World->CXT}{sp:World->Sp}{x:Str}
 (hn:l.most=some n) (hn2:n<=sizeLine) (hdf:d.params.defaults=[]) (hr:Room k callerA)
 (hY:∀(w:World) (h:Heap),YP w h->(K w.params).In h)
 (F:∀(w:World) (mg:Str->Option Value) (fa:Addr) (h:Heap),(K w.params).In h->h.Ns ZL mg->mg d.name=some (.ref fa) ->
  ∃fd:FuncData,(∀(s:Shared) (u:Value),BindsTo s fd ⟨[u],[]⟩ [(x,u)]) /\
   ∀base:Heap,(K w.params).In base->base.Ns ZL mg->hU l.prog w (K w.params) mg base (CX w) k fa fd [x] (sp w))
 (hsp:∀(w:World) (H:Hp) (a:Addr) (ns:List Int),ns.length<=n->xR H->SqL (K w.params) H a (ns.map V.int)->sp w [.ref a] H (fun v _=>v = .bl true) fun _ _ _=>False)
 (hCX:∀(w:World) (H:Hp) (s:Shared) (e:Value) (s':Shared),CX w [] H s (fun _ _ _=>False) e s'->False) :
 PySem.W.WalkO q loose XP YP l.row.toRowW d [] (fun f vs=>PySem.call f vs):=by
 refine Att.attach_call hn hdf fun w s₀ s₁ mg mb fa o pm cd doc a vs ns G Y ho hd hcd hmg hobj hints hlen hg=>?_;have KX:=hY w _ Y;obtain⟨fd,hb,hF⟩:=F w mg fa _ KX G.T.g hmg;exact yT KX G.T.g G.T.b G.T.builtins G.T.nolimit hg hobj hints (uM hlen hn2) hr hF hb (fun H hO hS=>hsp w H a ns hlen hO hS) fun H e s'=>hCX w H s₁ e s'
abbrev CX0:CXT:=fun _ _ _ _ _ _=>False
structure Fun(K:W.Frag)(x qual:Str)(st:Stmt)(f:Addr)(fd:FuncData):Prop where
 ex:∃(oc:Value) (od:Option Addr) (kV doc pm:Value) (an:Option Addr) (cdv ct:Value) (osl:Array (Option Value)),
  fd=YQ x qual (aB st) (aq st) (ae st) .none kV doc pm an cdv ct/\K.lookup f=some ⟨oc,od,.func fd,osl⟩/\PySem.W.codeIn K cdv qual=true
 kp:Yu K (.ref f)=true
section
variable{P:Program}{w:World}{K:W.Frag}{mg:Str->Option Value}{base:Heap}
theorem Fun.binds{x qual:Str}{st:Stmt}{f:Addr}{fd:FuncData}{ps:List Str}(F:Fun K x qual st f fd)
 (h:∀(kV doc pm:Value) (an:Option Addr) (cdv ct:Value) (us:List Value),us.length=ps.length->bindArgs (YQ x qual (aB st) (aq st) (ae st) .none kV doc pm an cdv ct) ⟨us,[]⟩=pure (ps.zip us)):Binds K fd ps []:=by
 obtain⟨oc,od,kV,doc,pm,an,cdv,ct,osl,rfl,lk,hcd⟩:=F.ex;exact .all (h kV doc pm an cdv ct)
theorem vJ{x qual:Str}{st:Stmt}{f:Addr}{oc:Value}{od an:Option Addr}{osl:Array (Option Value)}{kV doc pm cdv ct:Value}(l:K.lookup f=some ⟨oc,od,.func (YQ x qual (aB st) (aq st) (ae st) .none kV doc pm an cdv ct),osl⟩)
 (c:PySem.W.codeIn K cdv qual=true) (k:Yu K (.ref f)=true):Fun K x qual st f (YQ x qual (aB st) (aq st) (ae st) .none kV doc pm an cdv ct):=⟨⟨oc,od,kV,doc,pm,an,cdv,ct,osl,rfl,l,c⟩,k⟩
end
section
variable{X:Cx}
end
def Same(H H':Hp):Prop:=∀b o,H b=some o->H' b=some o
theorem Same.refl(H:Hp):Same H H:=fun _ _ h=>h
theorem Same.trans(a:Same H H1)(b:Same H1 H2):Same H H2:=fun c o h=>b c o (a c o h)
theorem Same.free{H H':Hp}(e:Same H H'){l:Addr}(h:H' l=Option.none):H l=Option.none:=by
 cases q:H l with
 |none=>rfl
 |some o=>
  rw[e l o q]at h;cases h
def ig:HO->Bool
 | .dT _=>false
 | .frz _ u=>ig u
 |_=>true
def NoT(H:Hp):Prop:=∀a o,H a=some o->ig o=true
def jo:HO->Bool
 | .lst _=>true
 | .tup _=>true
 | .dK _=>true
 | .rng _ _=>true
 |_=>false
structure Gc(H G H':Hp):Prop where
 a:Same H G
 b:Same G H'
 c:∀p o,G p=some o->H p=some o\/jo o=true
section
variable{P:Program}{w:World}{H G H':Hp}{h h':Heap}{a:Addr}{o:HO}
theorem ObjOk.gc(n:ig o=true)(x0:ObjOk P w H h a o)(x:ObjOk P w H' h' a o):ObjOk P w H h' a o:=by
 induction o with
 |ins C dx fs=>exact⟨x0.1,x.2⟩
 |dT kvs=>cases n
 |frz ob u ih=>exact⟨x.1,ih n x0.2 x.2⟩
 |_=>exact x
theorem ObjOk.plain(n:jo o=true)(x:ObjOk P w H' h' a o):ObjOk P w H h' a o:=by
 cases o with
 |lst xs=>exact x
 |tup xs=>exact x
 |dK kvs=>exact x
 |rng lo hi=>exact x
 |_=>cases n
theorem HOk.gc(n:NoT H)(x0:HOk P w H h)(x:HOk P w H' h')(g:Gc H G H'):HOk P w G h':=fun a o e=>by
 rcases g.c a o e with q|q
 ·refine(((x0 a o q).gc (n a o q) (x a o (g.b a o e)))).stay (fun _ _ _ z=>z) (fun b z=>g.a _ _ z) fun b xs z=>g.a _ _ z
 ·exact(x a o (g.b a o e)).plain q
theorem Un.gc(u:Un fs ex H H' h h')(g:Gc H G H'):Un fs ex H G h h':=
 ⟨u.keep,u.slot,fun b o q n hx=>g.b.free (u.free b o q n hx),u.there,fun b xs q=>g.a _ _ q,fun b o x q=>g.a _ _ q,fun b ps q=>⟨#[],by rw[Array.append_empty];exact g.a _ _ q⟩⟩
theorem Gc.refl:Gc H H H:=⟨Same.refl H,Same.refl H,fun _ _ e=>.inl e⟩
theorem Gc.none(s:Same H H'):Gc H H H':=⟨Same.refl H,s,fun _ _ e=>.inl e⟩
theorem au(o:HO)(hp:H p=Option.none):Same H (upd H p o):=fun b u e=>by rw[ah (aC e hp)];exact e
theorem Gc.one(s:Same H H')(hp:H p=Option.none)(e:H' p=some o)(n:jo o=true):Gc H (upd H p o) H':=
 ⟨au o hp,fun b u z=>by
  by_cases hb:b=p
  ·subst hb;rw[ad]at z;cases z;exact e
  ·rw[ah hb]at z;exact s b u z,fun b u z=>by
  by_cases hb:b=p
  ·subst hb;rw[ad]at z;cases z;exact .inr n
  ·rw[ah hb]at z;exact .inl z⟩
theorem NoT.upd(n:NoT H)(d:ig o=true):NoT (upd H p o):=fun b u z=>by
 by_cases hb:b=p
 ·subst hb;rw[ad]at z;cases z;exact d
 ·rw[ah hb]at z;exact n b u z
end
theorem Inv.gc(n:NoT H)(I:Inv X pins σ H s)(J:Inv X pins' σ' H' s')(g:Gc H G H'):Inv X pins' σ' G s':=
 ⟨J.ok,J.os,J.bare,⟨J.base.keep,J.base.slot,fun b o q z hx=>g.b.free (J.base.free b o q z hx),J.base.there,fun b xs q=>g.a _ _ (I.base.tups b xs q),fun b o x q=>g.a _ _ (I.base.frzs b o x q),fun b ps q=>let ⟨m,e⟩:=I.base.tbls b ps q;⟨m,g.a _ _ e⟩⟩,
  J.loc,J.cell,g.b.free J.free,fun x c e=>g.b.free (J.freeC x c e),fun p hp=>let ⟨e,z,r⟩:=J.pin p hp;⟨e,g.b.free z,r⟩,HOk.gc n I.hok J.hok g,J.len⟩
def tGc(t:TE):TE:=fun σ H Q=>NoT H/\t σ H fun v H'=>∃G,Gc H G H'/\Q v G
theorem DV(h:PE X e t):PE X e (tGc t):=fun pins s σ H Q I ⟨n,q⟩=>
 thn (h pins s σ H _ I q) fun u s1 ⟨v,H1,I1,r,G,g,q1⟩=>⟨v,G,I.gc n I1 g,r,q1⟩
def HR(t:TT):TT:=fun σ H Q=>NoT H/\t σ H fun v H'=>∃G,Gc H G H'/\Q v G
theorem jH(h:PT X e t):PT X e (HR t):=fun pins s σ H Q I ⟨n,q⟩=>
 thn (h pins s σ H _ I q) fun u s1 ⟨H1,I1,G,g,q1⟩=>⟨G,I.gc n I1 g,q1⟩
def K2{α:Type}:Sem α->Prop
 | .rule _ k=>K2 (k ())
 | .at _ k=>K2 (k ())
 | .load _ _ k=>∀o,K2 (k o)
 | .update _ _ f k=>(∀(o:Obj) vs,o.data = .fields vs->∃ws,(f o).data = .fields ws/\ws[2]? = vs[2]?)/\K2 (k ())
 | .loadIfAlive _ k=>∀o,K2 (k o)
 | .point _ k=>K2 (k ())
 | .alloc _ k=>∀a,K2 (k a)
 | .fresh k=>∀n,K2 (k n)
 | .ask k=>∀x,K2 (k x)
 | .choose _ _ k=>∀n,K2 (k n)
 | .os _ _ k=>∀x,K2 (k x)
 | .call ..=>False
 | .handled _ k=>∀x,K2 (k x)
 | .genState _ k=>∀x,K2 (k x)
 | .newGen _ k=>∀n,K2 (k n)
 | .resume ..=>False
 | .stack k=>∀x,K2 (k x)
 | .thread k=>∀n,K2 (k n)
 |_=>True
def F2(h:Heap)(e:Addr):Prop:=∃o vs,h.get? e=some o/\o.data = .fields vs/\vs[2]? = some .none
theorem K2.bind{α β:Type}{t:Sem α}{f:α->Sem β}(h:K2 t)(g:∀a,K2 (f a)):K2 (t >>= f):=by
 show K2 (t.bind f)
 induction t with
 |pure a=>exact g a
 |rule _ k ih=>exact ih () h
 | «at» _ k ih=>exact ih () h
 |load _ _ k ih=>exact fun o=>ih o (h o)
 |update _ _ _ k ih=>exact⟨h.1,ih () h.2⟩
 |loadIfAlive _ k ih=>exact fun o=>ih o (h o)
 |point _ k ih=>exact ih () h
 |alloc _ k ih=>exact fun o=>ih o (h o)
 |fresh k ih=>exact fun o=>ih o (h o)
 |ask k ih=>exact fun o=>ih o (h o)
 |choose _ _ k ih=>exact fun o=>ih o (h o)
 |os _ _ k ih=>exact fun o=>ih o (h o)
 |call=>exact h.elim
 |handled _ k ih=>exact fun o=>ih o (h o)
 |genState _ k ih=>exact fun o=>ih o (h o)
 |newGen _ k ih=>exact fun o=>ih o (h o)
 |resume=>exact h.elim
 |stack k ih=>exact fun o=>ih o (h o)
 |thread k ih=>exact fun o=>ih o (h o)
 |_=>trivial
theorem F2.push{h:Heap}{e:Addr}(x:F2 h e)(o:Obj):F2 (h.push o) e:=by
 obtain⟨oe,vs,e1,e2⟩:=x;exact⟨oe,vs,Heap.get?_push_of_some _ e1,e2⟩
theorem F2.update{h:Heap}{e:Addr}(x:F2 h e)(a:Addr){f:Obj->Obj}(hf:∀(o:Obj) vs,o.data = .fields vs->∃ws,(f o).data = .fields ws/\ws[2]? = vs[2]?):F2 (h.update a f) e:=by
 obtain⟨oe,vs,e1,e2,e3⟩:=x;by_cases ea:a=e
 ·subst ea
  obtain⟨ws,w1,w2⟩:=hf oe vs e2;exact⟨_,ws,Heap.get?_update_self _ e1 (YX w1),w1,w2.trans e3⟩
 ·exact⟨oe,vs,(Heap.get?_update_other _ _ ea).trans e1,e2,e3⟩
theorem HA{α:Type}{M:Model}{Γ:PySem.Ctx}{e:Addr}{t:Sem α}:∀ {Q:α->Pos->Shared->Prop} {E:Value->Pos->Shared->Prop} {p:Pos} {s:Shared},K2 t->Sem.wp M Γ t Q E p s->F2 s.heap e->Sem.wp M Γ t (fun a p s'=>Q a p s'/\F2 s'.heap e) (fun x p s'=>E x p s'/\F2 s'.heap e) p s:=by
 induction t with
 |pure a=>intro Q E p s _ h f;rw[Sem.wp]at h |-; exact⟨h,f⟩
 |raise x=>intro Q E p s _ h f;rw[Sem.wp]at h |-; exact⟨h,f⟩
 |unsupported=>intro Q E p s _ h f;rw[Sem.wp]at h;exact h.elim
 |finish=>intro Q E p s _ h f;rw[Sem.wp]at h;exact h.elim
 |rule _ k ih=>intro Q E p s g h f;rw[Sem.wp]at h |-; exact ih () g h f
 | «at» _ k ih=>intro Q E p s g h f;rw[Sem.wp]at h |-; exact ih () g h f
 |load _ _ k ih=>intro Q E p s g h f;rw[Sem.wp]at h |-; obtain⟨o,h1,h2⟩:=h;exact⟨o,h1,ih o (g o) h2 f⟩
 |update a _ _ k ih=>intro Q E p s g h f;rw[Sem.wp]at h |-; exact⟨h.1,ih () g.2 h.2 (f.update a g.1)⟩
 |loadIfAlive _ k ih=>intro Q E p s g h f;rw[Sem.wp]at h |-; exact ih _ (g _) h f
 |point _ k ih=>intro Q E p s g h f;rw[Sem.wp]at h |-; exact ih () g h f
 |register=>intro Q E p s _ h f;rw[Sem.wp]at h;exact h.elim
 |alloc o k ih=>intro Q E p s g h f;rw[Sem.wp]at h |-; exact ih _ (g _) h (f.push o)
 |fresh k ih=>intro Q E p s g h f;rw[Sem.wp]at h |-; exact ih _ (g _) h f
 |ask k ih=>intro Q E p s g h f;rw[Sem.wp]at h |-; exact ih _ (g _) h f
 |choose _ _ k ih=>intro Q E p s g h f;rw[Sem.wp]at h |-; exact⟨h.1,ih _ (g _) h.2 f⟩
 |os _ _ k ih=>intro Q E p s g h f;rw[Sem.wp]at h |-; exact ih _ (g _) h f
 |call=>intro Q E p s g;exact g.elim
 |handled _ k ih=>intro Q E p s g h f;rw[Sem.wp]at h |-; exact ih _ (g _) h f
 |genState _ k ih=>intro Q E p s g h f;rw[Sem.wp]at h |-; obtain⟨st,h1,h2⟩:=h;exact⟨st,h1,ih _ (g _) h2 f⟩
 |newGen _ k ih=>intro Q E p s g h f;rw[Sem.wp]at h |-; exact ih _ (g _) h f
 |resume=>intro Q E p s g;exact g.elim
 |yield=>intro Q E p s _ h f;rw[Sem.wp]at h;exact h.elim
 |stack k ih=>intro Q E p s g h f;rw[Sem.wp]at h |-; exact ih _ (g _) h f
 |fork=>intro Q E p s _ h f;rw[Sem.wp]at h;exact h.elim
 |thread k ih=>intro Q E p s g h f;rw[Sem.wp]at h |-; exact ih _ (g _) h f
 |await=>intro Q E p s _ h f;rw[Sem.wp]at h;exact h.elim
theorem Bf{α:Type}{M:Model}{A:Around}{e:Addr}{t:Sem α}{Q:α->Shared->Prop}{E:Value->Shared->Prop}{s:Shared}(k:K2 t)(f:F2 s.heap e)(h:wpAny M A t Q E s):wpAny M A t (fun a s'=>Q a s'/\F2 s'.heap e) (fun x s'=>E x s'/\F2 s'.heap e) s:=fun Γ p hg=>HA k (h Γ p hg) f
theorem jN(v:Value)(i:Nat):K2 (field v i):=by
 refine K2.bind ?_ fun vs=>?_
 ·unfold fieldsOf
  split
  ·refine K2.bind (fun o=>trivial) fun o=>?_
   split <;> trivial
  ·trivial
 ·split <;> trivial
theorem ij(v:Value){i:Nat}(h:i≠2)(x:Value):K2 (setField v i x):=by
 unfold setField;split
 ·unfold updateField
  refine K2.bind (fun o=>trivial) fun o=>?_;split
  ·split
   ·refine⟨fun o vs e=>⟨_,Y1 e _,?_⟩,trivial⟩
    rw[Array.getElem?_setIfInBounds_ne h]
   ·trivial
  ·trivial
 ·trivial
theorem tX:∀l:List Env,K2 (readyFrames l)
 | []=>trivial
 |env::outer=>by
  unfold readyFrames;split
  ·refine K2.bind (fun o=>trivial) fun o=>?_
   split
   ·trivial
   ·refine K2.bind ?_ fun im=>K2.bind ?_ fun bk=>K2.bind ?_ fun _=>tX outer
    ·unfold behindIsImport
     split
     ·trivial
     ·split
      ·trivial
      ·exact K2.bind (jN _ _) fun _=>trivial
    ·unfold keptBack
     split
     ·split
      ·trivial
      ·refine K2.bind ?_ fun _=>trivial
       exact K2.bind (fun st=>trivial) fun _=>trivial
     ·trivial
    ·exact⟨fun o vs e=>⟨vs,e,rfl⟩,trivial⟩
  ·trivial
theorem uv(env:Env):K2 (PySem.frameOf env):=by
 unfold PySem.frameOf frameEnvs;refine K2.bind (fun st=>trivial) fun es=>K2.bind ?_ fun o=>?_
 ·unfold frameObject
  split
  ·trivial
  ·exact K2.bind (tX _) fun _=>trivial
 ·split <;> trivial
theorem z_(a b c d f:Value)(p:List Value):K2 (EntryCells.newEntry a b c d f p):=by
 unfold EntryCells.newEntry newFields newObj;dsimp only;have nw:∀d:Data,K2 (newObjAsIs (Yz "traceback") d):=fun d=>by
  unfold newObjAsIs;exact K2.bind (fun a=>trivial) fun a=>trivial
 generalize ([a,b,c,d,f]++if p.isEmpty=true then List.replicate 6 Zm else p).toArray=l;split
 ·exact K2.bind trivial fun _=>nw _
 ·exact nw _
theorem BB(f:Addr)(b:Bool):K2 (entryPlaceOf f b):=by
 unfold entryPlaceOf;refine K2.bind (fun st=>trivial) fun st=>?_;split <;> trivial
theorem wE(e:Value)(env:Env):K2 (noteFrame e env):=by
 unfold noteFrame;split
 ·refine K2.bind (jN _ _) fun hd=>?_
  have jp:∀f:Addr,K2 (do let a <- PySem.frameOf env;let b <- entryPlaceOf f (hd != Zm);let c <- EntryCells.newEntry hd a Zm (rawInt f) Zm b;setField e 1 c):=fun f=>K2.bind (uv _) fun a=>K2.bind (BB _ _) fun b=>K2.bind (z_ ..) fun c=>ij _ (by decide) _;dsimp only;split
  ·refine K2.bind (jN _ _) fun x=>?_
   split
   ·trivial
   ·exact K2.bind (ij _ (by decide) _) fun _=>jp _
  ·exact jp _
 ·trivial
theorem kW(e:Value)(fr:Option Addr):K2 (setFlight e fr):=by
 unfold setFlight;refine K2.bind (jN _ _) fun tb=>?_;split
 ·exact ij _ (by decide) _
 ·trivial
theorem jj(env:Env)(e:Value):K2 (leaving env e):=by
 unfold leaving;exact K2.bind (wE _ _) fun _=>kW _ _
theorem dD{α:Type}{M:Model}{A:Around}{e:Addr}{t:Sem α}{Q:α->Shared->Prop}{E:Value->Shared->Prop}{s:Shared}(k:K2 t)(f:F2 s.heap e)(h:wpAny M A t (fun a s'=>F2 s'.heap e->Q a s') E s):wpAny M A t Q E s:=
 qN (Bf k f h) (fun _ _ q=>q.1 q.2) (fun _ _ q=>q.1)
theorem ObjOk.at_(x:ObjOk P w H h a o):∃ob,h.get? a=some ob:=by
 cases o with
 |lst xs=>obtain⟨_,_,_,_,e⟩:=x;exact⟨_,e⟩
 |tup xs=>obtain⟨_,_,_,ob,e,_⟩:=x;exact⟨_,e⟩
 |dK kvs=>obtain⟨_,_,_,_,o,_,_,e,_⟩:=x;exact⟨_,e⟩
 |dT kvs=>obtain⟨_,_,_,_,o,_,_,e,_⟩:=x;exact⟨_,e⟩
 |set S n=>obtain⟨o,_,_,_,e,_⟩:=x;exact⟨_,e⟩
 |ins C dx fs=>obtain⟨_,_,_,e,_⟩:=x;exact⟨_,e⟩
 |own y=>obtain⟨_,e⟩:=x;exact⟨_,e⟩
 |xd fs=>obtain⟨_,⟨_,_,_,e,_⟩,_⟩:=x;exact⟨_,e⟩
 |rng lo hi=>obtain⟨_,_,_,e⟩:=x;exact⟨_,e⟩
 |frz ob u=>obtain⟨e,_⟩:=x;exact⟨_,e⟩
 |tbl ps=>exact⟨_,(show h.get? a=some _ from x)⟩
 |met f y=>exact⟨_,(show h.get? a=some _ from x)⟩
 |ext φ=>obtain⟨_,⟨_,e⟩,_⟩:=x;exact⟨_,e⟩
theorem HOk.none_of(x:HOk P w H h)(e:h.get? a=none):H a=none:=by
 cases q:H a with
 |none=>rfl
 |some u=>
  obtain⟨ob,z⟩:=(x a u q).at_;rw[e]at z;cases z
def hid(h:Heap)(l:List Env)(rs:List Addr):Heap:=PySem.W.hideAll h (frs l++rs)
theorem iM(e:h.get? b=some o)(h1:b∉frs l)(h2:b∉rs):(hid h l rs).get? b=some o:=
 PySem.W.hideAll_get _ e fun z=>(y9.mp z).elim h1 h2
theorem mM(e:(hid h l rs).get? b=some o):h.get? b=some o:=PySem.W.of_hideAll _ e
theorem jf(e:b∈rs):(hid h l rs).get? b=none:=PySem.W.hideAll_none _ (uU _ e)
theorem fK{h base:Heap}(e:h.FunFrames base l):h.FunFrames (hid h l rs) l:=
 PySem.W.funFrames_hide e fun _ he _ ha=>rV _ (List.mem_filterMap.mpr ⟨_,he,ha⟩)
def Fly(l:List Env)(rs:List Addr)(e:Addr)(cls:Value)(h:Heap):Prop:=e∈rs/\∃a0,Heap.FlyingW (hid h l rs) l e cls a0 h/\F2 h e
def XE(P:Program)(w:World):CXT:=fun outer H s E ev s'=>∃(e:Addr) (C:Value) (rs:List Addr) (H':Hp),ev = .ref e/\s'.os=s.os/\AllBare s'.gens/\Un (frs outer) [] H H' s.heap s'.heap /\
 HOk P w H' s'.heap/\(∀b∈rs,s.heap.get? b=none/\H' b=none)/\Fly outer rs e C s'.heap/\E C none H'
section
variable{X:Cx}{pins:List (Addr × Obj)}{σ:St}{H:Hp}{s:Shared}{h':Heap}{rs:List Addr}
theorem Inv.s0_none(I:Inv X pins σ H s)(hex:X.ex=[])(e:s.heap.get? b=none):X.s₀.heap.get? b=none:=by
 cases q:X.s₀.heap.get? b with
 |none=>rfl
 |some o=>
  obtain⟨o',z⟩:=I.base.there b o q (by rw[hex];simp);rw[e]at z;cases z
theorem Inv.noteUn(I:Inv X pins σ H s)(hex:X.ex=[])(hrs:∀b∈rs,X.s₀.heap.get? b=none)
 (stay:∀b o,s.heap.get? b=some o->b∉frs X.stack->b∉rs->h'.get? b=some o) (up:s.heap.UpToSlots h'):Un X.fs [] X.H₀ H X.s₀.heap h':=by
 have B:=I.base;rw[hex]at B;have nrs:∀b o,X.s₀.heap.get? b=some o->b∉rs:=fun b o e z=>by rw[hrs b z]at e;cases e
 have nst:∀b o,X.s₀.heap.get? b=some o->b∉X.fs->b∉frs X.stack:=fun b o e hb z=>by
  rcases zG.mp (I.stkSub b z) with q|q
  ·exact absurd (rT (yr e) I.ok.above) (by rw[q];exact ZJ _)
  ·exact hb q
 refine⟨fun b o q n hb hx=>stay b o (B.keep b o q n hb hx) (nst b o q hb) (nrs b o q),fun b o q n hb hx=>?_,fun b o q n hx=>B.free b o q n hx,fun b o q hx=>?_,B.tups,B.frzs,B.tbls⟩
 ·obtain⟨sl,e1⟩:=B.slot b o q n hb hx
  obtain⟨_,o',ho',hd⟩:=I.funs.mem hb;rw[e1]at ho';cases ho';obtain⟨sl',e2⟩:=up b _ e1 hd;exact⟨sl',e2⟩
 ·obtain⟨o',e1⟩:=B.there b o q hx
  by_cases hb:b∈frs X.stack
  ·obtain⟨_,o2,ho2,hd⟩:=I.stack.mem hb
   obtain⟨sl',e2⟩:=up b _ ho2 hd;exact⟨_,e2⟩
  ·exact⟨o',stay b o' e1 hb (nrs b o q)⟩
theorem Inv.noteOk(I:Inv X pins σ H s)(hrs:∀b∈rs,H b=none)(stay:∀b o,s.heap.get? b=some o->b∉frs X.stack->b∉rs->h'.get? b=some o):HOk X.prog X.w H h':=fun a o e=>
 (I.hok a o e).stay (fun b u hb q=>stay b u q (fun z=>by
  have n:=I.stkFree b z;rcases hb with r|r
  ·rw[r,e]at n;cases n
  ·rw[r]at n;cases n) fun z=>by
  have n:=hrs b z;rcases hb with r|r
  ·rw[r,e]at n;cases n
  ·rw[r]at n;cases n) (fun _ q=>q) fun _ _ q=>q
theorem pX(hl:h.FunFrames base l)(up:h.UpToSlots h1)(e:(hid h l rs).get? T=none)(hT:h1.get? T=some oT)(hd:oT.data = .fields ts):h.get? T=none\/T∈rs:=by
 by_cases hr:T∈rs
 ·exact .inr hr
 ·refine .inl ?_
  cases q:h.get? T with
  |none=>rfl
  |some o=>
   by_cases hf:T∈frs l
   ·obtain⟨_,o2,ho2,hnf⟩:=hl.mem hf
    rw[q]at ho2;cases ho2;obtain⟨sl,e2⟩:=up T o q hnf;rw[hT]at e2;cases e2;exact absurd hd (hnf ts)
   ·rw[iM q hf hr]at e;cases e
end
section
variable{P:Program}{w:World}{K:W.Frag}{mg:Str->Option Value}{base:Heap}{N:List Str}{qual:Str}{scope:Scope}{f:Addr}{cd:Value}{A:Around}{outer:List Env}{s₀:Shared}{H₀:Hp}{E:XK}
theorem uB{s:Shared}
 (I:Inv (bW (XE P w) P w K mg base N qual scope f cd A outer s₀ H₀ E) pins σ H s) (hx:Heap.MadeExcOf s.heap h' e cls args) (q:E cls none H) :
 (bW (XE P w) P w K mg base N qual scope f cd A outer s₀ H₀ E).xe (.ref e) { s with heap:=h' }:=by
 show wpAny (model P w) (A.deeper (envOfC qual scope s₀.heap.objs.size f cd)) (leaving (envOfC qual scope s₀.heap.objs.size f cd) (.ref e)) (fun _ s''=>XE P w outer H₀ s₀ E (.ref e) s'') (fun e' s''=>XE P w outer H₀ s₀ E e' s'') { s with heap:=h' };have hst:s.heap.FunFrames base (envOfC qual scope s₀.heap.objs.size f cd::outer):=I.stack;have g0:F2 h' e:=by
  obtain⟨t,he,_,_⟩:=hx.there;exact⟨_,_,he,rfl,rfl⟩
 refine dD (e:=e) (jj _ _) g0 (wpAny_leaves_madeW (base:=hid s.heap (envOfC qual scope s₀.heap.objs.size f cd::outer) []) (h:=s.heap) I.ok.frames rfl (fun b o z=>mM z) (fK hst) hx fun h'' t fl tup tn up g2=>?_);obtain⟨f1,f2,f3,oe,vs,T,oT,ts,he,hc,hd,h1,hnT,hTe,hT,hdT,h3⟩:=fl;have up':s.heap.UpToSlots h'':=(Heap.UpToSlots.of_keeps hx.keeps).trans up;have nT:s.heap.get? T=none:=(pX hst up' hnT hT hdT).elim id fun z=>nomatch z;have stay:∀b o,s.heap.get? b=some o->b∉frs (envOfC qual scope s₀.heap.objs.size f cd::outer)->b∉[e,T]->h''.get? b=some o:=fun b o z hb _=>f1 b o (iM z hb fun y=>nomatch y);have n0:∀b∈[e,T],s.heap.get? b=none:=fun b hb=>by
  rcases zG.mp hb with r|r
  ·rw[r];exact hx.new
  ·rw[zL.mp r];exact nT
 have n1:∀b∈[e,T],s₀.heap.get? b=none:=fun b hb=>I.s0_none rfl (n0 b hb);have n2:∀b∈[e,T],H b=none:=fun b hb=>I.hok.none_of (n0 b hb);refine⟨e,cls,[e,T],H,rfl,I.os,I.bare,I.noteUn rfl n1 stay up',I.noteOk n2 stay,fun b hb=>⟨n1 b hb,n2 b hb⟩,⟨.head _,.ref t,?_,g2⟩,q⟩;exact⟨fun b o z=>mM z,jf (.head _),fK f3,oe,vs,T,oT,ts,he,hc,hd,h1,jf (.tail _ (.head _)),hTe,hT,hdT,h3⟩
abbrev XKs:=St->XK
def bK(CX:CXT)(X:Cx)(E:XKs):Prop:=∀(pins:List (Addr × Obj)) (σ:St) (H:Hp) (s:Shared) (e:Value) (s':Shared),Inv X pins σ H s->CX X.stack H s (E σ) e s'->X.xe e s'
def uj(X:Cx)(E:XKs):Prop:=∀(pins:List (Addr × Obj)) (σ:St) (H:Hp) (s:Shared) (h':Heap) (e:Addr) (cls:Value) (args:List Value),Inv X pins σ H s->Heap.MadeExcOf s.heap h' e cls args->E σ cls none H->X.xe (.ref e) { s with heap:=h' }
theorem bf:uj (bW (XE P w) P w K mg base N qual scope f cd A outer s₀ H₀ E) (fun _=>E):=fun _ _ _ _ _ _ _ _ I hx q=>uB I hx q
theorem aE:bK (XE P w) (bW (XE P w) P w K mg base N qual scope f cd A outer s₀ H₀ E) (fun _=>E):=by
 intro pins σ H s ev s' I hq;obtain⟨e,C,rs,H',rfl,os,bare,un,hok,hrs,⟨her,a0,fl,g0⟩,q⟩:=hq;have J:Inv (bW (XE P w) P w K mg base N qual scope f cd A outer s₀ H₀ E) pins σ H' s':=I.call' os un hok bare (fun b z=>nomatch z);show wpAny (model P w) (A.deeper (envOfC qual scope s₀.heap.objs.size f cd)) (leaving (envOfC qual scope s₀.heap.objs.size f cd) (.ref e)) (fun _ s''=>XE P w outer H₀ s₀ E (.ref e) s'') (fun e' s''=>XE P w outer H₀ s₀ E e' s'') s';have hst:s'.heap.FunFrames base (envOfC qual scope s₀.heap.objs.size f cd::outer):=J.stack;refine dD (e:=e) (jj _ _) g0 (wpAny_leaves_onW (base:=hid s'.heap (envOfC qual scope s₀.heap.objs.size f cd::outer) rs) I.ok.frames rfl fl fun h'' fl' up g2=>?_);obtain⟨f1,f2,f3,oe,vs,T,oT,ts,he,hc,hd,h1,hnT,hTe,hT,hdT,h3⟩:=fl';have nT:=pX hst up hnT hT hdT;have stay:∀b o,s'.heap.get? b=some o->b∉frs (envOfC qual scope s₀.heap.objs.size f cd::outer)->b∉T::rs->h''.get? b=some o:=fun b o z hb hr=>f1 b o (iM z hb fun y=>hr (.tail _ y));have n1:∀b∈T::rs,s₀.heap.get? b=none:=fun b hb=>by
  rcases zG.mp hb with r|r
  ·rw[r]
   rcases nT with z|z
   ·exact J.s0_none rfl z
   ·exact I.s0_none rfl (hrs T z).1
  ·exact I.s0_none rfl (hrs b r).1
 have n2:∀b∈T::rs,H' b=none:=fun b hb=>by
  rcases zG.mp hb with r|r
  ·rw[r]
   rcases nT with z|z
   ·exact hok.none_of z
   ·exact(hrs T z).2
  ·exact(hrs b r).2
 refine⟨e,C,T::rs,H',rfl,J.os,J.bare,J.noteUn rfl n1 stay up,J.noteOk n2 stay,fun b hb=>⟨n1 b hb,n2 b hb⟩,⟨.tail _ her,a0,?_,g2⟩,q⟩;exact⟨fun b o z=>mM z,jf (.tail _ her),fK f3,oe,vs,T,oT,ts,he,hc,hd,h1,jf (.head _),hTe,hT,hdT,h3⟩
end
def pW(sp:Sp)(dvs:List V)(E:XKs)(t:TA):TE:=fun σ H Q=>t σ H fun vs H1=>sp (vs++dvs) H1 Q (E σ)
section
variable{X:Cx}{CX:CXT}{k:Nat}{f C:Addr}{fd:FuncData}{ps:List Str}{sp:Sp}{dvs:List V}{ds:List Value}{E:XKs}{x m:Str}{p pos apos:Pos}{e o:Expr}{es:List Expr}{ta:TE}{t:TA}
theorem rl(F:hU X.prog X.w X.K X.mg X.base CX k f fd ps sp)(hr:Room k X.A)(hb:Binds X.K fd ps ds)(hd:Vals dvs ds)(hx:bK CX X E)
 (I:Inv X pins σ H s) (r:Vals vs us) (h:sp (vs++dvs) H Q (E σ)):wpAny (model X.prog X.w) X.A (call (.ref f) us) (EP X pins σ Q) X.xe s:=by
 have r2:Vals (vs++dvs) (us++ds):=r.append hd;have hl:(us++ds).length=ps.length:=by rw[<- r2.length];exact F.len _ _ _ _ h
 refine wpAny_call (YR (F.run X.A X.stack s H ⟨us,[]⟩ (us++ds) (vs++dvs) Q (E σ) hr I.env0 (hb s us I.kIn hl) r2 h) fun r s' hq=>?_);cases r with
 |error e=>exact hx pins σ H s e s' I hq
 |ok fl=>
  cases fl with
  |ret u=>exact I.after hq
  |next=>exact Z3 hq
  |brk=>exact Z3 hq
  |cont=>exact Z3 hq
theorem Ab(F:hU X.prog X.w X.K X.mg X.base CX k f fd ps sp)(hr:Room k X.A)(hg:Gl X x)(hm:X.mg x=some (.ref f))(hk:Yu X.K (.ref f)=true)(hb:Binds X.K fd ps ds)(hd:Vals dvs ds)(hx:bK CX X E)
 (ha:PA X (e::es) t) (hdb:(x==("__debug__":Str))=false:=by decide) (he:starEach (e::es) X.env=(false,eval e X.env)::starEach es X.env:=by rfl) (hpl:(backTo pos (starEach es X.env)).any (·.1)=false:=by rfl) :
 PE X (.Call (.Name x p) (e::es) [] pos) (pW sp dvs E t):=by
 intro pins s σ H Q I h;refine Yy (gO I hg hm ?_ hdb);refine PySem.W.callWith_K (h₀:=X.base) I.ok.mod.kin hk (thn (ha pos pins s σ H _ I h) fun us s1 ⟨vs,H1,I1,r,q⟩=>⟨I1.kIn,?_⟩) he hpl;exact rl F hr hb hd hx I1 r q
end
section
variable{P:Program}{w:World}{K:W.Frag}{mg:Str->Option Value}{base:Heap}
theorem Fun.okX{x qual:Str}{st:Stmt}{f:Addr}{fd:FuncData}{N ps:List Str}{k:Nat}{sp:Sp}(F:Fun K x qual st f fd)(S:bd N ps (ae st))(len:∀vs H Q E,sp vs H Q E->vs.length=ps.length)
 (hbody:∀(cdv:Value) (A:Around) (outer:List Env) (s:Shared) (H:Hp) (vs:List V) (Q:VK) (E:XK),Room k (A.deeper (envOfC qual (ae st) s.heap.objs.size f cdv))->sp vs H Q E ->
  ∃t,PSs (bW (XE P w) P w K mg base N qual (ae st) f cdv A outer s H E) (aq st) t/\t { nx:=fun _ H'=>Q .non H',rt:=Q } (eU N vs) H):hU P w K mg base (XE P w) (k+1) f fd ps sp:=by
 obtain⟨oc,od,kV,doc,pm,an,cdv,ct,osl,rfl,lk,hcd⟩:=F.ex;exact Hx lk hcd S len fun A outer s H vs Q E hr hsp=>hbody cdv A outer s H vs Q E hr hsp
end
theorem BY{K:W.Frag}{h:Heap}(X:K.In h)(q:PySem.W.excIn K C bmB newId=true) :
 ∃bm N nm qn bs hdct sn sub ab col dd k0 k1 k2 k3 k5 mN,h.get? C=some (Xp nm qn C N bs bm hdct sn sub ab col dd k0 k1 k2 k3 k5 newId)/\h.Ns N mN/\mN "__init__" = none/\OwnTail h bmB bm:=by
 unfold PySem.W.excIn at q;split at q
 ·rename_i dd cd sl ho
  split at q
  ·rename_i C' bm k0 k1 k2 k3 n k5 hm hs
   simp only[Zi,beq_iff_eq,Xu]at q;obtain⟨⟨⟨⟨⟨rfl,rfl⟩,hdel⟩,ht⟩,hok⟩,hni⟩:=q;obtain⟨nm,bs,mro,ns,qn,hd,sn,sub,ab,col,del⟩:=cd;dsimp only at hm hdel hok hni;subst hm hdel;have hsl:sl = #[k0,k1,k2,k3,some (.builtin n),k5]:=by
    obtain⟨l⟩:=sl;simp only at hs;rw[hs]
   subst hsl;exact⟨bm,ns,nm,qn,bs,hd,sn,sub,ab,col,dd,k0,k1,k2,k3,k5,_,X _ _ ho,.of_isNs (PySem.W.isNs_of_in X hok),PySem.W.nsMap_none_of_in X hok hni,PySem.W.tail_of_in X ht⟩
  ·cases q
 ·cases q
def uK(C:Addr)(E:XKs)(t:TA):TS:=fun _ σ H=>t σ H fun vs H1=>vs.length<=sizeLine/\E σ (.ref C) none H1
theorem zC{X:Cx}(O:PySem.W.excIn X.K C bmB newId=true)(FB:ExcBaseFacts B newId initId bmB)
 (hc:X.calm=true) (hg:Gl X x) (hm:X.mg x=some (.ref C)) (hx:uj X E) (ha:PA X (e::es) t) (hdb:(x==("__debug__":Str))=false:=by decide)
 (he:starEach (e::es) X.env=(false,eval e X.env)::starEach es X.env:=by rfl) (hpl:(backTo cpos (starEach es X.env)).any (·.1)=false:=by rfl) :
 PS X (.Raise (some (.Call (.Name x np) (e::es) [] cpos)) none pos) (uK C E t):=by
 intro pins s σ H D I h;obtain⟨tl,N,nm,q,bs,hdct,sn,sub,ab,col,dd,k0,k1,k2,k3,k5,mN,hC,hN,hni,T⟩:=BY I.mod.kin O;refine wpAny_Raise_call_subT (C:=C) (nm:=nm) (q:=q) (N:=N) (bs:=bs) (bm:=tl) (hdct:=hdct) (sn:=sn) (sub:=sub) (ab:=ab) (col:=col) (dd:=dd) (k0:=k0) (k1:=k1) (k2:=k2) (k3:=k3) (k5:=k5)
  FB (mN:=mN) (T.hasType FB.hasBase) (I.ok.hd hc) (by rw[he];show(false || (backTo cpos (starEach es X.env)).any (·.1))=false;rw[hpl];rfl) hni (gO I hg hm ⟨rfl,?_⟩ hdb)
 have hA:=ha cpos pins s σ H _ I h;rw[he]at hA |-
 refine ZB (thn hA fun us s1 ⟨vs,H1,I1,r,hz,q1⟩=>⟨rfl,by rw[<- r.length];exact hz,I1.bk _ _ hC,hN.keeps I1.bk,T.keeps I1.bk,fun h' e' hm'=>?_⟩);exact hx pins σ H1 s1 h' e' (.ref C) us I1 hm' q1
section
variable{X:Cx}{pins:List (Addr × Obj)}{σ:St}{H:Hp}{s:Shared}{h':Heap}{rs:List Addr}
theorem Inv.noted(I:Inv X pins σ H s)(hrs:∀b∈rs,X.s₀.heap.get? b=none/\H b=none)(hpin:∀p∈X.pn++pins,p.1∉rs)
 (stay:∀b o,s.heap.get? b=some o->b∉frs X.stack->b∉rs->h'.get? b=some o) (up:s.heap.UpToSlots h'):Inv X pins σ H { s with heap:=h',toks:=t' }:=by
 have B:=I.base;have cellK:∀c v,s.heap.IsCell c v->h'.IsCell c v:=fun c v ⟨o,ho,hd⟩=>by
  obtain⟨sl,e⟩:=up c o ho fun vs q=>by rw[hd]at q;cases q
  exact⟨_,e,hd⟩
 have nrs:∀b o,X.s₀.heap.get? b=some o->b∉rs:=fun b o e z=>by rw[(hrs b z).1]at e;cases e
 have nst:∀b o,X.s₀.heap.get? b=some o->b∉X.fs->b∉frs X.stack:=fun b o e hb z=>by
  rcases zG.mp (I.stkSub b z) with q|q
  ·exact absurd (rT (yr e) I.ok.above) (by rw[q];exact ZJ _)
  ·exact hb q
 refine⟨I.ok,I.os,I.bare,⟨fun b o q n hb hx=>stay b o (B.keep b o q n hb hx) (nst b o q hb) (nrs b o q),fun b o q n hb hx=>?_,fun b o q n hx=>B.free b o q n hx,fun b o q hx=>?_,B.tups,B.frzs,B.tbls⟩,?_,fun x c e=>?_,I.free,I.freeC,fun p hp=>?_,I.noteOk (fun b hb=>(hrs b hb).2) stay,I.len⟩
 ·obtain⟨sl,e1⟩:=B.slot b o q n hb hx
  obtain⟨_,o',ho',hd⟩:=I.funs.mem hb;rw[e1]at ho';cases ho';obtain⟨sl',e2⟩:=up b _ e1 hd;exact⟨sl',e2⟩
 ·obtain⟨o',e1⟩:=B.there b o q hx
  by_cases hb:b∈frs X.stack
  ·obtain⟨_,o2,ho2,hd⟩:=I.stack.mem hb
   obtain⟨sl',e2⟩:=up b _ ho2 hd;exact⟨_,e2⟩
  ·exact⟨o',stay b o' e1 hb (nrs b o q)⟩
 ·obtain⟨m,hn,hl⟩:=I.loc
  refine⟨m,up.ns hn,fun i x v e1 e2 e3=>?_⟩;obtain⟨u,r,l⟩:=hl i x v e1 e2 e3;refine⟨u,r,?_⟩;rcases l with l|⟨k,c,e,z⟩
  ·exact .inl l
  ·exact .inr ⟨k,c,e,cellK c _ z⟩
 ·obtain⟨v,z⟩:=I.cell x c e
  exact⟨v,cellK c v z⟩
 ·obtain⟨e,n,ne,nf,d⟩:=I.pin p hp
  exact⟨stay p.1 p.2 e (fun z=>(zG.mp (I.stkSub _ z)).elim ne nf) (hpin p hp),n,ne,nf,d⟩
theorem Cx.Ok.re(ok:X.Ok)(A':Around)(hf:A'.frames=X.A.frames)(cm:Bool)(hh:cm=true->A'.handled=none)(pn:List (Addr × Obj))(xe:Value->Shared->Prop):({ X with A:=A',calm:=cm,pn:=pn,xe:=xe }:Cx).Ok:=
 ⟨ok.mod,ok.kind,ok.glob,ok.blt,ok.above,ok.inj,ok.has,ok.cab,hh,hf.trans ok.frames,ok.stk,ok.exf,ok.bs,ok.bsz,ok.noex,ok.exfs,ok.funs,ok.frf⟩
theorem Inv.toPn(I:Inv X pins σ H s)(xe:Value->Shared->Prop):Inv { X with pn:=X.pn++pins,xe:=xe } [] σ H s:=
 ⟨I.ok.re X.A rfl X.calm I.ok.hd _ _,I.os,I.bare,I.base,I.loc,I.cell,I.free,I.freeC,fun p hp=>I.pin p (by rw[Zh]at hp;exact hp),I.hok,I.len⟩
theorem Inv.ofPn(ok:X.Ok)(I:Inv { X with pn:=X.pn++pins,xe:=xe } pins' σ H s):Inv X pins σ H s:=
 ⟨ok,I.os,I.bare,I.base,I.loc,I.cell,I.free,I.freeC,fun p hp=>I.pin p (rV _ hp),I.hok,I.len⟩
abbrev Cx.caught(X:Cx)(e:Addr):Cx:={ X with A:=X.A.mark (some (.ref e)),calm:=false,pn:=X.pn,xe:=fun _ _=>False }
theorem Inv.toCaught(I:Inv X pins σ H s)(e:Addr):Inv (X.caught e) pins σ H s:=
 ⟨I.ok.re (X.A.mark (some (.ref e))) rfl false (fun z=>nomatch z) _ _,I.os,I.bare,I.base,I.loc,I.cell,I.free,I.freeC,I.pin,I.hok,I.len⟩
theorem Inv.ofCaught(ok:X.Ok)(I:Inv (X.caught e) pins σ H s):Inv X pins σ H s:=
 ⟨ok,I.os,I.bare,I.base,I.loc,I.cell,I.free,I.freeC,I.pin,I.hok,I.len⟩
end
theorem qO{s:Shared}{K:W.Frag}{e C D:Addr}{oe:Obj}(X:K.In s.heap)(he:s.heap.get? e=some oe)(hcls:oe.cls = .ref C)
 (hx:ZZ K (.ref C) (.ref D)=some true) (h:Q true s):wpAny M A (excMatches (.ref e) (.ref D)) Q E s:=
 (PySem.W.exm_one (M:=M) X (hcls ▸ (PySem.W.Looks.ld he).andThen .now) hx).here h
def sS(C:Value)(e:Addr):HO:=HO.ext fun h=>∃o vs,h.get? e=some o/\o.cls=C/\o.data = .fields vs/\vs[2]? = some .none
end L2
namespace L2
open PySem PySem.Spec PyProof.Rows PySem.W
inductive yc:V->Value->Prop where
 |ty (n:String):yc (.ty n) (.type n)
 |own (a:Addr):yc (.ref a) (.ref a)
section
variable{X:Cx}
theorem tW:CallR X (.builtin "isinstance") (fun xs H Q=>∃x c t u b,xs=[x,c]/\yc c u/\jc X.K H x t/\Yv X.K t u=some b/\Q (.bl b) H):=by
 intro pins s σ H xs us Q I r h;obtain⟨x,c,t,u,b,rfl,rc,ty,e,q⟩:=h;obtain⟨ux,uc,rfl,rx,rc'⟩:=rJ r;have ec:uc=u:=by
  cases rc with
  |ty n=>exact rc'
  |own a=>exact rc'
 subst ec;exact xJ I rx ty e fun tk=>⟨.bl b,H,I.tok _,rfl,q⟩
end
structure cK(K:Frag)(C:Addr):Prop where
 l1:findIn K (.ref C) "__getattribute__" = some (some (.builtin "BaseException.__getattribute__"))
 l2:findIn K (.ref C) "__getattr__" = some none
 l3:findIn K (.ref C) "__class__" = some (some (.builtin "object.__class__"))
 c1:(clsIn K C).isSome=true
 m1:mroIn K C (.type "object")=some true
 m2:mroIn K C (.type "BaseException")=some true
section
variable{prog:Program}{w:World}{A:Around}{E:Value->Shared->Prop}{K:Frag}{e C:Addr}{o:Obj}{s:Shared}
open Builtin Builtin.ObjectAttr Builtin.Getset_descriptor PySem.Calls in
theorem oB(X:K.In s.heap)(Z:cK K C)(hx:s.heap.get? e=some o)(hc:o.cls = .ref C)
 (h:R (.ok (.ret (.ref C))) s):codeAny (model prog w) A (.call (.builtin "getset_descriptor.__get__") ⟨[.builtin "object.__class__",.ref e,tp],[]⟩) R s:=by
 obtain⟨hh,g,dr,t,os⟩:=s;have L0:Looks (model prog w) hh (typeOf (.ref e)) (.ref C):=hc ▸ (Looks.ld hx).andThen .now;have L1:=looks_mroIn (M:=model prog w) X Z.m1;refine Xl KF.slot_gs.plain KF.entry_gs (KF.slot_gs.check _ _ _ _ _ _ _ _ KF.type_class (KF.args_gs _ _ _) ?_);unfold Builtin.«getset_descriptor.__get__» descrGet;rw[dga_obj];refine zm (za ?_);unfold descrGetter descrCheckInstance descrNameAndClass isInstance;simp only[KF.owner_class]
 repeat lk
 refine⟨XO _ (by decide +kernel),YU KF.entry_class ?_⟩;unfold Builtin.«object.__class__» shownTypeOf
 repeat lk
 exact h
theorem qQ(X:K.In s.heap)(Z:cK K C)(hx:s.heap.get? e=some o)(hc:o.cls = .ref C)(hq:Q () s) :
 wpAny M A (checkBuiltinCall "BaseException.__getattribute__" ⟨[.ref e,nameV],[]⟩) Q E s:=by
 have hk:builtinKind "BaseException.__getattribute__" = some .slot:=by decide +kernel
 have hsplit:splitId "BaseException.__getattribute__" = some ("BaseException","__getattribute__"):=by decide +kernel
 have ha:=F.args_bexc_ga (.ref e) nameV;obtain⟨hh,g,dr,t,os⟩:=s;have L0:Looks M hh (typeOf (.ref e)) (.ref C):=hc ▸ (Looks.ld hx).andThen .now;have L1:=looks_mroIn (M:=M) X Z.m2;have LI:Looks M hh (isInstance (.ref e) (.type "BaseException")) true:=L0.andThen L1;simp only[checkBuiltinCall,hk,hsplit];refine zm (LI.at ?_)
 repeat (first|assumption|wp_step)
theorem qD(X:K.In s.heap)(Z:cK K C)(hx:s.heap.get? e=some o)(hc:o.cls = .ref C)(hq:Q (.done (.ret (.ref C))) s) :
 wpAny (model prog w) A (Builtin.«object.__getattribute__» ⟨[.ref e,.str "__class__" tk],[]⟩) Q E s:=by
 obtain⟨hh,g,dr,t,os⟩:=s;have L0:Looks (model prog w) hh (typeOf (.ref e)) (.ref C):=hc ▸ (Looks.ld hx).andThen .now;have L3:=looks_findIn (M:=model prog w) X Z.l3;have f5:=KF.type_class;have f6:=F.slot_gs_get.lookup;have f7:=F.slot_gs_set.lookup
 repeat (any_goals (first|assumption|with_reducible refine L0.at ?_|with_reducible refine L3.at ?_|wp_step))
 refine oB X Z hx hc ?_
 repeat (any_goals (first|assumption|wp_step))
theorem mV(X:K.In s.heap)(Z:cK K C)(hx:s.heap.get? e=some o)(hc:o.cls = .ref C)(h:Q (some (.ref C)) { s with toks:=s.toks+1 }) :
 wpAny (model prog w) A (getAttr? (.ref e) "__class__") Q E s:=by
 obtain⟨hh,g,dr,t,os⟩:=s;have L0:Looks (model prog w) hh (typeOf (.ref e)) (.ref C):=hc ▸ (Looks.ld hx).andThen .now;have L1:=looks_findIn (M:=model prog w) X Z.l1;have L2:=looks_findIn (M:=model prog w) X Z.l2;have f3:=F.excAttr_ValueError.ga.bind (.ref e);have hx2:(XY "BaseException.__getattribute__" == XY "object.__getattribute__")=false:=by decide +kernel
 have hx0:∀ex:Bool,(ex&&onTheHeap (XY "BaseException.__getattribute__"))=false:=fun ex=>by cases ex <;> rfl
 have hx1:(onTheHeap (yy C)&&XY "BaseException.__getattribute__" == XY "object.__getattribute__")=false:=by rw[hx2];rfl
 unfold getAttr?
 repeat (any_goals (first|assumption|with_reducible refine L0.at ?_|with_reducible refine L1.at ?_|with_reducible refine L2.at ?_|wp_step))
 refine Xl F.excAttr_ValueError.ga.plain F.entry_bexc_ga (qQ X Z hx hc (qD X Z hx hc ?_))
 repeat (any_goals (first|assumption|wp_step))
theorem AS(Z:cK K C):KitX K (.ref e) (.ref C) (fun h=>∃o,h.get? e=some o/\o.cls = .ref C) where
 ty:=fun M h _ ⟨o,h1,h2⟩=>h2 ▸ (Looks.ld h1).andThen .now
 it:=fun M h X _=>by
  have c1:=Z.c1;unfold clsIn at c1;split at c1
  ·rename_i c' d' cd' sl' ho
   intro A' Q' E' s' k q;unfold isType loadHead;exact zm (wpAny_loadPart (k _ _ (X _ _ ho)) (za q))
  ·cases c1
 ne:=fun h tp dd its n sl X htp=>by
  refine Bool.eq_false_iff.mpr fun q=>?_;have e':C=tp:=yy.inj (beq_iff_eq.mp q);subst e';have c1:=Z.c1;unfold clsIn at c1;split at c1
  ·rename_i c' d' cd' sl' ho
   have z:=(X _ _ ho).symm.trans htp;cases z
  ·cases c1
 ca:=fun X ⟨o,h1,h2⟩ k=>mV X Z h1 h2 k
end
section
variable{X:Cx}
theorem pJ:CallR X (.builtin "isinstance") (fun xs H Q=>∃e c C u b,xs=[.ref e,c]/\yc c u/\H e=some (sS (.ref C) e)/\cK X.K C/\Yv X.K (.ref C) u=some b/\Q (.bl b) H):=by
 intro pins s σ H xs us Q I r h;obtain⟨e,c,C,u,b,rfl,rc,he,Z,k,q⟩:=h;obtain⟨ux,uc,rfl,rx,rc'⟩:=rJ r;have ec:uc=u:=by
  cases rc with
  |ty n=>exact rc'
  |own a=>exact rc'
 subst ec;cases (show ux=yy e from rx);obtain⟨⟨o,vs,h1,h2,_⟩,_,_⟩:=(show ObjOk X.prog X.w H s.heap e (sS (.ref C) e) from I.hok e _ he);exact kia_one (AS Z) I.kIn ⟨o,h1,h2⟩ k (fun z=>nomatch z) fun tk=>⟨.bl b,H,I.tok _,rfl,q⟩
theorem qf(hc:X.calm=true):CallR X (.builtin "sum") (fun xs H Q=>∃(p:Addr) (ns:List Int),xs=[.ref p]/\SqT X.K H p (ns.map V.int)/\Q (.int ns.sum) H):=by
 intro pins s σ H xs us Q I r h;obtain⟨p,ns,rfl,hq,q⟩:=h;obtain⟨u,rfl,rx⟩:=eL r;cases (show u=yy p from rx);obtain⟨its,r',pl,hz⟩:=I.tuple hq;have hi:=mY r';obtain⟨ys,hy⟩:=hi.allInts.items;have hn:numsOf its.toArray.toList=ns:=by rw[show its.toArray.toList=its from rfl,hi.numsOf]
 rw[hy]at pl hn;rw[nums_intItems]at hn;refine ktm_sumG (I.ok.hd hc) pl fun h' tk t' hk=>?_;rw[preSum_eq,Zc (by simp),hn];exact⟨.int ns.sum,H,I.kept hk,⟨_,rfl⟩,q⟩
end
end L2
namespace L2
open PySem PySem.Spec PyProof.Rows
section
variable{X:Cx}{a b:Expr}{ta:TE}
def FH(xs ys:List V):Bool:=(Zj (min xs.length ys.length)).all (fun j=>eqV (xs.getD j .non) (ys.getD j .non))&&xs.length==ys.length
def B0(K:W.Frag)(neg:Bool):R2:=fun x y H Q=>∃p p' xs ys,x = .ref p/\y = .ref p'/\SqT K H p xs/\SqT K H p' ys/\xs.all dX=true/\ys.all dX=true/\Q (.bl (neg ^^ FH xs ys)) H
theorem mQ(r:Vals xs us)(r':Vals ys vs)(fx:xs.all dX=true)(fy:ys.all dX=true)(j:Nat)(h1:j<us.toArray.size)(h2:j<vs.toArray.size) :
 SeqAt.EqAt A s us.toArray[j] vs.toArray[j] (eqV (xs.getD j .non) (ys.getD j .non)):=by
 have e1:us[j]? = some us.toArray[j]:=by simp at h1;simp[h1]
 have e2:vs[j]? = some vs.toArray[j]:=by simp at h2;simp[h2]
 have l1:j<xs.length:=by rw[r.length];simpa using h1
 have l2:j<ys.length:=by rw[r'.length];simpa using h2
 have g1:xs[j]? = some (xs.getD j .non):=by simp[List.getD,l1]
 have g2:ys[j]? = some (ys.getD j .non):=by simp[List.getD,l2]
 obtain⟨u,hu,ru⟩:=r.get g1;obtain⟨v,hv,rv⟩:=r'.get g2;rw[e1]at hu;rw[e2]at hv;rw[se hu,se hv];exact uz ru rv (ZY.mp fx _ (xg g1)) (ZY.mp fy _ (xg g2))
theorem Gj(hu:X.A.units<cLine):OpR X (rB .Eq) (B0 X.K false):=by
 intro pins s σ H x y v u Q I rx ry h;obtain⟨p,p',xs,ys,rfl,rfl,hx,hy,fx,fy,q⟩:=h;cases (show v=yy p from rx);cases (show u=yy p' from ry);obtain⟨its,r,pl,hz⟩:=I.tuple hx;obtain⟨its',r',pl',hz'⟩:=I.tuple hy;refine SeqAt.eq_tupleAt pl pl' hu (fun j h1 h2=>mQ r r' fx fy j h1 h2) ⟨.bl _,H,I,rfl,?_⟩;rw[yg,yg,<- r.length,<- r'.length]
 simpa [FH] using q
theorem Fn(hu:X.A.units<cLine):OpR X (rB .NotEq) (B0 X.K true):=by
 intro pins s σ H x y v u Q I rx ry h;obtain⟨p,p',xs,ys,rfl,rfl,hx,hy,fx,fy,q⟩:=h;cases (show v=yy p from rx);cases (show u=yy p' from ry);obtain⟨its,r,pl,hz⟩:=I.tuple hx;obtain⟨its',r',pl',hz'⟩:=I.tuple hy;refine SeqAt.RcNeAt.tuples pl pl' hu (fun j h1 h2=>mQ r r' fx fy j h1 h2) X.prog X.w X.xe _ ⟨.bl _,H,I,rfl,?_⟩;rw[yg,yg,<- r.length,<- r'.length]
 simpa [FH] using q
theorem FO(hu:X.A.units<cLine):OpR X (rB .Eq) (fun x y H Q=>rEq x y H Q\/B0 X.K false x y H Q):=Hr.or (Gj hu)
theorem F8(hu:X.A.units<cLine):OpR X (rB .NotEq) (fun x y H Q=>rNe x y H Q\/B0 X.K true x y H Q):=Hq.or (Fn hu)
theorem xU:CallR X (.builtin "isinstance") (fun xs H Q=>(∃x c t u b,xs=[x,c]/\yc c u/\jc X.K H x t/\Yv X.K t u=some b/\Q (.bl b) H) \/
 ∃e c C u b,xs=[.ref e,c]/\yc c u/\H e=some (sS (.ref C) e)/\cK X.K C/\Yv X.K (.ref C) u=some b/\Q (.bl b) H):=tW.or pJ
end
abbrev T(l:List Nat):V:=.str ⟨⟨l⟩⟩
def cs(x:Str):List Nat:=x.cps.toList
theorem Ix(x:Str):V.str x=T (cs x):=rfl
section
variable{X:Cx}{e a b c:Expr}{pos:Pos}
theorem PE.imp(h:PE X e t)(i:∀σ H Q,t' σ H Q->t σ H Q):PE X e t':=fun pins s σ H Q I q=>h pins s σ H Q I (i σ H Q q)
theorem OpR.imp(h:OpR X f r)(i:∀x y H Q,r' x y H Q->r x y H Q):OpR X f r':=fun pins s σ H x y v u Q I rx ry q=>h pins s σ H x y v u Q I rx ry (i _ _ _ _ q)
theorem UnR.imp(h:UnR X f r)(i:∀x H Q,r' x H Q->r x H Q):UnR X f r':=fun pins s σ H x v Q I rx q=>h pins s σ H x v Q I rx (i _ _ _ q)
theorem CallR.imp(h:CallR X f r)(i:∀x H Q,r' x H Q->r x H Q):CallR X f r':=fun pins s σ H x v Q I rx q=>h pins s σ H x v Q I rx (i _ _ _ q)
theorem IxR.imp(h:IxR X r)(i:∀x y H Q,r' x y H Q->r x y H Q):IxR X r':=fun va sl pins s σ H x y v u Q I rx ry q hs=>h va sl pins s σ H x y v u Q I rx ry (i _ _ _ _ q) hs
def E4(i:Nat):TE:=fun σ H Q=>match σ[i]? with
 |some (some v)=>Q v H
 |_=>False
theorem fv(i:Nat)(hN:X.N[i]? = some x:=by rfl)(hv:Vis X.env.scope x:=by first|exact Or.inl rfl|exact Or.inr (Or.inl rfl)|exact Or.inr (Or.inr rfl))(hd:(x==("__debug__":Str))=false:=by decide)
 (hcd:(x==("__classdict__":Str))=false:=by decide):PE X (.Name x pos) (E4 i):=(FQ hN hv hd hcd).imp fun σ H Q h=>by
 unfold E4 at h;split at h
 ·exact⟨_,by assumption,h⟩
 ·exact h.elim
theorem aX{j}(l:List Nat)(h:x=⟨⟨l⟩⟩:=by decide +kernel):PE X (.Constant (.str x) j pos) (tC (T l)):=h ▸ Bm
def BC:R2
 | .int i,.int j,H,Q=>Q (.int (i+j)) H
 | .str i,.str j,H,Q=>(cs i).length+(cs j).length<=sizeLine/\Q (T (cs i++cs j)) H
 |_,_,_,_=>False
theorem F3(i j:Str):V.str (i++j)=T (cs i++cs j):=by
 show V.str ⟨i.cps++j.cps⟩=V.str ⟨⟨i.cps.toList++j.cps.toList⟩⟩
 congr 1
 congr 1
 exact(Array.ext' (by simp))
theorem aK:OpR X (binaryOp .Add) BC:=(Fs.or uF).imp fun x y H Q h=>by
 unfold BC at h;split at h
 ·exact .inl ⟨_,_,rfl,rfl,h⟩
 ·refine .inr ⟨_,_,rfl,rfl,by simpa [cs,Yn] using h.1,?_⟩
  rw[F3];exact h.2
 ·exact h.elim
def gI(g:Int->Int->V):R2
 | .int i,.int j,H,Q=>Q (g i j) H
 |_,_,_,_=>False
def gIC(C:Int->Int->Prop)(g:Int->Int->V):R2
 | .int i,.int j,H,Q=>C i j/\Q (g i j) H
 |_,_,_,_=>False
theorem A8:∀x y H Q,gI g x y H Q->rI0 g x y H Q:=fun x y H Q h=>by
 unfold gI at h;split at h
 ·exact⟨_,_,rfl,rfl,h⟩
 ·exact h.elim
theorem qS:∀x y H Q,gIC C g x y H Q->rI C g x y H Q:=fun x y H Q h=>by
 unfold gIC at h;split at h
 ·exact⟨_,_,rfl,rfl,h.1,h.2⟩
 ·exact h.elim
theorem eP:OpR X (binaryOp .Sub) (gI fun i j=>.int (i-j)):=EL.imp A8
theorem dl:OpR X (binaryOp .Mult) (gIC CMul fun i j=>.int (i*j)):=EH.imp qS
theorem a7:OpR X (binaryOp .Mod) (gIC (fun _ j=>0<j) fun i j=>.int (i % j)):=E6.imp qS
theorem a9:OpR X (binaryOp .FloorDiv) (gIC Gb fun i j=>.int (i / j)):=CW.imp qS
theorem ul:OpR X (binaryOp .Pow) (gIC Fr fun i j=>.int (i ^ j.toNat)):=FC.imp qS
def E8:V->Hp->VK->Prop
 | .int i,H,Q=>Q (.int (-i)) H
 |_,_,_=>False
theorem mT:UnR X (unaryOp .USub) E8:=FS.imp fun x H Q h=>by
 unfold E8 at h;split at h
 ·exact⟨_,rfl,h⟩
 ·exact h.elim
def leN(a b:List Nat):Bool:=!decide (b<a)
theorem yI:OpR X (rB .LtE) (fun x y H Q=>∃i j,x = .str i/\y = .str j/\Q (.bl (leN (cs i) (cs j))) H):=by
 intro pins s σ H x y v u Q I rx ry h;obtain⟨i,j,rfl,rfl,q⟩:=h;obtain⟨t,rfl⟩:=rx;obtain⟨t',rfl⟩:=ry;exact PySem.P.le_str ⟨.bl _,H,I,rfl,q⟩
def gLe:R2
 | .int i,.int j,H,Q=>Q (.bl (decide (i<=j))) H
 | .str i,.str j,H,Q=>Q (.bl (leN (cs i) (cs j))) H
 |_,_,_,_=>False
theorem eF:OpR X (rB .LtE) gLe:=(G9.or yI).imp fun x y H Q h=>by
 unfold gLe at h;split at h
 ·exact .inl ⟨_,_,rfl,rfl,h⟩
 ·exact .inr ⟨_,_,rfl,rfl,h⟩
 ·exact h.elim
def gLt:R2
 | .int i,.int j,H,Q=>Q (.bl (decide (i<j))) H
 | .str i,.str j,H,Q=>Q (.bl (decide (cs i<cs j))) H
 |_,_,_,_=>False
theorem nP:OpR X (rB .Lt) gLt:=(GG.or xA).imp fun x y H Q h=>by
 unfold gLt at h;split at h
 ·exact .inl ⟨_,_,rfl,rfl,h⟩
 ·exact .inr ⟨_,_,rfl,rfl,h⟩
 ·exact h.elim
theorem jL:OpR X (rB .Gt) (gI fun i j=>.bl (decide (j<i))):=HL.imp A8
theorem HD:OpR X (rB .GtE) (gI fun i j=>.bl (decide (j<=i))):=HE.imp A8
def eqS:V->V->Option Bool
 | .int i,.int j=>some (decide (i=j))
 | .bl i,.bl j=>some (decide (i=j))
 | .str i,.str j=>some (decide (cs i=cs j))
 | .non,.non=>some true
 | .non,.int _=>some false | .int _,.non=>some false | .non,.bl _=>some false | .bl _,.non=>some false | .non,.str _=>some false | .str _,.non=>some false
 | .int _,.str _=>some false | .str _,.int _=>some false | .bl _,.str _=>some false | .str _,.bl _=>some false
 |_,_=>none
theorem uD(i j:Str):V.str i=V.str j↔cs i=cs j:=by
 constructor
 ·intro h;injection h with h;rw[h]
 ·intro h
  congr 1
  obtain⟨⟨a⟩⟩:=i;obtain⟨⟨b⟩⟩:=j;have h':a=b:=h;rw[h']
theorem sO(h:eqS x y=some k):Fk x y=true/\decide (x=y)=k:=by
 unfold eqS at h;split at h <;> (first|cases h) <;> refine⟨rfl,?_⟩
 case h_1 i j=>exact decide_eq_decide.mpr (by simp)
 case h_2 i j=>exact decide_eq_decide.mpr (by simp)
 case h_3 i j=>exact decide_eq_decide.mpr (uD i j)
 all_goals simp
variable{ta tb tc:TE}{rest:List Expr}
def kB(Q:Bool->Hp->Prop):VK:=fun x H=>match x with
 | .bl k=>Q k H
 |_=>False
def m5(t:TE):TT:=fun σ H Q=>t σ H (kB Q)
theorem jM(h:kB Q x H):∃k,x = .bl k/\Q k H:=by
 unfold kB at h;split at h
 ·exact⟨_,rfl,h⟩
 ·exact h.elim
theorem jk(ho:OpR X (rB op) r)(ha:PE X a ta)(hb:PE X b tb)(hm:Yi op b=false):PT X (.Compare a [op] [b] pos) (m5 (tOp r ta tb)):=by
 intro pins s σ H Q I h;refine wpAny_isTrue_Compare1 (thn (ha pins s σ H _ I h) fun v s1 ⟨x,H1,I1,r1,q1⟩=>thn (hb pins s1 σ H1 _ I1 q1) fun u s2 ⟨y,H2,I2,r2,q2⟩=>
  thn (ho pins s2 σ H2 x y v u _ I2 r1 r2 q2) fun c s3 ⟨z,H3,I3,r3,q3⟩=>?_) hm
 obtain⟨k,e,q3⟩:=jM q3;subst e;cases r3;exact Zp ⟨H3,I3,q3⟩
theorem cY(h:PC X op a b t)(h1:Yi op b=false:=by first|exact sk _ (by decide) (by decide)|rfl):PT X (.Compare a [op] [b] pos) (m5 t):=by
 intro pins s σ H Q I hw;refine wpAny_isTrue_Compare1 (thn (h pins s σ H _ I hw) fun v s1 h1=>thn h1 fun u s2 h2=>thn h2 fun c s3 ⟨x,H1,I1,r1,q1⟩=>?_) h1;obtain⟨d,rfl,q⟩:=jM q1;cases r1;exact Zp ⟨H1,I1,q⟩
theorem bv(h:PE X e t)(he:∀whole,isTrue e X.env whole=(do let v <- whole;standAt e.pos;holding [v] (truthy v)):=by intro _;rfl):PT X e (m5 t):=by
 intro pins s σ H Q I hw;refine isTrue_plain (thn (h pins s σ H _ I hw) fun v s1 ⟨x,H1,I1,r1,q1⟩=>?_) (he _);obtain⟨d,rfl,q⟩:=jM q1;cases r1;exact Zp ⟨H1,I1,q⟩
def vh(r r':R2)(ta tb tc:TE):TE:=fun σ H Q=>ta σ H fun x H1=>tb σ H1 fun y H2=>r x y H2 (kB fun k H3=>if k=true then tc σ H3 fun w' H4=>r' y w' H4 Q else Q (.bl false) H3)
theorem jW(ho:OpR X (rB op) r)(ho':OpR X (rB op') r')(ha:PE X a ta)(hb:PE X b tb)(hc:PE X c tc)
 (hm:lastMarks [op,op'] [b,c]=false:=by with_unfolding_all rfl):PE X (.Compare a [op,op'] [b,c] pos) (vh r r' ta tb tc):=by
 intro pins s σ H Q I h;refine Compare_chain (thn (ha pins s σ H _ I h) fun v s1 ⟨x,H1,I1,r1,q1⟩=>chain_link (thn (hb pins s1 σ H1 _ I1 q1) fun u s2 ⟨y,H2,I2,r2,q2⟩=>
  thn (ho pins s2 σ H2 x y v u _ I2 r1 r2 q2) fun d s3 ⟨z,H3,I3,r3,q3⟩=>?_)) hm
 obtain⟨k,e,q3⟩:=jM q3;subst e;cases r3;refine Zp ?_;cases k with
 |false=>exact ite_ff ⟨.bl false,H3,I3,rfl,q3⟩
 |true=>exact ite_tt (chain_last (thn (hc pins s3 σ H3 _ I3 q3) fun w' s4 ⟨z',H4,I4,r4,q4⟩=>ho' pins s4 σ H4 y z' u w' Q I4 r2 r4 q4))
theorem sK(ho:OpR X (rB op) r)(ho':OpR X (rB op') r')(ha:PE X a ta)(hb:PE X b tb)(hc:PE X c tc)
 (hm:lastMarks [op,op'] [b,c]=false:=by with_unfolding_all rfl):PT X (.Compare a [op,op'] [b,c] pos) (m5 (vh r r' ta tb tc)):=by
 intro pins s σ H Q I h;refine isTrue_chain (thn (ha pins s σ H _ I h) fun v s1 ⟨x,H1,I1,r1,q1⟩=>test_link (thn (hb pins s1 σ H1 _ I1 q1) fun u s2 ⟨y,H2,I2,r2,q2⟩=>
  thn (ho pins s2 σ H2 x y v u _ I2 r1 r2 q2) fun d s3 ⟨z,H3,I3,r3,q3⟩=>?_)) hm
 obtain⟨k,e,q3⟩:=jM q3;subst e;cases r3;refine Zp ?_;cases k with
 |false=>exact ite_ff ⟨H3,I3,q3⟩
 |true=>
  refine ite_tt (test_last (thn (hc pins s3 σ H3 _ I3 q3) fun w' s4 ⟨z',H4,I4,r4,q4⟩=>thn (ho' pins s4 σ H4 y z' u w' _ I4 r2 r4 q4) fun d' s5 ⟨z2,H5,I5,r5,q5⟩=>?_));obtain⟨k2,e2,q5⟩:=jM q5;subst e2;cases r5;exact Zp ⟨H5,I5,q5⟩
def He(ta tb:TE):TE:=fun σ H Q=>ta σ H (kB fun c H1=>if c=true then tb σ H1 Q else Q (.bl false) H1)
def fOr(ta tb:TE):TE:=fun σ H Q=>ta σ H (kB fun c H1=>if c=true then Q (.bl true) H1 else tb σ H1 Q)
def Gv(ta:TE):TE:=fun σ H Q=>ta σ H (kB fun c H1=>Q (.bl (!c)) H1)
theorem dJ(ha:PE X a ta)(hb:PE X (.BoolOp .And (b::rest) pos) tb):PE X (.BoolOp .And (a::b::rest) pos) (He ta tb):=by
 intro pins s σ H Q I h;refine BoolOp_and (thn (ha pins s σ H _ I h) fun v s1 ⟨x,H1,I1,r1,q1⟩=>?_);obtain⟨c,rfl,q1⟩:=jM q1;cases r1;refine Zp ?_;cases c with
 |true=>exact hb pins s1 σ H1 Q I1 q1
 |false=>exact⟨.bl false,H1,I1,rfl,q1⟩
theorem Am(ha:PE X a ta)(hb:PE X (.BoolOp .Or (b::rest) pos) tb):PE X (.BoolOp .Or (a::b::rest) pos) (fOr ta tb):=by
 intro pins s σ H Q I h;refine BoolOp_or (thn (ha pins s σ H _ I h) fun v s1 ⟨x,H1,I1,r1,q1⟩=>?_);obtain⟨c,rfl,q1⟩:=jM q1;cases r1;refine Zp ?_;cases c with
 |false=>exact hb pins s1 σ H1 Q I1 q1
 |true=>exact⟨.bl true,H1,I1,rfl,q1⟩
theorem FP(ha:PE X a ta):PE X (.UnaryOp .Not a pos) (Gv ta):=by
 intro pins s σ H Q I h;refine UnaryOp_ (thn (ha pins s σ H _ I h) fun v s1 ⟨x,H1,I1,r1,q1⟩=>?_);obtain⟨c,rfl,q1⟩:=jM q1;cases r1;exact not_of (Zp ⟨.bl (!c),H1,I1,rfl,q1⟩)
def Id:List V->Hp->VK->Prop
 | [.int i],H,Q=>Q (.int (if i<0 then -i else i)) H
 |_,_,_=>False
def Fx:List V->Hp->VK->Prop
 | [.int i,.int j],H,Q=>Q (.int (if j<i then j else i)) H
 |_,_,_=>False
theorem Ac(hc:X.calm=true):CallR X (.builtin "min") Fx:=(yB hc).imp fun x H Q h=>by
 unfold Fx at h;split at h
 ·exact⟨_,_,rfl,h⟩
 ·exact h.elim
def EO:List V->Hp->VK->Prop
 | [.int i,.int j],H,Q=>Q (.int (if j > i then j else i)) H
 |_,_,_=>False
theorem Ev(hc:X.calm=true):CallR X (.builtin "max") EO:=(xY hc).imp fun x H Q h=>by
 unfold EO at h;split at h
 ·exact⟨_,_,rfl,h⟩
 ·exact h.elim
def C4(K:W.Frag):List V->Hp->VK->Prop
 | [.str y],H,Q=>(cs y).length<=sizeLine/\Q (.int (cs y).length) H
 | [.ref p],H,Q=>∃xs,(SqL K H p xs\/SqT K H p xs)/\Q (.int xs.length) H
 |_,_,_=>False
theorem Go:CallR X (.builtin "len") (C4 X.K):=Bk.imp fun x H Q h=>by
 unfold C4 at h;split at h
 ·exact⟨_,_,rfl,⟨by simpa [cs,Yn] using h.1,rfl⟩,by simpa [cs,Yn] using h.2⟩
 ·obtain⟨xs,hx,q⟩:=h
  rcases hx with hx|hx
  ·exact⟨_,_,rfl,.inl ⟨xs,hx,rfl⟩,q⟩
  ·exact⟨_,_,rfl,.inr ⟨xs,hx,rfl⟩,q⟩
 ·exact h.elim
def hX(H:Hp):V->Option String
 | .non=>some "NoneType"
 | .bl _=>some "bool"
 | .int _=>some "int"
 | .str _=>some "str"
 | .ref p=>match H p with
  |some (.lst _)=>some "list"
  |some (.frz _ (.lst _))=>some "list"
  |some (.tup _)=>some "tuple"
  |some (.dK _)=>some "dict"
  |_=>none
 |_=>none
def bP(t n:String):Bool:=t==n || (t == "bool" && n == "int")
def iZ(t:String):Prop:=t = "NoneType" \/ t = "bool" \/ t = "int" \/ t = "str" \/ t = "list" \/ t = "tuple" \/ t = "dict"
theorem Hv{K:W.Frag}{t n:String}(h:iZ t)(hn:n = "int" \/ n = "bool" \/ n = "str" \/ n = "list" \/ n = "tuple" \/ n = "dict"):Yv K (.type t) (.type n)=some (bP t n):=by
 rcases h with rfl|rfl|rfl|rfl|rfl|rfl|rfl <;> rcases hn with rfl|rfl|rfl|rfl|rfl|rfl <;> kernel_rfl
theorem yR{K:W.Frag}{H:Hp}{x:V}{t:String}(h:hX H x=some t):jc K H x (.type t)/\iZ t:=by
 unfold hX at h;split at h
 ·cases h;exact⟨.non,by simp[iZ]⟩
 ·cases h;exact⟨.bl _,by simp[iZ]⟩
 ·cases h;exact⟨.int _,by simp[iZ]⟩
 ·cases h;exact⟨.str _,by simp[iZ]⟩
 ·split at h
  ·rename_i e;cases h;exact⟨.lst e,by simp[iZ]⟩
  ·rename_i e;cases h;exact⟨.frz e,by simp[iZ]⟩
  ·rename_i e;cases h;exact⟨.tup e,by simp[iZ]⟩
  ·rename_i e;cases h;exact⟨.dK e,by simp[iZ]⟩
  ·cases h
 ·cases h
def ua(n:String):Bool:=n == "int" || n == "bool" || n == "str" || n == "list" || n == "tuple" || n == "dict"
def Cw(K:W.Frag):List V->Hp->VK->Prop
 | [x,.ty n],H,Q=>(match hX H x with
  |some t=>ua n=true/\Q (.bl (bP t n)) H
  |none=>∃e C b,x = .ref e/\H e=some (sS (.ref C) e)/\cK K C/\Yv K (.ref C) (.type n)=some b/\Q (.bl b) H)
 | [.ref e,.ref D],H,Q=>∃C b,H e=some (sS (.ref C) e)/\cK K C/\Yv K (.ref C) (.ref D)=some b/\Q (.bl b) H
 |_,_,_=>False
theorem EF:CallR X (.builtin "isinstance") (Cw X.K):=xU.imp fun xs H Q h=>by
 unfold Cw at h;split at h
 ·rename_i x n
  split at h
  ·rename_i t ht
   obtain⟨ty,hb⟩:=yR (K:=X.K) ht;obtain⟨hn,q⟩:=h;refine .inl ⟨x,_,_,_,_,rfl,.ty n,ty,Hv hb ?_,q⟩
   simpa [ua,or_assoc] using hn
  ·obtain⟨e,C,b,rfl,he,Z,k,q⟩:=h
   exact .inr ⟨e,_,C,_,b,rfl,.ty n,he,Z,k,q⟩
 ·rename_i e D
  obtain⟨C,b,he,Z,k,q⟩:=h;exact .inr ⟨e,_,C,_,b,rfl,.own D,he,Z,k,q⟩
 ·exact h.elim
end
section
variable{X:Cx}{a b:Expr}{ta tb:TE}{pos pos':Pos}
def gIx(K:W.Frag):R2
 | .str z,.int i,H,Q=>(cs z).length<=sizeLine/\(match atI (cs z) i with
  |some c=>Q (T [c]) H
  |none=>False)
 | .ref p,.int i,H,Q=>∃xs v,(SqL K H p xs\/SqT K H p xs)/\atI xs i=some v/\Q v H
 |_,_,_,_=>False
theorem Er:IxR X (gIx X.K):=F_.imp fun x y H Q h=>by
 unfold gIx at h;split at h
 ·obtain⟨hz,h⟩:=h
  split at h
  ·rename_i c hc
   exact .inr (.inr ⟨_,_,c,rfl,rfl,by simpa [cs,Yn] using hz,hc,h⟩)
  ·exact h.elim
 ·obtain⟨xs,v,hs|hs,hv,q⟩:=h
  ·exact .inl ⟨_,xs,_,v,rfl,rfl,hs,hv,q⟩
  ·exact .inr (.inl ⟨_,xs,_,v,rfl,rfl,hs,hv,q⟩)
 ·exact h.elim
def mS(xs:List V)(H H1:Hp)(Q:VK):V->Prop
 | .int i=>(match atI xs i with
  |some (.ref q)=>H q=none/\(match H1 q with
   |some o=>jo o=true/\Q (.ref q) (upd H q o)
   |none=>False)
  |some v=>Q v H
  |none=>False)
 |_=>False
def BE(ta:TA)(ti:TE):TE:=fun σ H Q=>NoT H/\ta σ H fun xs H1=>Same H H1/\xs.length<=sizeLine/\∀p,H1 p=none->ti σ (upd H1 p (.lst xs)) fun y H2=>H2=upd H1 p (.lst xs)/\mS xs H H1 Q y
theorem zu(s:Same H H1)(hp:H1 p=none)(h:mS xs H H1 Q y):∃i v G,y = .int i/\atI xs i=some v/\Gc H G (upd H1 p o)/\Q v G:=by
 unfold mS at h;have s2:Same H (upd H1 p o):=s.trans (au o hp);split at h
 ·rename_i i
  split at h
  ·rename_i q hq
   obtain⟨hn,h⟩:=h;split at h
   ·rename_i o' ho'
    exact⟨i,_,_,rfl,hq,Gc.one s2 hn (by rw[ah (aC ho' hp)];exact ho') h.1,h.2⟩
   ·exact h.elim
  ·rename_i v _ hv
   exact⟨i,v,H,rfl,hv,Gc.none s2,h⟩
  ·exact h.elim
 ·exact h.elim
theorem rn(ha:PA X es t)(hb:PE X b tb)(hs:qF b):PE X (.Subscript (.List es pos') b pos) (BE t tb):=by
 intro pins s σ H Q I h;obtain⟨n,h⟩:=h;refine Subscript_ (wpAny_List_spliced (thn (ha pos' pins s σ H _ I h) fun us s1 ⟨xs,H1,I1,r,sm,z,q⟩=>⟨by rw[<- r.length];exact z,?_⟩));have hf:H1 s1.heap.objs.size=none:=I1.hok.fresh (z4 _);refine thn (hb pins _ σ (upd H1 s1.heap.objs.size (.lst xs)) _ (I1.laid (t':=s1.toks) (fun b u e=>Heap.get?_push_of_some _ e) (z4 _) ⟨z,us,0,r,Heap.get?_push_size _ rfl⟩) (q _ hf)) fun u s3 ⟨y,H3,I3,ry,e,k⟩=>?_;subst e;obtain⟨i,v,G,rfl,hv,g,hq⟩:=zu (o:=.lst xs) sm hf k;exact thn (vS (.List es pos') b pins s3 σ _ (.ref _) (.int i) _ u (fun v' H'=>v'=v/\H'=upd H1 s1.heap.objs.size (.lst xs)) I3 rfl ry ⟨_,xs,i,v,rfl,rfl,SqL.of ad,hv,rfl,rfl⟩ (hs _ _))
  fun u' s4 ⟨v',H4,I4,r4,e1,e2⟩=>⟨v,G,I.gc n (e2 ▸ I4) g,e1 ▸ r4,hq⟩
end
def sp0(f:Hp->VK->XK->Prop):Sp:=fun vs H Q E=>match vs with
 | []=>f H Q E
 |_=>False
def sp1(f:V->Hp->VK->XK->Prop):Sp:=fun vs H Q E=>match vs with
 | [x]=>f x H Q E
 |_=>False
def sp2(f:V->V->Hp->VK->XK->Prop):Sp:=fun vs H Q E=>match vs with
 | [x,y]=>f x y H Q E
 |_=>False
def sp3(f:V->V->V->Hp->VK->XK->Prop):Sp:=fun vs H Q E=>match vs with
 | [x,y,z]=>f x y z H Q E
 |_=>False
def sp4(f:V->V->V->V->Hp->VK->XK->Prop):Sp:=fun vs H Q E=>match vs with
 | [x,y,z,u]=>f x y z u H Q E
 |_=>False
section
variable{vs:List V}{H:Hp}{Q:VK}{E:XK}
theorem sp1.inv{f}(h:sp1 f vs H Q E):∃x,vs=[x]/\f x H Q E:=by
 unfold sp1 at h;split at h
 ·exact⟨_,rfl,h⟩
 ·exact h.elim
theorem sp2.inv{f}(h:sp2 f vs H Q E):∃x y,vs=[x,y]/\f x y H Q E:=by
 unfold sp2 at h;split at h
 ·exact⟨_,_,rfl,h⟩
 ·exact h.elim
theorem sp3.inv{f}(h:sp3 f vs H Q E):∃x y z,vs=[x,y,z]/\f x y z H Q E:=by
 unfold sp3 at h;split at h
 ·exact⟨_,_,_,rfl,h⟩
 ·exact h.elim
theorem sp4.inv{f}(h:sp4 f vs H Q E):∃x y z u,vs=[x,y,z,u]/\f x y z u H Q E:=by
 unfold sp4 at h;split at h
 ·exact⟨_,_,_,_,rfl,h⟩
 ·exact h.elim
theorem sp1.len{f}(h:sp1 f vs H Q E):vs.length=1:=by obtain⟨_,rfl,_⟩:=sp1.inv h;rfl
theorem sp2.len{f}(h:sp2 f vs H Q E):vs.length=2:=by obtain⟨_,_,rfl,_⟩:=sp2.inv h;rfl
theorem sp3.len{f}(h:sp3 f vs H Q E):vs.length=3:=by obtain⟨_,_,_,rfl,_⟩:=sp3.inv h;rfl
theorem sp4.len{f}(h:sp4 f vs H Q E):vs.length=4:=by obtain⟨_,_,_,_,rfl,_⟩:=sp4.inv h;rfl
end
def asI(x:V)(f:Int->Prop):Prop:=match x with
 | .int i=>f i
 |_=>False
def asT(x:V)(f:List Nat->Prop):Prop:=match x with
 | .str y=>f (cs y)
 |_=>False
def asB(x:V)(f:Bool->Prop):Prop:=match x with
 | .bl y=>f y
 |_=>False
def asR(x:V)(f:Addr->Prop):Prop:=match x with
 | .ref y=>f y
 |_=>False
theorem asI.inv(h:asI x f):∃i,x = .int i/\f i:=by
 unfold asI at h;split at h
 ·exact⟨_,rfl,h⟩
 ·exact h.elim
theorem asT.inv(h:asT x f):∃l,x=T l/\f l:=by
 unfold asT at h;split at h
 ·exact⟨_,rfl,h⟩
 ·exact h.elim
theorem asR.inv(h:asR x f):∃i,x = .ref i/\f i:=by
 unfold asR at h;split at h
 ·exact⟨_,rfl,h⟩
 ·exact h.elim
def asK(H:Hp)(x:V)(f:String->Prop):Prop:=match hX H x with
 |some t=>f t
 |none=>False
theorem Gp{ns:List Int}{k:Int}(h0:0<=k)(h1:k<ns.length):atI (ns.map V.int) k=some (.int (ns.getD k.toNat 0)):=by
 obtain⟨j,rfl⟩:∃j:Nat,k=j:=⟨k.toNat,by lia⟩;refine av ?_;have l:j<ns.length:=by lia
 simp[List.getD,l]
theorem pq{ns:List Int}{i:Int}(h0:0<=i)(h1:i<ns.length)(q:Q (.int (ns.getD i.toNat 0)) H):mS (ns.map V.int) H H1 Q (.int i):=by
 unfold mS;simp only[Gp h0 h1];exact q
section
variable{X:Cx}(K:W.Frag)
theorem eA(h:X.K=K:=by rfl):CallR X (.builtin "isinstance") (Cw K):=h ▸ EF
theorem bj(h:X.K=K:=by rfl):CallR X (.builtin "len") (C4 K):=h ▸ Go
theorem Cq(h:X.K=K:=by rfl):IxR X (gIx K):=h ▸ Er
theorem mi(h:X.K=K:=by rfl):SlR X (GU K):=h ▸ E5
theorem iO(hl:PE X l tl)(h:X.K=K:=by rfl):PI X tg l (w6 K tl):=h ▸ Ew hl
theorem bF(hl:PE X l tl)(h:X.K=K:=by rfl):PI X tg l (mP K tl):=h ▸ CZ hl
end
theorem Hg:hX H (.bl b)=some "bool":=rfl
theorem Fm:hX H (.int i)=some "int":=rfl
theorem Fu:hX H (.str s)=some "str":=rfl
theorem F7:hX H .non=some "NoneType":=rfl
theorem F1:ua "int" = true:=by decide
theorem lQ:bP "NoneType" "int" = false:=by decide
theorem rF:bP "bool" "int" = true:=by decide
theorem vD:bP "int" "int" = true:=by decide
theorem vx:bP "str" "int" = false:=by decide
theorem sf:bP "list" "int" = false:=by decide
theorem pY:bP "tuple" "int" = false:=by decide
theorem sJ:bP "dict" "int" = false:=by decide
theorem Dy:ua "bool" = true:=by decide
theorem kf:bP "NoneType" "bool" = false:=by decide
theorem qc:bP "bool" "bool" = true:=by decide
theorem rP:bP "int" "bool" = false:=by decide
theorem tE:bP "str" "bool" = false:=by decide
theorem pI:bP "list" "bool" = false:=by decide
theorem oH:bP "tuple" "bool" = false:=by decide
theorem pK:bP "dict" "bool" = false:=by decide
theorem Gm:ua "str" = true:=by decide
theorem lJ:bP "NoneType" "str" = false:=by decide
theorem sZ:bP "bool" "str" = false:=by decide
theorem vk:bP "int" "str" = false:=by decide
theorem vo:bP "str" "str" = true:=by decide
theorem rp:bP "list" "str" = false:=by decide
theorem qr:bP "tuple" "str" = false:=by decide
theorem rA:bP "dict" "str" = false:=by decide
theorem Cu:ua "list" = true:=by decide
theorem j7:bP "NoneType" "list" = false:=by decide
theorem qA:bP "bool" "list" = false:=by decide
theorem rZ:bP "int" "list" = false:=by decide
theorem sB:bP "str" "list" = false:=by decide
theorem ra:bP "list" "list" = true:=by decide
theorem om:bP "tuple" "list" = false:=by decide
theorem pV:bP "dict" "list" = false:=by decide
theorem zU:ua "tuple" = true:=by decide
theorem jY:bP "NoneType" "tuple" = false:=by decide
theorem oq:bP "bool" "tuple" = false:=by decide
theorem qP:bP "int" "tuple" = false:=by decide
theorem qq:bP "str" "tuple" = false:=by decide
theorem oI:bP "list" "tuple" = false:=by decide
theorem nr:bP "tuple" "tuple" = true:=by decide
theorem n9:bP "dict" "tuple" = false:=by decide
theorem B2:ua "dict" = true:=by decide
theorem ka:bP "NoneType" "dict" = false:=by decide
theorem pO:bP "bool" "dict" = false:=by decide
theorem rD:bP "int" "dict" = false:=by decide
theorem rW:bP "str" "dict" = false:=by decide
theorem pT:bP "list" "dict" = false:=by decide
theorem oy:bP "tuple" "dict" = false:=by decide
theorem qR:bP "dict" "dict" = true:=by decide
theorem GN:asK H (.bl b) f=f "bool":=rfl
theorem FT:asK H (.int i) f=f "int":=rfl
theorem FZ:asK H (.str i) f=f "str":=rfl
theorem Gi:asK H .non f=f "NoneType":=rfl
def bI:Expr->Bool
 | .Starred _ _=>false
 |_=>true
theorem xV(h:bI e=true):starEach (e::es) env=(false,eval e env)::starEach es env:=by
 cases e <;> first|rfl|cases h
structure FA(X:Cx)(es:List Expr)(t:TA):Prop where
 pa:PA X es t
theorem di:FA X [] jP:=⟨Ge⟩
theorem aY(ha:PE X e te)(hr:FA X es t)(h:bI e=true:=by rfl):FA X (e::es) (cg te t):=⟨Ds ha hr.pa (xV h)⟩
theorem CA{H:Hp}{P:Hp->Prop}:(∃G,Gc H G H/\P G)↔P H:=by
 constructor
 ·rintro⟨G,g,p⟩
  have e:G=H:=by
   funext b;cases h:H b with
   |none=>exact g.b.free h
   |some o=>exact g.a b o h
  rw[<- e];exact p
 ·exact fun p=>⟨H,Gc.refl,p⟩
theorem Iq{CX:CXT}{P:Program}{w:World}{K:W.Frag}{mg:Str->Option Value}{base:Heap}{N:List Str}{qual:Str}{scope:Scope}{f:Addr}{cd:Value}{A:Around}{outer:List Env}{s:Shared}{H:Hp}{E:XK} :
 (bW CX P w K mg base N qual scope f cd A outer s H E).K=K:=rfl
def isI:V->Bool
 | .int _=>true
 |_=>false
def isS:V->Bool
 | .str _=>true
 |_=>false
theorem yj:Same H H↔True:=⟨fun _=>trivial,fun _=>Same.refl H⟩
theorem aA(hN:NoT H)(d:ig o=true):NoT (upd H p o):=hN.upd d
theorem CO:isI (.int i)=true:=rfl
theorem Eu:isI (.bl i)=false:=rfl
theorem Cs:isI (.str i)=false:=rfl
theorem Dw:isI (.ref i)=false:=rfl
theorem C2  : isI (.non)=false:=rfl
theorem Cz:isS (.int i)=false:=rfl
theorem EY:isS (.bl i)=false:=rfl
theorem C_:isS (.str i)=true:=rfl
theorem Cf:isS (.ref i)=false:=rfl
theorem Di  : isS (.non)=false:=rfl
theorem BF(h:xR H):NoT H:=fun b o e=>by
 rcases h b with z|⟨ob,xs,z⟩
 ·rw[e]at z;cases z
 ·rw[e]at z;cases z;rfl
def gcE(H:Hp)(E:XK):XK:=fun C d H'=>∃G,Gc H G H'/\E C d G
theorem Fun.okG{P:Program}{w:World}{K:W.Frag}{mg:Str->Option Value}{base:Heap}{x qual:Str}{st:Stmt}{f:Addr}{fd:FuncData}{N ps:List Str}{k:Nat}{sp:Sp}(F:Fun K x qual st f fd)(S:bd N ps (ae st))
 (len:∀vs H Q E,sp vs H Q E->vs.length=ps.length)
 (hbody:∀(cdv:Value) (A:Around) (outer:List Env) (s:Shared) (H:Hp) (vs:List V) (Q:VK) (E:XK),Room k (A.deeper (envOfC qual (ae st) s.heap.objs.size f cdv))->sp vs H Q E ->
  NoT H/\∃t,PSs (bW (XE P w) P w K mg base N qual (ae st) f cdv A outer s H (gcE H E)) (aq st) t/\t { nx:=fun _ H'=>∃G,Gc H G H'/\Q .non G,rt:=fun v H'=>∃G,Gc H G H'/\Q v G } (eU N vs) H):hU P w K mg base (XE P w) (k+1) f fd ps sp:=by
 have F':hU P w K mg base (XE P w) (k+1) f fd ps (fun vs H Q' E'=>∃Q E,sp vs H Q E/\Q'=(fun v H'=>∃G,Gc H G H'/\Q v G)/\E'=gcE H E):=by
  refine F.okX S (fun vs H Q' E' ⟨Q,E,h,_⟩=>len vs H Q E h) (fun cdv A outer s H vs Q' E' hr h=>?_);obtain⟨Q,E,h,rfl,rfl⟩:=h;exact(hbody cdv A outer s H vs Q E hr h).2
 refine⟨len,fun A outer s H args us vs Q E hr e0 hb r hsp=>?_⟩;have nT:NoT H:=by
  obtain⟨oc,od,kV,doc,pm,an,cdv,ct,osl,rfl,lk,hcd⟩:=F.ex;exact(hbody cdv A outer s H vs Q E (hr.deeper _) hsp).1
 refine YR (F'.run A outer s H args us vs _ _ hr e0 hb r ⟨Q,E,hsp,rfl,rfl⟩) fun res s' h=>?_;cases res with
 |error e=>
  obtain⟨ea,C,rs,H',h1,h2,h3,un,hok,hrs,fly,G,g,q⟩:=h;exact⟨ea,C,rs,G,h1,h2,h3,un.gc g,HOk.gc nT e0.hok hok g,fun b hb=>⟨(hrs b hb).1,g.b.free (hrs b hb).2⟩,fly,q⟩
 |ok fl=>
  cases fl with
  |ret u=>
   obtain⟨v,H',h1,h2,un,hok,rv,G,g,q⟩:=h;exact⟨v,G,h1,h2,un.gc g,HOk.gc nT e0.hok hok g,rv,q⟩
  |next=>exact h
  |brk=>exact h
  |cont=>exact h
section
variable{K:W.Frag}{C D:Addr}{b:Bool}{cl:ClassData}
theorem w4(o:PySem.W.clsIn K D=some cl)(t:PySem.W.typeIn K (.ref D)=some (.type "type"))(m:YG K C (.ref D)=some b):PySem.W.kitCls K (.ref C) (.ref D)=some b:=by
 unfold PySem.W.kitCls;simp only[o,t,Option.isSome_some,beq_self_eq_true,Bool.and_self,if_true];exact m
theorem xW(o:PySem.W.clsIn K D=some cl)(t:PySem.W.typeIn K (.ref D)=some (.type "type"))(s:YG K D (.type "BaseException")=some true)(m:YG K C (.ref D)=some b):ZZ K (.ref C) (.ref D)=some b:=by
 unfold ZZ;have e:PySem.W.subIn K (.ref D) (.type "BaseException")=some true:=s;rw[e,if_pos (by rfl)];exact w4 o t m
end
theorem zR{l:PySem.W.OpenLaw}{n k:Nat}{q:Program}{loose:List Str}{XP:(Str->Option Value)->Heap->Prop}{YP:World->Heap->Prop}{d:DefRec}{K:Params->W.Frag}{sp:W.Frag->Sp}{x:Str}
 (hn:l.most=some n) (hn2:n<=sizeLine) (hdf:d.params.defaults=[]) (hr:Room k callerA)
 (hY:∀(w:World) (h:Heap),YP w h->(K w.params).In h)
 (F:∀(w:World) (mg:Str->Option Value) (fa:Addr) (h:Heap),(K w.params).In h->h.Ns ZL mg->mg d.name=some (.ref fa) ->
  ∃fd:FuncData,(∀(s:Shared) (u:Value),BindsTo s fd ⟨[u],[]⟩ [(x,u)]) /\
   ∀base:Heap,(K w.params).In base->base.Ns ZL mg->hU l.prog w (K w.params) mg base (XE l.prog w) k fa fd [x] (sp (K w.params)))
 (hsp:∀(K:W.Frag) (H:Hp) (a:Addr) (ns:List Int),ns.length<=n->xR H->SqL K H a (ns.map V.int)->sp K [.ref a] H (fun v _=>v = .bl true) fun _ _ _=>False) :
 PySem.W.WalkO q loose XP YP l.row.toRowW d [] (fun f vs=>PySem.call f vs):=
 B7 (K:=K) (CX:=fun w=>XE l.prog w) (sp:=fun w=>sp (K w.params)) hn hn2 hdf hr hY F (fun w H a ns h1 h2 h3=>hsp (K w.params) H a ns h1 h2 h3) fun w H s e s' ⟨_,_,_,_,_,_,_,_,_,_,_,z⟩=>z
section
variable{prog:Program}{w:World}{A:Around}{R:Result->Shared->Prop}{s:Shared}
theorem rj(I:Nat->Shared->Prop)
 (turn:∀n s,I n s->wpAny (model prog w) A (pyNext it) (fun r s₁=>match r with
  |none=>R (.ok .next) s₁
  |some v=>wpAny (model prog w) A (XV target it v) (fun _ s₁'=>wpAny (model prog w) A (assign target env v) (fun _ s₂=>
   wpAny (model prog w) A (forIn ifs true fun c r=>if r=true then do let ok <- isTrue c env (eval c env);pure (ForInStep.yield ok) else pure (ForInStep.yield r)) (fun ok s₃=>
    if ok=true then wpAny (model prog w) A (eval elt env) (fun x s₄=>
     wpAny (model prog w) A (call (.builtin "list.append") [acc,x]) (fun _ s₅=>∃m,m<n/\I m s₅) (notedBy (model prog w) A env fun e s'=>R (.error e) s') s₄) (notedBy (model prog w) A env fun e s'=>R (.error e) s') s₃
    else ∃m,m<n/\I m s₃) (notedBy (model prog w) A env fun e s'=>R (.error e) s') s₂) (notedBy (model prog w) A env fun e s'=>R (.error e) s') s₁') (notedBy (model prog w) A env fun e s'=>R (.error e) s') s₁) (notedBy (model prog w) A env fun e s'=>R (.error e) s') s)
 (n:Nat) (h:I n s) :
 codeAny (model prog w) A (.compLoop (.ListComp elt [⟨target,iter,ifs,0⟩] scope pos) 0 it acc env) R s:=by
 refine codeAny_loop rfl I (fun n s hI=>?_) n h;show wpAny _ A ((compTurn (.ListComp elt [⟨target,iter,ifs,0⟩] scope pos) 0 it acc env).onRaise (fun x=>do noteFrame x env;theTreesLotGoes x)) _ _ s;refine wpAny_noted ?_;rw[compTurn_list];refine zm (Y7 (zm (qN (turn n s hI) (fun r s₁ h₁=>?_) fun _ _ h'=>h')));cases r with
 |none=>exact za h₁
 |some v=>
  refine zm (qN h₁ (fun _ s₁' h₁'=>?_) fun _ _ h'=>h');refine zm (qN h₁' (fun _ s₂ h₂=>zm (qN h₂ (fun ok s₃ h₃=>?_) fun _ _ h'=>h')) fun _ _ h'=>h');cases ok with
  |false=>exact za ⟨rfl,h₃⟩
  |true=>
   exact zm (zm (qN h₃ (fun x s₄ h₄=>zm (qN h₄ (fun _ s₅ h₅=>za (za ⟨rfl,h₅⟩)) fun _ _ h'=>h')) fun _ _ h'=>h'))
end
def cV(X:Cx)(N:List Str)(scope:Scope)(cl:List (Str × Addr))(C:Addr)(s₂:Shared)(H₂:Hp)(ex:List Addr)(pn:List (Addr × Obj)):Cx:=
 { X with N:=N,s₀:=s₂,H₀:=H₂,env:=compEnvC scope cl C X.env,outer:=X.stack,stack:=X.stack,ex:=ex,fn:=fun _=>false,pn:=pn,xe:=fun _ _=>False }
structure CompScope(X:Cx)(scope:Scope)(cl:List (Str × Addr))(x:Str)(fr:List Str):Prop where
 clos:closureFor scope X.env=pure cl
 nocell:∀y∈scope.names,y.2 ≠ .cell
 kind:scope.kind = .function
 names:∀y∈scope.names,y.2 = .local->scope.names.lookup y.1=some .local
 own:scope.names.lookup x=some .local
 keys:∀y∈cl,y.1∈fr
 cells:fr.map (fun y=>cl.lookup y)=fr.map (fun y=>X.env.cells.lookup y)
 kinds:∀y∈fr,X.env.kindOf y=some .cell\/X.env.kindOf y=some .free
 kin:∀y∈fr,(relabel scope X.env).names.lookup y=some .cell\/(relabel scope X.env).names.lookup y=some .free
 only:∀y,((relabel scope X.env).names.lookup y=some .cell\/(relabel scope X.env).names.lookup y=some .free)->y∈fr
theorem uA{α:Type}{l:List (Str × α)}{y:Str}{c:α}(h:l.lookup y=some c):(y,c)∈l:=Z5 h
theorem CompScope.cell(S:CompScope X scope cl x fr)(h:y∈fr):cl.lookup y=X.env.cells.lookup y:=by
 have e:=S.cells;obtain⟨i,hi,rfl⟩:=Xb h;have:=congrArg (fun l=>l[i]?) e
 simpa [hi] using this
theorem CompScope.sub{X:Cx}{scope:Scope}{cl:List (Str × Addr)}{x:Str}{fr:List Str}(S:CompScope X scope cl x fr){y:Str}{c:Addr}(h:cl.lookup y=some c):X.env.cells.lookup y=some c:=by
 rw[<- S.cell (S.keys _ (uA h))];exact h
def PTs(X:Cx)(ifs:List Expr)(t:TT):Prop:=
 ∀(pins:List (Addr × Obj)) (s:Shared) (σ:St) (H:Hp) (Q:Bool->Hp->Prop),Inv X pins σ H s->t σ H Q ->
  wpAny (model X.prog X.w) X.A (forIn ifs true fun c r=>if r=true then do let ok <- isTrue c X.env (eval c X.env);pure (ForInStep.yield ok) else pure (ForInStep.yield r)) (TP X pins σ Q) X.xe s
theorem dN:PTs X [] (fun _ H Q=>Q true H):=fun pins s σ H Q I h=>wpAny_tests_nil ⟨H,I,h⟩
theorem dO(h:PT X c t):PTs X [c] t:=fun pins s σ H Q I hw=>wpAny_tests_one (h pins s σ H Q I hw)
end L2
namespace MT
def dg(n:Nat):List Nat:=(Nat.toDigits 10 n).map Char.toNat
def isD(c:Nat):Bool:=decide (48<=c)&&decide (c<=57)
def vl(t:List Nat):Nat:=t.foldl (fun n c=>10*n+(c-48)) 0
def nin(t:List Nat):Nat:=t.foldl (fun n c=>if isD c then 10*n+(c-48) else n) 0
def fg(t:List Nat):List Nat:=if t.take 1=[45] then t.drop 1 else t
def good(t:List Nat):Prop:=fg t≠[]/\(∀c∈fg t,isD c=true)/\((fg t).head? = some 48->t=[48])
def pd:Nat->Nat->List Nat
 |0,_=>[]
 |k+1,m=>pd k (m / 10)++[48+m % 10]
end MT
namespace L2
open PySem PySem.Spec PyProof.Rows Builtin Builtin.Str
section
variable{X:Cx}{e a b c:Expr}{pos:Pos}
def gIn(neg:Bool):R2
 | .str i,.str j,H,Q=>(match cs i with
  | [c]=>Q (.bl (neg ^^ decide (c∈cs j))) H
  |_=>False)
 |_,_,_,_=>False
theorem vz{i:Str}{c:Nat}(h:cs i=[c]):i=⟨#[c]⟩:=by
 obtain⟨⟨l⟩⟩:=i;have h':l=[c]:=h;rw[h']
theorem DD:OpR X (rB .In) (gIn false):=xE.imp fun x y H Q h=>by
 unfold gIn at h;split at h
 ·split at h
  ·rename_i i j c hc
   refine⟨_,_,rfl,rfl,?_⟩;rw[vz hc,PySem.StrLaws.found_one]
   simpa [cs] using h
  ·exact h.elim
 ·exact h.elim
def gz(l:List Nat)(lo hi:Option Int):List Nat:=(l.drop (HT.sIx l.length 0 lo)).take (HT.sIx l.length l.length hi-HT.sIx l.length 0 lo)
def gSl:V->Option Int->Option Int->Hp->VK->Prop
 | .str y,lo,hi,H,Q=>(cs y).length<=sizeLine/\Q (T (gz (cs y) lo hi)) H
 |_,_,_,_,_=>False
theorem EX(lo hi:Option Int)(n:Nat):Xs lo hi 1 n=(Zj (HT.sIx n n hi-HT.sIx n 0 lo)).map (HT.sIx n 0 lo + ·):=by
 obtain⟨h1,h2,h3⟩:=jQ lo hi n;have e:Xs lo hi 1 n=sliceRange (YT lo hi none n).1 (YT lo hi none n).2.1 1:=by
  unfold Xs YT;cases lo <;> cases hi <;> rfl
 rw[e,h1,h2,sliceRange_one]
theorem xH(y:Str)(lo hi:Option Int):V.str (Txt.slice y lo hi)=T (gz (cs y) lo hi):=by
 have hl:y.length=(cs y).length:=by simp[cs,Yn]
 have ha:HT.sIx y.length 0 lo<=y.length:=HT.sIx_le _ _ (ud _) lo;have hb:HT.sIx y.length y.length hi<=y.length:=HT.sIx_le _ _ (z4 _) hi;unfold Txt.slice;rw[EX];split
 ·rename_i h
  simp only[beq_self_eq_true,Yh,zK,Xv,beq_iff_eq]at h;have e1:HT.sIx y.length 0 lo=0:=by lia
  have e2:HT.sIx y.length y.length hi=y.length:=by lia
  rw[Ix]
  congr 3
  unfold gz;rw[<- hl,e1,e2,List.drop_zero,Nat.sub_zero,hl,ZQ]
 ·rw[pick_run]
  show V.str ⟨_⟩=V.str ⟨⟨_⟩⟩;unfold gz cs;rw[xO]
  rfl
theorem nE:SlR X gSl:=by
 intro pins s σ H x v vl vu lo hi sl Q I rx hs pl pu h;unfold gSl at h;split at h
 ·rename_i y
  obtain⟨hz,q⟩:=h;obtain⟨t,rfl⟩:=rx;have hz':y.length<=sizeLine:=by simpa [cs,Yn] using hz
  refine⟨"str",_,F.slot_str_getitem.lookup,XT _ _ _,?_⟩;have fin:∀t' k,EP X pins σ Q (.str (Txt.slice y lo hi) t') { s with toks:=k }:=fun t' k=>⟨.str (Txt.slice y lo hi),H,I.tok _,⟨_,rfl⟩,by rw[xH];exact q⟩;cases pl with
  |none=>cases pu with
   |none=>exact YA (l:=none) (u:=none) (st:=none) hs rfl (post_val_or_str ⟨uM (Txt.slice_le y _ _) hz',fin⟩)
   |int j u=>exact YA (l:=none) (u:=some (j,u)) (st:=none) hs rfl (post_val_or_str ⟨uM (Txt.slice_le y _ _) hz',fin⟩)
  |int i u'=>cases pu with
   |none=>exact YA (l:=some (i,u')) (u:=none) (st:=none) hs rfl (post_val_or_str ⟨uM (Txt.slice_le y _ _) hz',fin⟩)
   |int j u=>exact YA (l:=some (i,u')) (u:=some (j,u)) (st:=none) hs rfl (post_val_or_str ⟨uM (Txt.slice_le y _ _) hz',fin⟩)
 ·exact h.elim
def gSt:V->List V->Hp->VK->Prop
 | .str x,[.str y],H,Q=>(match cs y with
  | [c]=>Q (.bl (decide ((cs x).head? = some c))) H
  |_=>False)
 |_,_,_,_=>False
def gEn:V->List V->Hp->VK->Prop
 | .str x,[.str y],H,Q=>(match cs y with
  | [c]=>Q (.bl (decide ((cs x).getLast? = some c))) H
  |_=>False)
 |_,_,_,_=>False
theorem EA(x:Str)(c:Nat):(decide (0+(⟨#[c]⟩:Str).length<=x.length)&&YJ x ⟨#[c]⟩ (x.length-(⟨#[c]⟩:Str).length))=decide ((cs x).getLast? = some c):=by
 obtain⟨⟨l⟩⟩:=x;by_cases hl:l=[]
 ·subst hl;simp[Yn,cs,YJ]
 ·obtain⟨i,a,rfl⟩:∃i a,l=i++[a]:=⟨l.dropLast,l.getLast hl,(List.dropLast_concat_getLast hl).symm⟩
  have e:YJ ⟨⟨i++[a]⟩⟩ ⟨#[c]⟩ i.length=decide (a=c):=by
   simp[YJ,Yn];rw[Y6];simp
  have e2:(⟨⟨i++[a]⟩⟩:Str).length-(⟨#[c]⟩:Str).length=i.length:=by simp[Yn]
  rw[e2,e];simp[Yn,cs]
theorem tj:MtR X "str.endswith" gEn:=by
 intro pins s σ H x xs v us Q I rx rs h;unfold gEn at h;split at h
 ·split at h
  ·rename_i c hc
   obtain⟨t,rfl⟩:=rx;obtain⟨u,rfl,t',rfl⟩:=eL rs;rw[vz hc];refine call_meets F.slot_str_endswith (XT _ _ _) F.entry_str_endswith (F.args_str_endswith_2 _ _) (gives_str_endswith _ ⟨#[c]⟩ t t').meets ?_;exact⟨.bl _,H,I,rfl,by rw[EA];exact h⟩
  ·exact h.elim
 ·exact h.elim
def Ij:V->List V->Hp->VK->Prop
 | .str x,[.str y],H,Q=>(match cs y with
  | [c]=>c∈cs x/\∀i:Nat,(cs x)[i]? = some c->Q (.int i) H
  |_=>False)
 |_,_,_,_=>False
def zQ:List V->Hp->VK->Prop
 | [.int i],H,Q=>Q (.int i) H
 | [.bl k],H,Q=>Q (.int (if k then 1 else 0)) H
 | [.str x],H,Q=>((cs x)≠[]/\(∀c∈cs x,MT.isD c=true)/\(cs x).length<=640)/\Q (.int (MT.vl (cs x))) H
 |_,_,_=>False
theorem oj:CallR X (.type "int") (fun xs H Q=>∃x,xs=[.str x]/\((cs x)≠[]/\(∀c∈cs x,MT.isD c=true)/\(cs x).length<=640)/\Q (.int (MT.vl (cs x))) H):=by
 intro pins s σ H xs us Q I r h;obtain⟨x,rfl,⟨h0,hd,hl⟩,q⟩:=h;obtain⟨u,rfl,t,rfl⟩:=eL r;have hl':x.length<=640:=by simpa [cs,Yn] using hl
 have e:PySem.NumText.digitsVal x.cps.toList=MT.vl (cs x):=by
  unfold PySem.NumText.digitsVal MT.vl cs
  congr 1
  funext a c;lia
 have hn:intText? x=some ((MT.vl (cs x):Nat):Int):=by
  rw[PySem.intText_digits (fun c hc=>by have:=hd c hc;simpa [MT.isD] using this) h0 (by lia),e]
 exact PySem.W.KIN.call_text hn hl' ⟨.int _,H,I.tok _,⟨_,rfl⟩,q⟩
theorem CQ:CallR X (.type "int") zQ:=(xb.or oj).imp fun xs H Q h=>by
 unfold zQ at h;split at h
 ·exact .inl (.inl ⟨_,rfl,h⟩)
 ·exact .inl (.inr ⟨_,rfl,h⟩)
 ·exact .inr ⟨_,rfl,h.1,h.2⟩
 ·exact h.elim
end
end L2
namespace L2
open PySem PySem.Spec PyProof.Rows
def Its(x:Str):It:=⟨fun i _=>i<x.cps.size,fun i H v H'=>H'=H/\∃c,x.cps[i]? = some c/\v = .str ⟨#[c]⟩,fun i _=>x.cps.size<=i⟩
theorem zo{P:Program}{w:World}{K:W.Frag}{tg:Expr}(x:Str)(t:Tok)(it:Addr):tB P w K tg (Its x) [it] it (fun i h=>h.IsStrIter it "str_ascii_iterator" x t i) where
 mem:=by simp
 obj:=fun i h st b hb=>by
  have e:b=it:=by simpa using hb
  subst e;obtain⟨o,e,c,d⟩:=st;exact⟨o,e,fun v z=>by rw[d]at z;cases z⟩
 keep:=fun i h h' st k=>by
  obtain⟨o,e,c,d⟩:=st;exact⟨o,k it (by simp) o e,c,d⟩
 item:=by
  intro X hP hw hK hc i pins s σ H E I hf st hg;subst hP hw hK;have hg':i<x.cps.size:=hg;obtain⟨f0,f1,f2,f3,f4,f5⟩:=hf it (by simp);have hx:x.cps[i]? = some x.cps[i]:=by simp[hg']
  refine wpAny_pyNext_ascii_item st hx fun h' st' sb=>?_;have I1:Inv X pins σ H { s with heap:=h',toks:=s.toks+1 }:=I.turned (fun b o hb e=>(sb.2 b hb).trans e) f0 f1 f3 f4 f5;obtain⟨o,e,c,d⟩:=id st';exact⟨_,rfl,lj (s:={ s with heap:=h',toks:=s.toks+1 }) e c d (by decide) ⟨.str ⟨#[x.cps[i]]⟩,H,I1,⟨_,rfl⟩,⟨rfl,_,hx,rfl⟩,st',fun b hb=>(hf b hb).1⟩⟩
 done:=by
  intro X hP hw hK hc i pins s σ H E I hf st hg;subst hP hw hK;have hg':x.cps.size<=i:=hg;obtain⟨f0,f1,f2,f3,f4,f5⟩:=hf it (by simp);have hx:x.cps[i]? = none:=by simp[hg']
  exact wpAny_pyNext_ascii_end (I.ok.hd hc) st hx fun h' eb=>⟨rfl,I.turned (fun b o hb e=>eb b o hb e) f0 f1 f3 f4 f5⟩
 self:=fun _ _ _ _ _ st h=>wpAny_pyIter_striter_ascii st h
def HQ(tl:TE):TI:=fun σ H R=>tl σ H fun v H1=>match v with
 | .str x=>(∀c∈cs x,c<128)/\R (Its x) H1
 |_=>False
theorem zW{X:Cx}{tg l:Expr}{tl:TE}(hl:PE X l tl):PI X tg l (HQ tl):=by
 intro pins s σ H R I h;refine thn (hl pins s σ H _ I h) fun v s1 ⟨y,H1,I1,r1,q⟩=>?_;dsimp only at q;split at q
 ·rename_i x
  obtain⟨ha,q⟩:=q;obtain⟨t,rfl⟩:=r1;have ha':x.cps.all (· < 128)=true:=by
   rw[Array.all_eq_true];intro i hi;exact decide_eq_true (ha _ (by unfold cs;rw[Array.mem_toList_iff];exact Array.getElem_mem hi))
  refine wpAny_pyIter_ascii ha' ?_;refine⟨s1.heap.objs.size,[s1.heap.objs.size],_,_,H1,rfl,I1.kept (t':=s1.toks) fun b o e=>Heap.get?_push_of_some _ e,zo x t _,⟨_,Heap.get?_push_size _ rfl,rfl,rfl⟩,fun b hb=>?_,q⟩;have e:b=s1.heap.objs.size:=by simpa using hb
  subst e;exact I1.fpOk (z4 _) (I1.hok.fresh (z4 _))
 ·exact q.elim
section
variable{X:Cx}
theorem mw:∀ {bs:List Bool} {us:List Value},Vals (bs.map V.bl) us->LSm.BoolsAre us bs
 | [],_,.nil=>.nil
 |b::r,_,.cons e t=>by
  cases (show _=Value.bool b from e);exact .cons b (mw t)
def ED(K:W.Frag):List V->Hp->VK->Prop
 | [.ref p],H,Q=>∃bs:List Bool,SqL K H p (bs.map V.bl)/\Q (.bl (bs.all id)) H
 |_,_,_=>False
theorem l9(K:W.Frag)(hc:X.calm=true)(hK:X.K=K:=by rfl):CallR X (.builtin "all") (ED K):=by
 subst hK;intro pins s σ H xs us Q I r h;unfold ED at h;split at h
 ·rename_i p
  obtain⟨bs,hq,q⟩:=h;obtain⟨u,rfl,rx⟩:=eL r;cases (show u=yy p from rx);obtain⟨its,rv,pl,hz⟩:=I.list hq;have hne:p≠s.heap.objs.size:=xK (by obtain⟨_,e,_⟩:=pl.isList;exact yr e);have hb:LSm.BoolsAre its bs:=mw rv;refine call_all_walk (Xy pl.isList ?_);refine⟨s.heap.objs.size,[s.heap.objs.size,p],[s.heap.objs.size],its.toArray.size,_,_,fun i=>(bs[i]?).getD true,rfl,Walks.list (A:=X.A.in1) (I.ok.hd hc) _ p hne its.toArray,
   ⟨⟨_,Heap.get?_push_size _ rfl,rfl,rfl⟩,pl.isList.push _⟩,fun i v s' Q' E' hP hQ=>?_,fun h' tk hk=>?_⟩
  ·obtain⟨b,e,rfl⟩:=hb.get i v (by simpa using hP)
   simp only[e,Option.getD_some]at hQ;exact Zp hQ
  ·have e:((Zj its.toArray.size).all fun i=>(bs[i]?).getD true)=bs.all id:=by
    rw[yg,hb.length];exact LSm.range_all bs
   rw[e];exact⟨.bl (bs.all id),H,I.kept (LSm.kept_iter hk),rfl,q⟩
 ·exact h.elim
end
end L2
namespace L2
open PySem PySem.Spec PyProof.Rows Builtin Builtin.Str
def cq(sep:List Nat):List (List Nat)->List Nat
 | []=>[]
 | [x]=>x
 |x::y::r=>x++sep++cq sep (y::r)
def S(l:List Nat):Str:=⟨⟨l⟩⟩
theorem o_(sep:List Nat):∀(r:List (List Nat)) (x:List Nat),((r.map S).foldl (fun acc p=>acc++(S sep).cps++p.cps) (S x).cps)=(S (cq sep (x::r))).cps
 | [],x=>rfl
 |y::r,x=>by
  rw[xx,List.foldl_cons];have e:(S x).cps++(S sep).cps++(S y).cps=(S (x++sep++y)).cps:=by
   apply Array.ext';simp[S]
  rw[e,o_ sep r]
  congr 1
  cases r with
  |nil=>rfl
  |cons z r'=>unfold cq;simp[cq,YL]
theorem wI(sep:List Nat)(ls:List (List Nat)):Txt.join (S sep) (ls.map S)=S (cq sep ls):=by
 unfold Txt.join glued;cases ls with
 |nil=>rfl
 |cons x r=>
  show(⟨((x::r).map S).drop 1 |>.foldl _ _⟩:Str)=_;rw[xx,List.drop_one,List.tail_cons,List.headD_cons,o_]
theorem wO:∀ {ls:List (List Nat)} {us:List Value},Vals (ls.map T) us->StrsAre us (ls.map S)
 | [],_,.nil=>.nil
 |l::r,_,.cons e t=>by
  obtain⟨k,rfl⟩:=e;exact .cons _ k (wO t)
def BZ(sep:List Nat)(ls:List (List Nat)):Prop:=(ls.map YS).sum+ls.length*sep.length<=16777216
theorem Cy(h:BZ sep ls):(((ls.map S).map (·.length)).sum+(ls.map S).length*(S sep).length<=16777216):=by
 have e:(ls.map S).map (·.length)=ls.map YS:=by rw[ug];apply rE;intro l _;rfl
 rw[e,zK];exact h
section
variable{X:Cx}
def DH(K:W.Frag):V->List V->Hp->VK->Prop
 | .str x,[.ref p],H,Q=>∃ls:List (List Nat),SqL K H p (ls.map T)/\BZ (cs x) ls/\Q (T (cq (cs x) ls)) H
 |_,_,_,_=>False
theorem zE(K:W.Frag)(hK:X.K=K:=by rfl):MtR X "str.join" (DH K):=by
 subst hK;intro pins s σ H x xs v us Q I rx rs h;unfold DH at h;split at h
 ·rename_i y p
  obtain⟨ls,hq,hf,q⟩:=h;obtain⟨t,rfl⟩:=rx;obtain⟨u,rfl,ru⟩:=eL rs;cases (show u=yy p from ru);obtain⟨its,rv,pl,hz⟩:=I.list hq;refine join_list pl.isList (wO rv) (Cy hf) fun t' k=>?_;exact⟨.str (Txt.join y (ls.map S)),H,I.tok _,⟨_,rfl⟩,by rw[show y=S (cs y) from rfl,wI];exact q⟩
 ·exact h.elim
end
end L2
namespace PySem
open Sem (wp)
open Builtin Builtin.Str Builtin.Int
namespace F
end F
section
variable{prog:Program}{w:World}{A:Around}{E:Value->Shared->Prop}{s:Shared}{I:Addr}{fp wr:List Addr}{G:Array GenState->Array GenState->Prop}{n:Nat}{P:Nat->Value->Prop}{St:Nat->Shared->Prop}
end
end PySem
namespace L2
open PySem PySem.Spec PyProof.Rows Builtin Builtin.Str
section
variable{X:Cx}{o e:Expr}{to te:TE}{apos cpos p pos:Pos}
end
section
variable{X:Cx}
structure Et(J:It)(vs:List V):Prop where
 go:∀i H,i<vs.length->J.go i H
 yld:∀i H x H',i<vs.length->J.yld i H x H'->H'=H/\vs[i]? = some x
 stop:∀H,J.stop vs.length H
theorem zH(l:List Nat):Et (Its ⟨⟨l⟩⟩) (l.map fun c=>T [c]):=by
 refine⟨fun i H h=>by simpa [Its] using h,fun i H x H' _ y=>?_,fun H=>by simp[Its]⟩;obtain⟨e,c,hc,rfl⟩:=y;refine⟨e,?_⟩;have:l[i]? = some c:=by simpa using hc
 rw[List.getElem?_map,this];rfl
theorem oY{J:It}{vs:List V}(E:Et J vs){σ':St}{H1:Hp}{Q:VK}{tt:TT}{te:TE}(C:Hp->Prop)(p:V->Bool)(f:V->V)(hlen:vs.length<=sizeLine)
 (hp:∀x∈vs,∀H (R:Bool->Hp->Prop),C H->R (p x) H->tt (some x::σ') H R) (hf:∀x∈vs,p x=true->∀H (R:VK),C H->R (f x) H->te (some x::σ') H R)
 (D:Addr) (hD:H1 D=none) (hC:∀ys,C (upd H1 D (.lst ys))) (q:Q (.ref D) (upd H1 D (.lst ((vs.filter p).map f)))) :
 ∃W:Nat->Nat->List V->Hp->Prop,(∃m,W 0 m [] (upd H1 D (.lst []))) /\
  ∀i m ys H2,W i m ys H2->H2 D=some (.lst ys)/\((J.stop i H2/\Q (.ref D) H2)\/(J.go i H2/\∀x H3,J.yld i H2 x H3 ->
   tt (some x::σ') H3 fun b H4=>if b=true then te (some x::σ') H4 fun y H5=>H5 D=some (.lst ys)/\ys.length<sizeLine/\∃m',m'<m/\W (i+1) m' (ys++[y]) (upd H5 D (.lst (ys++[y])))
    else ∃m',m'<m/\W (i+1) m' ys H4)):=by
 refine⟨fun i m ys H2=>m=vs.length-i/\i<=vs.length/\ys=((vs.take i).filter p).map f/\H2=upd H1 D (.lst ys),⟨vs.length,by simp,ud _,by simp,rfl⟩,?_⟩;rintro i m ys H2 ⟨rfl,hi,hys,rfl⟩;refine⟨ad,?_⟩;by_cases hlt:i<vs.length
 ·refine .inr ⟨E.go i _ hlt,fun x H3 y=>?_⟩
  obtain⟨e,hx⟩:=E.yld i _ x H3 hlt y;subst e;have hm:x∈vs:=xg hx;have htk:vs.take (i+1)=vs.take i++[x]:=by
   rw[Yc,hx];rfl
  have hyl:ys.length<=i:=by
   rw[hys,zK];exact uM (Zf _ _) (by simp[qW];lia)
  refine hp x hm _ _ (hC _) ?_;cases hb:p x with
  |true=>
   rw[if_pos rfl];refine hf x hm hb _ _ (hC _) ⟨ad,by lia,vs.length-(i+1),by lia,rfl,hlt,?_,?_⟩
   ·rw[htk,Zl,vd,<- hys]
    simp[hb]
   ·funext z
    by_cases hz:z=D
    ·subst hz;rw[ad,ad]
    ·rw[ah hz,ah hz,ah hz]
  |false=>
   rw[if_neg xa];refine⟨vs.length-(i+1),by lia,rfl,hlt,?_,rfl⟩;rw[htk,Zl,vd,<- hys];simp[hb]
 ·have e:i=vs.length:=by lia
  subst e;refine .inl ⟨E.stop _,?_⟩;rw[ZQ]at hys;rw[hys];exact q
end
theorem SqL.same{K:W.Frag}{H H':Hp}{a:Addr}{xs:List V}(s:Same H H')(h:SqL K H a xs):SqL K H' a xs:=by
 rcases h with (h|⟨o,h⟩)|h
 ·exact .inl (.inl (s _ _ h))
 ·exact .inl (.inr ⟨o,s _ _ h⟩)
 ·exact .inr h
theorem tR:bK (XE P w) X (fun _ _ _ _=>False):=fun _ _ _ _ _ _ _ ⟨_,_,_,_,_,_,_,_,_,_,_,q⟩=>q.elim
def AY:Option NameKind->Bool
 |some .cell=>true
 |some .free=>true
 |_=>false
theorem sw:AY k=true↔(k=some .cell\/k=some .free):=by
 cases k with
 |none=>simp[AY]
 |some k=>cases k <;> simp[AY]
theorem bw{cl:List (Str × Addr)}{fr:List Str}(h:(cl.map (·.1)).all (fun y=>fr.elem y)=true):∀y∈cl,y.1∈fr:=fun y hy=>by
 have:=ZY.mp h y.1 (xF hy)
 simpa using this
theorem aM{fr:List Str}{k:Str->Option NameKind}(h:fr.all (fun y=>AY (k y))=true):∀y∈fr,k y=some .cell\/k y=some .free:=fun y hy=>sw.mp (ZY.mp h y hy)
theorem bx{names:List (Str × NameKind)}{fr:List Str}(h:names.all (fun p=>!AY (some p.2) || fr.elem p.1)=true):∀y,(names.lookup y=some .cell\/names.lookup y=some .free)->y∈fr:=fun y hy=>by
 have hy':=sw.mpr hy;cases e:names.lookup y with
 |none=>rw[e]at hy';cases hy'
 |some k=>
  rw[e]at hy';have:=ZY.mp h (y,k) (Z5 e)
  simpa [hy'] using this
section
variable{X:Cx}{pos:Pos}
theorem FY(I:Inv X pins σ H s):ZP<s.heap.objs.size:=
 Nat.lt_trans (by decide) (show ZL<s.heap.objs.size from(I.mod.glob.keeps I.bk).lt)
def DA:TE:=fun _ H Q=>∀p,H p=none->Q (.ref p) (upd H p (.dK []))
theorem vV:PE X (.Dict [] [] pos) DA:=by
 intro pins s σ H Q I h;have new:ObjOk X.prog X.w (upd H s.heap.objs.size (.dK [])) (s.heap.push { cls:=.type "dict",data:=.dict #[] }) s.heap.objs.size (.dK []):=
  ⟨ud _,beq_eq_false_iff_ne.mpr (Ne.symm (xK (FY I))),[],.nil,Heap.DictOf.new s.heap⟩
 exact wpAny_Dict_empty ⟨.ref s.heap.objs.size,_,I.laid (t':=s.toks) (fun _ _ q=>Heap.get?_push_of_some _ q) (z4 _) new,rfl,h _ (I.hok.fresh (z4 _))⟩
end
section
variable{X:Cx}
structure DS(C:Hp->Prop)(J:It)(vs:List V):Prop where
 go:∀i H,C H->i<vs.length->J.go i H
 yld:∀i H x H',C H->i<vs.length->J.yld i H x H'->H'=H/\vs[i]? = some x
 stop:∀H,C H->J.stop vs.length H
theorem vM{J:It}{vs:List V}{σ':St}{H1:Hp}{Q:VK}{tt:TT}{te:TE}(C:Hp->Prop)(E:DS C J vs)(p:V->Bool)(f:V->V)(hlen:vs.length<=sizeLine)
 (hp:∀x∈vs,∀H (R:Bool->Hp->Prop),C H->R (p x) H->tt (some x::σ') H R) (hf:∀x∈vs,p x=true->∀H (R:VK),C H->R (f x) H->te (some x::σ') H R)
 (D:Addr) (hD:H1 D=none) (hC:∀ys,C (upd H1 D (.lst ys))) (q:Q (.ref D) (upd H1 D (.lst ((vs.filter p).map f)))) :
 ∃W:Nat->Nat->List V->Hp->Prop,(∃m,W 0 m [] (upd H1 D (.lst []))) /\
  ∀i m ys H2,W i m ys H2->H2 D=some (.lst ys)/\((J.stop i H2/\Q (.ref D) H2)\/(J.go i H2/\∀x H3,J.yld i H2 x H3 ->
   tt (some x::σ') H3 fun b H4=>if b=true then te (some x::σ') H4 fun y H5=>H5 D=some (.lst ys)/\ys.length<sizeLine/\∃m',m'<m/\W (i+1) m' (ys++[y]) (upd H5 D (.lst (ys++[y])))
    else ∃m',m'<m/\W (i+1) m' ys H4)):=by
 refine⟨fun i m ys H2=>m=vs.length-i/\i<=vs.length/\ys=((vs.take i).filter p).map f/\H2=upd H1 D (.lst ys),⟨vs.length,by simp,ud _,by simp,rfl⟩,?_⟩;rintro i m ys H2 ⟨rfl,hi,hys,rfl⟩;refine⟨ad,?_⟩;by_cases hlt:i<vs.length
 ·refine .inr ⟨E.go i _ (hC _) hlt,fun x H3 y=>?_⟩
  obtain⟨e,hx⟩:=E.yld i _ x H3 (hC _) hlt y;subst e;have hm:x∈vs:=xg hx;have htk:vs.take (i+1)=vs.take i++[x]:=by
   rw[Yc,hx];rfl
  have hyl:ys.length<=i:=by
   rw[hys,zK];exact uM (Zf _ _) (by simp[qW];lia)
  refine hp x hm _ _ (hC _) ?_;cases hb:p x with
  |true=>
   rw[if_pos rfl];refine hf x hm hb _ _ (hC _) ⟨ad,by lia,vs.length-(i+1),by lia,rfl,hlt,?_,?_⟩
   ·rw[htk,Zl,vd,<- hys]
    simp[hb]
   ·funext z
    by_cases hz:z=D
    ·subst hz;rw[ad,ad]
    ·rw[ah hz,ah hz,ah hz]
  |false=>
   rw[if_neg xa];refine⟨vs.length-(i+1),by lia,rfl,hlt,?_,rfl⟩;rw[htk,Zl,vd,<- hys];simp[hb]
 ·have e:i=vs.length:=by lia
  subst e;refine .inl ⟨E.stop _ (hC _),?_⟩;rw[ZQ]at hys;rw[hys];exact q
theorem Bq{K:W.Frag}{C:Hp->Prop}{a:Addr}{vs:List V}(h:∀H,C H->SqL K H a vs):DS C (Itl K a) vs:=
 ⟨fun i H c hi=>⟨vs,vs[i],h H c,List.getElem?_eq_getElem hi⟩,fun i H x H' c _ y=>⟨y.1,y.2 vs (h H c)⟩,fun H c=>⟨vs,h H c,z4 _⟩⟩
end
end L2
namespace L2
open PySem PySem.Spec PyProof.Rows
section
variable{X:Cx}{K:W.Frag}{pos:Pos}
theorem e_(K:W.Frag)(hc:X.calm=true)(h:PGs X es t)(hK:X.K=K:=by rfl)
 (hn:(YH es X.env).length=n:=by rfl) (hst:(YH es X.env).findIdx? (·.1)=none:=by rfl):PG X (.Tuple es k pos) (Fb K n t):=by
 subst hK;exact FU hc h hn hst
end
section
variable{X:Cx}{T name id:String}{r:V->List V->Hp->VK->Prop}{o e:Expr}{es:List Expr}{to:TE}{t:TA}{apos cpos:Pos}
theorem eQ(K:W.Frag)(pa:PlainAttrs T)(slot:Slot T name id)(hty:typeOf (.builtin id)=pure (.type "method_descriptor"))(hm:MtR X id r)(ho:PE X o to)(ha:PA X (e::es) t)(hK:X.K=K:=by rfl)
 (hbase:Xa o name X.env (eval o X.env)=eval o X.env:=by rfl)
 (hfew:((backTo cpos (starEach (e::es) X.env)).all (fun x=>!x.1)&&(backToKw cpos (Xq [] X.env)).all (fun x=>x.1.isSome)
  && decide ((e::es).length+([]:List Keyword).length+(if ([]:List Keyword).isEmpty then 0 else 1)<30))=true:=by rfl)
 (hline:(apos.endLine==cpos.line)=true:=by rfl) (hs:starEach (e::es) X.env=(false,eval e X.env)::starEach es X.env:=by rfl) (hplain:(backTo cpos (starEach es X.env)).any (·.1)=false:=by rfl) :
 PE X (.Call (.Attribute o name apos) (e::es) [] cpos) (tBM K T r to t):=by
 subst hK;exact Ha pa slot hty hm ho ha hbase hfew hline hs hplain
end
section
variable{K:W.Frag}{tl:TE}{ks:List Nat}{σ:St}{H:Hp}{Q:VK}{tt:TT}{te:TE}
end
end L2
namespace L2
end L2
namespace L2
open PySem PySem.Spec PyProof.Rows Builtin Builtin.Str
def spN(c:Nat):List Nat->List (List Nat)
 | []=>[[]]
 |a::r=>if a=c then []::spN c r else match spN c r with
  |h::t=>(a::h)::t
  | []=>[[a]]
theorem i9(c:Nat):∀l,spN c l≠[]
 | []=>by simp[spN]
 |a::r=>by
  unfold spN;split
  ·simp
  ·split <;> simp
theorem jR(c:Nat):∀l:List Nat,c∉l->spN c l=[l]
 | [],_=>rfl
 |a::r,h=>by
  have h1:¬ a=c:=fun z=>h (by rw[z];simp);have h2:c∉r:=fun z=>h (vt _ z);unfold spN;rw[if_neg h1,jR c r h2]
theorem wJ(c:Nat):∀(l r:List Nat),c∉l->spN c (l++c::r)=l::spN c r
 | [],r,_=>by simp[spN]
 |a::l,r,h=>by
  have h1:¬ a=c:=fun z=>h (by rw[z];simp);have h2:c∉l:=fun z=>h (vt _ z);rw[ZC];show(if a=c then _ else _)=_;rw[if_neg h1,wJ c l r h2]
theorem mD(c:Nat):∀ps:List (List Nat),ps≠[]->(∀p∈ps,c∉p)->spN c (cq [c] ps)=ps
 | [],h,_=>absurd rfl h
 | [p],_,h=>jR c p (h p (by simp))
 |p::q::r,_,h=>by
  rw[cq,YL,List.singleton_append,wJ c p _ (h p (by simp)),mD c (q::r) (by simp) fun x hx=>h x (vt _ hx)]
theorem mX(c:Nat):∀l:List Nat,cq [c] (spN c l)=l
 | []=>rfl
 |a::r=>by
  have ih:=mX c r;unfold spN;split
  ·rename_i e
   cases es:spN c r with
   |nil=>exact absurd es (i9 c r)
   |cons h t=>rw[es]at ih;rw[cq,ih,e];rfl
  ·cases es:spN c r with
   |nil=>exact absurd es (i9 c r)
   |cons h t=>
    rw[es]at ih;cases t with
    |nil=>simp[cq]at ih |-; exact ih
    |cons h2 t=>rw[cq]at ih |-; rw[<- ih];simp
theorem iE(c:Nat):∀(l:List Nat),∀p∈spN c l,c∉p
 | [],p,hp=>by simp[spN]at hp;rw[hp];simp
 |a::r,p,hp=>by
  unfold spN at hp;split at hp
  ·rcases zG.mp hp with h|h
   ·rw[h];simp
   ·exact iE c r p h
  ·rename_i hne
   split at hp
   ·rename_i h t es
    rcases zG.mp hp with e|e
    ·rw[e]
     have:=iE c r h (by rw[es];simp);simp only[zG,not_or];exact⟨fun z=>hne z.symm,this⟩
    ·exact iE c r p (by rw[es];exact vt _ e)
   ·rename_i es;exact absurd es (i9 c r)
theorem lW(c:Nat):∀l:List Nat,(spN c l).length<=l.length+1
 | []=>by simp[spN]
 |a::r=>by
  have ih:=lW c r;unfold spN;split
  ·simp;lia
  ·split
   ·rename_i es;rw[es]at ih;simp at ih |-; lia
   ·simp
theorem jr(c:Nat):∀l:List Nat,∀p∈spN c l,p.length<=l.length/\∀d∈p,d∈l
 | [],p,hp=>by simp[spN]at hp;rw[hp];simp
 |a::r,p,hp=>by
  unfold spN at hp;split at hp
  ·rcases zG.mp hp with h|h
   ·rw[h];simp
   ·obtain⟨h1,h2⟩:=jr c r p h
    exact⟨by rw[uO];lia,fun d hd=>vt _ (h2 d hd)⟩
  ·split at hp
   ·rename_i h t es
    rcases zG.mp hp with e|e
    ·obtain⟨h1,h2⟩:=jr c r h (by rw[es];simp)
     rw[e];refine⟨by rw[uO,uO];lia,fun d hd=>?_⟩;rcases zG.mp hd with z|z
     ·rw[z];simp
     ·exact vt _ (h2 d z)
    ·obtain⟨h1,h2⟩:=jr c r p (by rw[es];exact vt _ e)
     exact⟨by rw[uO];lia,fun d hd=>vt _ (h2 d hd)⟩
   ·rename_i es;exact absurd es (i9 c r)
theorem y8(x y:Str):Txt.split x y≠[]:=by
 unfold Txt.split;split
 ·simp
 ·split
  ·simp
  ·rw[StrLaws.partsBetween_eq]
   obtain⟨p,r,e⟩:=StrLaws.partsFrom_ne x y.length 0 (occurrences x y 0 x.length (x.length+1));rw[e];simp
theorem An(l:List Nat)(c:Nat):(Txt.split ⟨⟨l⟩⟩ ⟨#[c]⟩).map (fun x=>cs x)=spN c l:=by
 have h1:=StrLaws.join_split ⟨⟨l⟩⟩ ⟨#[c]⟩;have h2:=StrLaws.split_free ⟨⟨l⟩⟩ c;have h0:=y8 ⟨⟨l⟩⟩ ⟨#[c]⟩;generalize Txt.split ⟨⟨l⟩⟩ ⟨#[c]⟩=ps at h0 h1 h2;have hj:cq [c] (ps.map fun x=>cs x)=l:=by
  have e:ps=(ps.map fun x=>cs x).map S:=by
   rw[ug]
   conv=>lhs;rw[<- Y0 ps]
   apply rE;intro x _;rfl
  rw[e]at h1;have h3:Str.join (S [c]) ((ps.map fun x=>cs x).map S)=S (cq [c] (ps.map fun x=>cs x)):=by
   have:=wI [c] (ps.map fun x=>cs x);exact(StrLaws.glued_eq_join _ _).symm.trans this
  have h4:S (cq [c] (ps.map fun x=>cs x))=⟨⟨l⟩⟩:=h3.symm.trans h1;have h5:=congrArg cs h4;exact h5
 have hne:(ps.map fun x=>cs x)≠[]:=by
  intro z;exact h0 (List.map_eq_nil_iff.mp z)
 rw[<- hj,mD c _ hne];intro p hp;obtain⟨x,hx,rfl⟩:=yH.mp hp;exact h2 x hx
section
variable{X:Cx}{e a b c:Expr}{pos:Pos}
def F9:V->List V->Hp->VK->Prop
 | .str x,[.str y],H,Q=>(∃c,cs y=[c]/\(cs x).length+2<=sizeLine/\∀p,H p=none->Q (.ref p) (upd H p (.lst ((spN c (cs x)).map T))))
 |_,_,_,_=>False
theorem oS:∀(l:List (Str × Tok)),Vals (l.map fun p=>V.str p.1) (strValues l)
 | []=>.nil
 |p::r=>.cons ⟨p.2,rfl⟩ (oS r)
theorem m9:MtR X "str.split" F9:=by
 intro pins s σ H x xs v us Q I rx rs h;unfold F9 at h;split at h
 ·rename_i x y
  obtain⟨c,hc,hz,q⟩:=h;obtain⟨t,rfl⟩:=rx;obtain⟨u,rfl,t',rfl⟩:=eL rs;have hy:=vz hc;subst hy;obtain⟨⟨l⟩⟩:=x;have hx:(⟨⟨l⟩⟩:Str).length+2<=sizeLine:=hz;have fin:∀(l':List (Str × Tok)) (k:Nat),l'.map (·.1)=Txt.split ⟨⟨l⟩⟩ ⟨#[c]⟩->EP X pins σ Q (.ref s.heap.objs.size) { s with toks:=k,heap:=s.heap.push { cls:=.type "list",data:=.seq (strValues l').toArray } }:=fun l' k hl=>by
   have e:(spN c l).map T=l'.map fun p=>V.str p.1:=by
    rw[<- An,<- hl,ug,ug];apply rE;intro p _;rfl
   have hlen:((spN c l).map T).length<=sizeLine:=by
    rw[zK];have:=lW c l;have hz':l.length+2<=sizeLine:=hz;lia
   have hv:Vals ((spN c l).map T) (strValues l'):=by rw[e];exact oS l'
   exact⟨.ref s.heap.objs.size,_,I.lnew (t':=k) hv hlen,rfl,q _ I.fresh⟩
  have hn:(partsBetween ⟨⟨l⟩⟩ (occurrences ⟨⟨l⟩⟩ ⟨#[c]⟩ 0 (⟨⟨l⟩⟩:Str).length ((⟨⟨l⟩⟩:Str).length+1)) (⟨#[c]⟩:Str).length).length<=sizeLine:=by
   have e1:=StrLaws.occ_length_le ⟨⟨l⟩⟩ ⟨#[c]⟩ 0 (⟨⟨l⟩⟩:Str).length ((⟨⟨l⟩⟩:Str).length+1);rw[length_partsBetween];lia
  have hy:((⟨#[c]⟩:Str).length==0)=false:=rfl;cases h1:(decide ((⟨⟨l⟩⟩:Str).length<(⟨#[c]⟩:Str).length) || decide (strKind ⟨⟨l⟩⟩<strKind ⟨#[c]⟩))
  ·cases hf:(occurrences ⟨⟨l⟩⟩ ⟨#[c]⟩ 0 (⟨⟨l⟩⟩:Str).length ((⟨⟨l⟩⟩:Str).length+1)).isEmpty
   ·refine call_meets F.slot_str_split (XT _ _ _) F.entry_str_split (F.args_str_split_2 _ _) (meets_str_split_sep ⟨⟨l⟩⟩ ⟨#[c]⟩ t t' h1 hy hf (by lia) hn) ?_
    show wants _ _ _ { s with toks:=_,heap:=s.heap.push { cls:=.type "list",data:=.seq (strsFrom s.toks (partsBetween ⟨⟨l⟩⟩ (occurrences ⟨⟨l⟩⟩ ⟨#[c]⟩ 0 (⟨⟨l⟩⟩:Str).length ((⟨⟨l⟩⟩:Str).length+1)) (⟨#[c]⟩:Str).length)).toArray } };rw[strsFrom_eq];exact fin (numbered s.toks _) _ ((numbered_texts _ _).trans ((if_neg (ne_true_of_eq_false h1)).trans (if_neg (ne_true_of_eq_false hf))).symm)
   ·refine call_meets F.slot_str_split (XT _ _ _) F.entry_str_split (F.args_str_split_2 _ _) (meets_str_split_not_found ⟨⟨l⟩⟩ ⟨#[c]⟩ t t' h1 hy hf) ?_
    exact fin [(⟨⟨l⟩⟩,t)] s.toks ((if_neg (ne_true_of_eq_false h1)).trans (if_pos hf)).symm
  ·refine call_meets F.slot_str_split (XT _ _ _) F.entry_str_split (F.args_str_split_2 _ _) (meets_str_split_cannot_occur ⟨⟨l⟩⟩ ⟨#[c]⟩ t t' h1) ?_
   exact fin [(⟨⟨l⟩⟩,t)] s.toks (if_pos h1).symm
 ·exact h.elim
def tm:List Nat->List Nat->Bool
 |_,[]=>true
 | [],_::_=>false
 |a::l,b::r=>decide (a=b)&&tm l r
theorem sx:∀(x y:List Nat),tm x y=true↔x.take y.length=y
 |x,[]=>by simp[tm]
 | [],b::r=>by simp[tm]
 |a::l,b::r=>by simp[tm,sx l r]
def Em:V->List V->Hp->VK->Prop
 | .str x,[.str y],H,Q=>Q (.bl (tm (cs x) (cs y))) H
 |_,_,_,_=>False
theorem Da(x y:Str):(decide (0+y.length<=x.length)&&YJ x y 0)=tm (cs x) (cs y):=by
 obtain⟨⟨l⟩⟩:=x;obtain⟨⟨r⟩⟩:=y;rw[Y6,sx,Zi];unfold YJ;simp only[Yn,cs,Nat.zero_add,decide_eq_true_eq,yg,beq_iff_eq];have e:(⟨l⟩:Array Nat).extract 0 r.length=⟨r⟩↔l.take r.length=r:=by
  constructor
  ·intro h
   have:=congrArg Array.toList h
   simpa using this
  ·intro h
   apply Array.toList_inj.mp
   simpa using h
 constructor
 ·rintro⟨_,h⟩;exact e.mp h
 ·intro h
  refine⟨?_,e.mpr h⟩;have:=congrArg YS h;rw[qW]at this;lia
theorem mE:MtR X "str.startswith" Em:=by
 intro pins s σ H x xs v us Q I rx rs h;unfold Em at h;split at h
 ·rename_i x y
  obtain⟨t,rfl⟩:=rx;obtain⟨u,rfl,t',rfl⟩:=eL rs;refine call_meets F.slot_str_startswith (XT _ _ _) F.entry_str_startswith (F.args_str_startswith_2 _ _) (gives_str_startswith _ y t t').meets ?_;exact⟨.bl _,H,I,rfl,by rw[Da];exact h⟩
 ·exact h.elim
def Io:R2
 | .ref l,.ref b,H,Q=>∃xs zs,H l=some (.lst xs)/\H b=some (.lst zs)/\xs.length+zs.length<=sizeLine/\∀p,H p=none->Q (.ref p) (upd H p (.lst (xs++zs)))
 |_,_,_,_=>False
theorem nn(K:W.Frag)(h:X.K=K:=by rfl):SlR X (FX K):=h ▸ Ca
def AM(K:W.Frag):List V->Hp->VK->Prop
 | [.ref p],H,Q=>∃ys,(SqL K H p ys\/SqT K H p ys)/\∀l,H l=none->Q (.ref l) (upd H l (.lst ys))
 |_,_,_=>False
theorem wt(K:W.Frag)(hK:X.K=K:=by rfl):CallR X (.type "list") (AM K):=by
 subst hK;refine pE.imp fun xs H Q h=>?_;unfold AM at h;split at h
 ·obtain⟨ys,h1,q⟩:=h
  exact⟨_,ys,rfl,h1,q⟩
 ·exact h.elim
def u8(K:W.Frag):List V->Hp->VK->Prop
 | [.ref p],H,Q=>∃ys,(SqL K H p ys/\∀l,H l=none->Q (.ref l) (upd H l (.tup ys)))\/(SqT K H p ys/\Q (.ref p) H)
 |_,_,_=>False
theorem tV(K:W.Frag)(hK:X.K=K:=by rfl):CallR X (.type "tuple") (u8 K):=by
 subst hK;refine oh.imp fun xs H Q h=>?_;unfold u8 at h;split at h
 ·obtain⟨ys,h1⟩:=h
  exact⟨_,ys,rfl,h1⟩
 ·exact h.elim
inductive EqH (K:W.Frag) (H:Hp):Nat->V->V->Bool->Prop
 |flat {n x y}:dX x=true->dX y=true->EqH K H n x y (eqV x y)
 |same {n p}:EqH K H n (.ref p) (.ref p) true
 |lst {n p q xs ys} {e:Nat->Bool}:p≠q->SqL K H p xs->SqL K H q ys->xs.length=ys.length->(∀j x y,xs[j]? = some x->ys[j]? = some y->EqH K H n x y (e j))->EqH K H (n+1) (.ref p) (.ref q) ((Zj xs.length).all e)
 |len {n p q xs ys}:p≠q->SqL K H p xs->SqL K H q ys->xs.length≠ys.length->EqH K H (n+1) (.ref p) (.ref q) false
 |tup {n p q xs ys} {e:Nat->Bool}:p≠q->SqT K H p xs->SqT K H q ys->(∀j x y,xs[j]? = some x->ys[j]? = some y->EqH K H n x y (e j))->EqH K H (n+1) (.ref p) (.ref q) ((Zj (min xs.length ys.length)).all e&&xs.length==ys.length)
 |lt {n p q xs ys}:SqL K H p xs->SqT K H q ys->EqH K H (n+1) (.ref p) (.ref q) false
 |tl {n p q xs ys}:SqT K H p xs->SqL K H q ys->EqH K H (n+1) (.ref p) (.ref q) false
theorem gu{P:Value->Value->Bool->Prop}{xs ys:List V}{its its':List Value}{e:Nat->Bool}(r:Vals xs its)(r':Vals ys its')(h:∀j x y u v,xs[j]? = some x->ys[j]? = some y->RelV x u->RelV y v->P u v (e j)) :
 ∀j (h1:j<its.toArray.size) (h2:j<its'.toArray.size),P its.toArray[j] its'.toArray[j] (e j):=fun j g1 g2=>by
 have h1:xs.length=its.length:=r.length;have h2:ys.length=its'.length:=r'.length;have g1':j<its.length:=by simpa using g1
 have g2':j<its'.length:=by simpa using g2
 have l1:j<xs.length:=by lia
 have l2:j<ys.length:=by lia
 obtain⟨w1,e1,r1⟩:=r.get (List.getElem?_eq_getElem l1);obtain⟨w2,e2,r2⟩:=r'.get (List.getElem?_eq_getElem l2);have z1:its.toArray[j]=w1:=by
  have:its[j]? = some its[j]:=List.getElem?_eq_getElem g1';rw[this]at e1;simpa using se e1
 have z2:its'.toArray[j]=w2:=by
  have:its'[j]? = some its'[j]:=List.getElem?_eq_getElem g2';rw[this]at e2;simpa using se e2
 rw[z1,z2];exact h j _ _ _ _ (List.getElem?_eq_getElem l1) (List.getElem?_eq_getElem l2) r1 r2
theorem EqH.at{K:W.Frag}{H:Hp}{n:Nat}{x y:V}{b:Bool}(h:EqH K H n x y b):∀ {X:Cx} {pins:List (Addr × Obj)} {σ:St} {s:Shared} {A:Around} {u v:Value},X.K=K->Inv X pins σ H s->A.units+n<cLine->RelV x u->RelV y v->SeqAt.EqAt A s u v b:=by
 induction h with
 |flat fx fy=>
  intro X pins σ s A u v hK I hu rx ry;exact uz rx ry fx fy
 |same=>
  intro X pins σ s A u v hK I hu rx ry;cases rx;cases ry;exact SeqAt.EqAt.same _
 | @lst n p q xs ys e hpq hx hy hl _ ih=>
  intro X pins σ s A u v hK I hu rx ry;cases rx;cases ry;subst hK;obtain⟨its,r,pl,hz⟩:=I.list hx;obtain⟨its',r',pl',hz'⟩:=I.list hy;have h1:xs.length=its.length:=r.length;have h2:ys.length=its'.length:=r'.length;have:=SeqAt.RcAt.lists (A:=A) (e:=e) pl.isList pl'.isList (by simp;lia) (by lia) (gu r r' fun j x y u v g1 g2 r1 r2=>ih j x y g1 g2 rfl I (by show A.units+1+n<cLine;lia) r1 r2);rw[yg,<- h1]at this;exact .of_refs hpq this
 | @len n p q xs ys hpq hx hy hl=>
  intro X pins σ s A u v hK I hu rx ry;cases rx;cases ry;subst hK;obtain⟨its,r,pl,hz⟩:=I.list hx;obtain⟨its',r',pl',hz'⟩:=I.list hy;have h1:xs.length=its.length:=r.length;have h2:ys.length=its'.length:=r'.length;exact .of_refs hpq (SeqAt.RcAt.lists_lengths pl.isList pl'.isList (by simp;lia) (by lia))
 | @tup n p q xs ys e hpq hx hy _ ih=>
  intro X pins σ s A u v hK I hu rx ry;cases rx;cases ry;subst hK;obtain⟨its,r,pl,hz⟩:=I.tuple hx;obtain⟨its',r',pl',hz'⟩:=I.tuple hy;have h1:xs.length=its.length:=r.length;have h2:ys.length=its'.length:=r'.length;have:=SeqAt.RcAt.tuples (A:=A) (e:=e) pl pl' (by lia) (gu r r' fun j x y u v g1 g2 r1 r2=>ih j x y g1 g2 rfl I (by show A.units+1+n<cLine;lia) r1 r2);rw[yg,yg,<- h1,<- h2]at this;exact .of_refs hpq this
 |lt hx hy=>
  intro X pins σ s A u v hK I hu rx ry;cases rx;cases ry;subst hK;obtain⟨its,r,pl,hz⟩:=I.list hx;obtain⟨its',r',pl',hz'⟩:=I.tuple hy;exact SeqAt.EqAt.list_tuple pl.isList pl' (by lia)
 |tl hx hy=>
  intro X pins σ s A u v hK I hu rx ry;cases rx;cases ry;subst hK;obtain⟨its,r,pl,hz⟩:=I.tuple hx;obtain⟨its',r',pl',hz'⟩:=I.list hy;exact SeqAt.EqAt.tuple_list pl pl'.isList (by lia)
inductive EqR (K:W.Frag) (H:Hp) (p q:Addr):Bool->Prop
 |lst {xs ys} {e:Nat->Bool}:SqL K H p xs->SqL K H q ys->xs.length=ys.length->(∀j x y,xs[j]? = some x->ys[j]? = some y->EqH K H 50 x y (e j))->EqR K H p q ((Zj xs.length).all e)
 |len {xs ys}:SqL K H p xs->SqL K H q ys->xs.length≠ys.length->EqR K H p q false
 |tup {xs ys} {e:Nat->Bool}:SqT K H p xs->SqT K H q ys->(∀j x y,xs[j]? = some x->ys[j]? = some y->EqH K H 50 x y (e j))->EqR K H p q ((Zj (min xs.length ys.length)).all e&&xs.length==ys.length)
def Bs(K:W.Frag)(neg:Bool):R2
 | .ref p,.ref q,H,Q=>∃b,EqR K H p q b/\Q (.bl (neg ^^ b)) H
 |_,_,_,_=>False
theorem Gk(K:W.Frag)(hu:X.A.units+100<cLine)(hK:X.K=K:=by rfl):OpR X (rB .Eq) (Bs K false):=by
 subst hK;intro pins s σ H x y v u Q I rx ry h;unfold Bs at h;split at h
 ·rename_i p q
  obtain⟨b,hb,q⟩:=h;cases rx;cases ry;cases hb with
  | @lst xs ys e hx hy hl he=>
   obtain⟨its,r,pl,hz⟩:=I.list hx;obtain⟨its',r',pl',hz'⟩:=I.list hy;have h1:xs.length=its.length:=r.length;have h2:ys.length=its'.length:=r'.length;refine SeqAt.eq_listAt (e:=e) pl.isList pl'.isList (by simp;lia) (by lia) (gu r r' fun j x y u v g1 g2 r1 r2=>(he j x y g1 g2).at rfl I (by show X.A.units+1+50<cLine;lia) r1 r2) ⟨.bl _,H,I,rfl,?_⟩;rw[yg,<- h1];simpa using q
  | @len xs ys hx hy hl=>
   obtain⟨its,r,pl,hz⟩:=I.list hx;obtain⟨its',r',pl',hz'⟩:=I.list hy;have h1:xs.length=its.length:=r.length;have h2:ys.length=its'.length:=r'.length;exact SeqAt.eq_list_lengthsAt pl.isList pl'.isList (by simp;lia) (by lia) ⟨.bl false,H,I,rfl,by simpa using q⟩
  | @tup xs ys e hx hy he=>
   obtain⟨its,r,pl,hz⟩:=I.tuple hx;obtain⟨its',r',pl',hz'⟩:=I.tuple hy;have h1:xs.length=its.length:=r.length;have h2:ys.length=its'.length:=r'.length;refine SeqAt.eq_tupleAt (e:=e) pl pl' (by lia) (gu r r' fun j x y u v g1 g2 r1 r2=>(he j x y g1 g2).at rfl I (by show X.A.units+1+50<cLine;lia) r1 r2) ⟨.bl _,H,I,rfl,?_⟩;rw[yg,yg,<- h1,<- h2];simpa using q
 ·exact h.elim
theorem EU(K:W.Frag)(hu:X.A.units+100<cLine)(hK:X.K=K:=by rfl):OpR X (rB .NotEq) (Bs K true):=by
 subst hK;intro pins s σ H x y v u Q I rx ry h;unfold Bs at h;split at h
 ·rename_i p q
  obtain⟨b,hb,q⟩:=h;cases rx;cases ry;cases hb with
  | @lst xs ys e hx hy hl he=>
   obtain⟨its,r,pl,hz⟩:=I.list hx;obtain⟨its',r',pl',hz'⟩:=I.list hy;have h1:xs.length=its.length:=r.length;have h2:ys.length=its'.length:=r'.length;refine SeqAt.RcNeAt.lists (e:=e) pl.isList pl'.isList (by simp;lia) (by lia) (gu r r' fun j x y u v g1 g2 r1 r2=>(he j x y g1 g2).at rfl I (by show X.A.units+1+50<cLine;lia) r1 r2) X.prog X.w X.xe _ ⟨.bl _,H,I,rfl,?_⟩;rw[yg,<- h1];simpa using q
  | @len xs ys hx hy hl=>
   obtain⟨its,r,pl,hz⟩:=I.list hx;obtain⟨its',r',pl',hz'⟩:=I.list hy;have h1:xs.length=its.length:=r.length;have h2:ys.length=its'.length:=r'.length;exact SeqAt.RcNeAt.lists_lengths pl.isList pl'.isList (by simp;lia) (by lia) X.prog X.w X.xe _ ⟨.bl true,H,I,rfl,by simpa using q⟩
  | @tup xs ys e hx hy he=>
   obtain⟨its,r,pl,hz⟩:=I.tuple hx;obtain⟨its',r',pl',hz'⟩:=I.tuple hy;have h1:xs.length=its.length:=r.length;have h2:ys.length=its'.length:=r'.length;refine SeqAt.RcNeAt.tuples (e:=e) pl pl' (by lia) (gu r r' fun j x y u v g1 g2 r1 r2=>(he j x y g1 g2).at rfl I (by show X.A.units+1+50<cLine;lia) r1 r2) X.prog X.w X.xe _ ⟨.bl _,H,I,rfl,?_⟩;rw[yg,yg,<- h1,<- h2];simpa using q
 ·exact h.elim
end
end L2
namespace PySem
open Sem (wp)
open Builtin
end PySem
namespace L2
open PySem PySem.Spec PyProof.Rows Builtin Builtin.Str
section
variable{X:Cx}{e a b c:Expr}{pos:Pos}
def iR(K:W.Frag)(neg:Bool):R2:=fun x y H Q=>match eqS x y with
 |some k=>Q (.bl (neg ^^ k)) H
 |none=>Bs K neg x y H Q
theorem dm(K:W.Frag)(hu:X.A.units+100<cLine)(hK:X.K=K:=by rfl):OpR X (rB .Eq) (iR K false):=((FO (by lia)).or (Gk K hu hK)).imp fun x y H Q h=>by
 unfold iR at h;split at h
 ·rename_i k hk
  obtain⟨h1,h2⟩:=sO hk;exact .inl (.inl ⟨h1,by rw[h2];simpa using h⟩)
 ·exact .inr h
theorem b8(K:W.Frag)(hu:X.A.units+100<cLine)(hK:X.K=K:=by rfl):OpR X (rB .NotEq) (iR K true):=((F8 (by lia)).or (EU K hu hK)).imp fun x y H Q h=>by
 unfold iR at h;split at h
 ·rename_i k hk
  obtain⟨h1,h2⟩:=sO hk;exact .inl (.inl ⟨h1,by rw[h2];simpa using h⟩)
 ·exact .inr h
variable{K:W.Frag}{neg:Bool}{H:Hp}{Q:VK}
theorem v5:iR K neg (.int i) (.int j) H Q=Q (.bl (neg ^^ decide (i=j))) H:=rfl
theorem Bn:iR K neg (.bl i) (.bl j) H Q=Q (.bl (neg ^^ decide (i=j))) H:=rfl
theorem wM:iR K neg (.str i) (.str j) H Q=Q (.bl (neg ^^ decide (i.cps.toList=j.cps.toList))) H:=rfl
theorem vW:iR K neg (.ref p) (.ref q) H Q = ∃b,EqR K H p q b/\Q (.bl (neg ^^ b)) H:=rfl
theorem Af:iR K neg .non .non H Q=Q (.bl (neg ^^ true)) H:=rfl
theorem zf:iR K neg .non (.int i) H Q=Q (.bl (neg ^^ false)) H:=rfl
theorem Au:iR K neg (.int i) .non H Q=Q (.bl (neg ^^ false)) H:=rfl
theorem zt:iR K neg (.int i) (.str s) H Q=Q (.bl (neg ^^ false)) H:=rfl
theorem BI:iR K neg (.str s) (.int i) H Q=Q (.bl (neg ^^ false)) H:=rfl
end
theorem t6{K:W.Frag}{tl:TE}{g:TG}{tb:TS}{D:eO}{σ:St}{H:Hp}(h:tl σ H fun v H1=>nV (w6 K (tC v)) g tb D σ H1):nV (w6 K tl) g tb D σ H:=h
theorem gK{K:W.Frag}{tl:TE}{g:TG}{tb:TS}{D:eO}{σ:St}{H:Hp}(h:tl σ H fun v H1=>nV (mP K (tC v)) g tb D σ H1):nV (mP K tl) g tb D σ H:=h
theorem rX{K:W.Frag}{a:Addr}{xs:List V}{g:TG}{tb:TS}{D:eO}{σ:St}{H:Hp}(hq:SqT K H a xs)(h:∃W:Nat->Nat->St->Hp->Prop,(∃m,W 0 m σ H)/\∀i m σ H,W i m σ H ->
 ((Itt K a).stop i H/\D.nx σ H)\/((Itt K a).go i H/\∃N:St->Hp->Prop,(∀σ' H',N σ' H'->∃m',m'<m/\W (i+1) m' σ' H')/\∀x H',(Itt K a).yld i H x H'->g x σ H' fun σ2 H2=>tb { D with nx:=N,ct:=N,bk:=D.nx } σ2 H2)):nV (w6 K (tC (.ref a))) g tb D σ H:=⟨a,rfl,⟨xs,hq⟩,h⟩
theorem ic{K:W.Frag}{a:Addr}{xs:List V}{g:TG}{tb:TS}{D:eO}{σ:St}{H:Hp}(hq:SqL K H a xs)(h:∃W:Nat->Nat->St->Hp->Prop,(∃m,W 0 m σ H)/\∀i m σ H,W i m σ H ->
 ((Itl K a).stop i H/\D.nx σ H)\/((Itl K a).go i H/\∃N:St->Hp->Prop,(∀σ' H',N σ' H'->∃m',m'<m/\W (i+1) m' σ' H')/\∀x H',(Itl K a).yld i H x H'->g x σ H' fun σ2 H2=>tb { D with nx:=N,ct:=N,bk:=D.nx } σ2 H2)):nV (mP K (tC (.ref a))) g tb D σ H:=⟨a,rfl,⟨xs,hq⟩,h⟩
theorem xG(lo:Int)(n:Nat):Et (Itr lo n) ((Zj n).map fun k=>V.int (lo+(k:Nat))):=by
 refine⟨fun i H h=>by simpa [Itr] using h,fun i H x H' hi y=>?_,fun H=>by simp[Itr]⟩;obtain⟨e,rfl⟩:=y;refine⟨e,?_⟩;have hi':i<n:=by simpa using hi
 simp[hi']
end L2
namespace L2
theorem bV(r:Room k A):A.units+100<PySem.cLine:=by have:=r.un;lia
end L2
namespace L2
open PySem PySem.Spec PyProof.Rows
section
variable{κ:Type}[DecidableEq κ]
def cU(kvs:List (κ × V))(k:κ):Option V:=(kvs.find? fun kv=>decide (kv.1=k)).map (·.2)
def cW(kvs:List (κ × V))(k:κ)(v:V):List (κ × V):=
 if (kvs.any fun kv=>decide (kv.1=k))=true then kvs.map (fun kv=>if kv.1=k then (kv.1,v) else kv) else kvs++[(k,v)]
def IJ(kvs:List (κ × V))(k:κ):List (κ × V):=kvs.filter fun kv=>decide (kv.1≠k)
theorem bO{p:κ × V}{r:List (κ × V)}{k:κ}(e:p.1=k):cU (p::r) k=some p.2:=by simp[cU,List.find?_cons,e]
theorem bG{p:κ × V}{r:List (κ × V)}{k:κ}(e:¬ p.1=k):cU (p::r) k=cU r k:=by simp[cU,List.find?_cons,e]
theorem ie(k:κ):∀kvs:List (κ × V),(kvs.any fun kv=>decide (kv.1=k))=(cU kvs k).isSome
 | []=>rfl
 |p::r=>by
  rw[Y9];by_cases e:p.1=k
  ·simp only[bO e,decide_eq_true e,Bool.true_or,Option.isSome_some]
  ·rw[bG e,decide_eq_false e,Bool.false_or];exact ie k r
theorem sW(k j:κ)(y:V):∀kvs:List (κ × V),cU (kvs.map fun kv=>if kv.1=k then (kv.1,y) else kv) j=(cU kvs j).map fun x=>if j=k then y else x
 | []=>rfl
 |p::r=>by
  have ih:=sW k j y r;rw[xx];by_cases h:p.1=k
  ·rw[if_pos h]
   by_cases e:p.1=j
   ·rw[bO (p:=(p.1,y)) e,bO e,Option.map_some,if_pos (e.symm.trans h)]
   ·rw[bG (p:=(p.1,y)) e,bG e,ih]
  ·rw[if_neg h]
   by_cases e:p.1=j
   ·rw[bO (p:=p) e,bO e,Option.map_some,if_neg (fun z=>h (e.trans z))]
   ·rw[bG (p:=p) e,bG e,ih]
theorem o9(k j:κ)(y:V):∀kvs:List (κ × V),cU kvs k=none->cU (kvs++[(k,y)]) j=if j=k then some y else cU kvs j
 | [],_=>by
  by_cases e:k=j
  ·rw[if_pos e.symm];exact bO (p:=(k,y)) e
  ·rw[if_neg (fun z=>e z.symm)];exact bG (p:=(k,y)) e
 |p::r,hn=>by
  rw[ZC];have hk:¬ p.1=k:=fun z=>by rw[bO z]at hn;cases hn
  rw[bG hk]at hn;have ih:=o9 k j y r hn;by_cases e:p.1=j
  ·rw[bO e,bO e,if_neg (fun z=>hk (e.trans z))]
  ·rw[bG e,bG e,ih]
theorem rL(kvs:List (κ × V))(k j:κ)(y:V):cU (cW kvs k y) j=if j=k then some y else cU kvs j:=by
 unfold cW;by_cases a:(kvs.any fun kv=>decide (kv.1=k))=true
 ·rw[if_pos a,sW]
  rw[ie]at a;by_cases e:j=k
  ·obtain⟨x,hx⟩:=Option.isSome_iff_exists.mp a
   rw[if_pos e,e,hx,Option.map_some,if_pos rfl]
  ·rw[if_neg e]
   cases cU kvs j with
   |none=>rfl
   |some x=>rw[Option.map_some,if_neg e]
 ·rw[if_neg a]
  refine o9 k j y kvs ?_;rw[ie]at a;cases q:cU kvs k with
  |none=>rfl
  |some x=>rw[q]at a;exact(a rfl).elim
theorem fZ(kvs:List (κ × V))(k:κ)(v:V):(cW kvs k v).length<=kvs.length+1:=by
 unfold cW;split
 ·rw[zK];lia
 ·rw[yw,uO,Y4];lia
theorem nc{kvs:List (κ × V)}{k:κ}(v:V)(h:cU kvs k=none):cW kvs k v=kvs++[(k,v)]:=by
 unfold cW;rw[ie,h];exact if_neg (by decide)
theorem RelO.isSome_eq{o:Option V}{u:Option Value}(r:RelO o u):o.isSome=u.isSome:=by
 cases o with
 |none=>cases u with
  |none=>rfl
  |some _=>exact(show False from r).elim
 |some _=>cases u with
  |none=>exact(show False from r).elim
  |some _=>rfl
theorem RelO.getD{o:Option V}{u:Option Value}{d:V}{d':Value}(r:RelO o u)(rd:RelV d d'):RelV (o.getD d) (u.getD d'):=by
 cases o with
 |none=>cases u with
  |none=>exact rd
  |some _=>exact(show False from r).elim
 |some _=>cases u with
  |none=>exact(show False from r).elim
  |some _=>exact r
theorem KV.val{kvs:List (κ × V)}{vs:List (κ × Value)}(r:KV kvs vs)(k:κ):RelO (cU kvs k) (valueAt vs k):=by
 unfold KV at r
 induction r with
 |nil=>exact Z2
 | @cons p q ps qs h t ih=>
  obtain⟨h1,h2⟩:=h;by_cases e:p.1=k
  ·have e':q.1=k:=h1.symm.trans e
   have b:valueAt (q::qs) k=some q.2:=by simp[valueAt,List.find?_cons,e']
   rw[bO e,b];exact h2
  ·have e':¬ q.1=k:=fun z=>e (h1.trans z)
   have b:valueAt (q::qs) k=valueAt qs k:=by simp[valueAt,List.find?_cons,e']
   rw[bG e,b];exact ih
theorem KV.any{kvs:List (κ × V)}{vs:List (κ × Value)}(r:KV kvs vs)(k:κ):(kvs.any fun kv=>decide (kv.1=k))=vs.any fun kv=>decide (kv.1=k):=by
 unfold KV at r
 induction r with
 |nil=>rfl
 |cons h t ih=>rw[Y9,Y9,ih,h.1]
theorem KV.repl{kvs:List (κ × V)}{vs:List (κ × Value)}(r:KV kvs vs)(k:κ){y:V}{u:Value}(ry:RelV y u) :
 KV (kvs.map fun kv=>if kv.1=k then (kv.1,y) else kv) (vs.map fun kv=>if kv.1=k then (kv.1,u) else kv):=by
 unfold KV at r |-
 induction r with
 |nil=>exact .nil
 | @cons p q ps qs h t ih=>
  rw[xx,xx];refine .cons ?_ ih;obtain⟨h1,h2⟩:=h;by_cases e:p.1=k
  ·rw[if_pos e,if_pos (h1.symm.trans e)];exact⟨h1,ry⟩
  ·rw[if_neg e,if_neg (fun z=>e (h1.trans z))];exact⟨h1,h2⟩
theorem KV.put{kvs:List (κ × V)}{vs:List (κ × Value)}(r:KV kvs vs)(k:κ){y:V}{u:Value}(ry:RelV y u):KV (cW kvs k y) (stored vs k u):=by
 unfold cW stored;rw[r.any k];by_cases e:(vs.any fun kv=>decide (kv.1=k))=true
 ·rw[if_pos e,if_pos e];exact r.repl k ry
 ·rw[if_neg e,if_neg e];exact Paired.snoc r ⟨rfl,ry⟩
theorem KV.keys{kvs:List (κ × V)}{vs:List (κ × Value)}(r:KV kvs vs):kvs.map (·.1)=vs.map (·.1):=by
 unfold KV at r
 induction r with
 |nil=>rfl
 |cons h t ih=>rw[xx,xx,ih,h.1]
theorem KV.length{kvs:List (κ × V)}{vs:List (κ × Value)}(r:KV kvs vs):kvs.length=vs.length:=Paired.length r
end
theorem lA{P:Program}{w:World}{k:Key}{u:Value}(r:RelV (kV k) u):(bb P w).is k u=true:=by
 cases k with
 |inl i=>obtain⟨t,e⟩:=(show ∃t,u=Value.int i t from r);subst e;exact tQ P w i t
 |inr x=>obtain⟨t,e⟩:=(show ∃t,u=Z9 x t from r);subst e;exact sy P w x t
theorem EB{a b:Key}(e:kV a=kV b):a=b:=by
 cases a with
 |inl i=>cases b with
  |inl j=>have e':V.int i=V.int j:=e;injection e' with e';rw[e']
  |inr y=>exact nomatch (show V.int i=V.str y from e)
 |inr x=>cases b with
  |inl j=>exact nomatch (show V.str x=V.int j from e)
  |inr y=>have e':V.str x=V.str y:=e;injection e' with e';rw[e']
theorem wf:∀ {a b:List Key},a.map kV=b.map kV->a=b
 | [],[],_=>rfl
 | [],_::_,e=>by simp at e
 |_::_,[],e=>by simp at e
 |x::xs,y::ys,e=>by
  rw[xx,xx]at e;injection e with e1 e2
  rw[EB e1,wf e2]
theorem o6{P:Program}{w:World}:∀ {ks:List Key} {us:List Value},Vals (ks.map kV) us->ItemsAre (bb P w) ks us
 | [],_,r=>by rw[YO]at r;cases r;exact .nil
 |k::ks,_,r=>by
  rw[xx]at r;cases r with
  |cons h t=>exact .cons (lA h) (o6 t)
abbrev KT(H:Hp):List (List Key × V)->List (List Key × Addr × Value)->Prop:=Paired fun p q=>p.1=q.1/\H q.2.1=some (.tup (p.1.map kV))/\RelV p.2 q.2.2
theorem KT.val{H:Hp}{kvs:List (List Key × V)}{xs:List (List Key × Addr × Value)}(r:KT H kvs xs)(k:List Key):RelO (cU kvs k) ((atKey xs k).map (·.2)):=by
 induction r with
 |nil=>exact Z2
 | @cons p q ps qs h t ih=>
  obtain⟨h1,_,h2⟩:=h;by_cases e:p.1=k
  ·have e':q.1=k:=h1.symm.trans e
   have b:atKey (q::qs) k=some q.2:=by simp[atKey,List.find?_cons,e']
   rw[bO e,b];exact h2
  ·have e':¬ q.1=k:=fun z=>e (h1.trans z)
   have b:atKey (q::qs) k=atKey qs k:=by simp[atKey,List.find?_cons,e']
   rw[bG e,b];exact ih
theorem KT.repl{H:Hp}{kvs:List (List Key × V)}{xs:List (List Key × Addr × Value)}(r:KT H kvs xs)(k:List Key){y:V}{u:Value}(ry:RelV y u) :
 KT H (kvs.map fun kv=>if kv.1=k then (kv.1,y) else kv) (xs.map (putAt k u)):=by
 induction r with
 |nil=>exact .nil
 | @cons p q ps qs h t ih=>
  rw[xx,xx];refine .cons ?_ ih;obtain⟨h1,h2,h3⟩:=h;unfold putAt;by_cases e:p.1=k
  ·rw[if_pos e,if_pos (h1.symm.trans e)];exact⟨h1,h2,ry⟩
  ·rw[if_neg e,if_neg (fun z=>e (h1.trans z))];exact⟨h1,h2,h3⟩
theorem KT.put{H:Hp}{kvs:List (List Key × V)}{xs:List (List Key × Addr × Value)}(r:KT H kvs xs)(k:List Key){b:Addr}{y:V}{u:Value}(hb:H b=some (.tup (k.map kV)))(ry:RelV y u) :
 KT H (cW kvs k y) (storedH xs k b u):=by
 have e:(kvs.any fun kv=>decide (kv.1=k))=(atKey xs k).isSome:=by
  rw[ie,(r.val k).isSome_eq,YN]
 unfold cW storedH;rw[e];by_cases q:(atKey xs k).isSome=true
 ·rw[if_pos q,if_pos q];exact r.repl k ry
 ·rw[if_neg q,if_neg q];exact Paired.snoc r ⟨rfl,hb,ry⟩
theorem KT.keeps{H H':Hp}{kvs:List (List Key × V)}{xs:List (List Key × Addr × Value)}(r:KT H kvs xs)(ht:∀b ys,H b=some (.tup ys)->H' b=some (.tup ys)):KT H' kvs xs:=
 Paired.mapP r fun _ _ z=>⟨z.1,ht _ _ z.2.1,z.2.2⟩
section
variable{P:Program}{w:World}{H:Hp}{h:Heap}{a:Addr}
theorem yQ{u:HO}(ok:HOk P w H h)(e:Rd H a u):ObjOk P w H h a u:=e.ok ok
theorem lC{kvs:List (Key × V)}(ok:HOk P w H h)(e:Rd H a (.dK kvs)):kvs.length<=sizeLine/\(a==ZP)=false/\∃vs,KV kvs vs/\h.DictOf (bb P w) a vs:=
 show ObjOk P w H h a (.dK kvs) from yQ ok e
theorem BL{kvs:List (Key × V)}(ok:HOk P w H h)(e:H a=some (.dK kvs)):kvs.length<=sizeLine/\(a==ZP)=false/\∃vs,KV kvs vs/\h.DictOf (bb P w) a vs:=lC ok (.inl e)
theorem je{ks:List Key}(ok:HOk P w H h)(e:H a=some (.tup (ks.map kV))):(tupleKind (bb P w)).is h ks a:=by
 obtain⟨_,its,r,o,h1,h2,n,h3⟩:=(show ObjOk P w H h a (.tup (ks.map kV)) from ok a _ e);exact⟨o,its.toArray,n,h1,h2,h3,by simpa using o6 r⟩
theorem k9{kvs:List (List Key × V)}(ok:HOk P w H h)(e:Rd H a (.dT kvs)):kvs.length<=sizeLine/\(a==ZP)=false /\
 ∃xs,KT H kvs xs/\h.DictOfH (tupleKind (bb P w)) a xs:=by
 obtain⟨z,y,xs,r,o,es,ep,h1,h2,h3,h4,h5⟩:=(show ObjOk P w H h a (.dT kvs) from yQ ok e);refine⟨z,y,xs,r,o,es,ep,h1,h2,h3,h4,fun x hx=>?_,h5⟩;have all:∀ {l:List (List Key × V)} {m:List (List Key × Addr × Value)},KT H l m->∀x∈m,(tupleKind (bb P w)).is h x.1 x.2.1:=by
  intro l m q
  induction q with
  |nil=>intro x hx;exact nomatch hx
  | @cons p q ps qs hq t ih=>
   intro x hx;rcases zG.mp hx with e|hx
   ·subst e
    exact je ok (by rw[<- hq.1];exact hq.2.1)
   ·exact ih x hx
 exact all r x hx
theorem DI{kvs:List (List Key × V)}(ok:HOk P w H h)(e:H a=some (.dT kvs)):kvs.length<=sizeLine/\(a==ZP)=false /\
 ∃xs,KT H kvs xs/\h.DictOfH (tupleKind (bb P w)) a xs:=k9 ok (.inl e)
end
def DGet(H:Hp)(a:Addr)(y:V)(r:Option V):Prop:=
 (∃kvs k,Rd H a (.dK kvs)/\y=kV k/\r=cU kvs k)\/∃kvs k b,Rd H a (.dT kvs)/\y = .ref b/\H b=some (.tup (k.map kV))/\r=cU kvs k
def DPut(H:Hp)(a:Addr)(y v:V)(H':Hp):Prop:=
 (∃kvs k,H a=some (.dK kvs)/\y=kV k/\kvs.length<sizeLine/\H'=upd H a (.dK (cW kvs k v))) \/
 ∃kvs k b,H a=some (.dT kvs)/\y = .ref b/\H b=some (.tup (k.map kV))/\kvs.length<sizeLine/\H'=upd H a (.dT (cW kvs k v))
theorem DGet.k{H:Hp}{a:Addr}{kvs:List (Key × V)}{k:Key}(e:H a=some (.dK kvs)):DGet H a (kV k) (cU kvs k):=.inl ⟨kvs,k,.inl e,rfl,rfl⟩
theorem DGet.t{H:Hp}{a b:Addr}{kvs:List (List Key × V)}{k:List Key}(e:H a=some (.dT kvs))(eb:H b=some (.tup (k.map kV))):DGet H a (.ref b) (cU kvs k):=.inr ⟨kvs,k,b,.inl e,rfl,eb,rfl⟩
theorem DPut.k{H:Hp}{a:Addr}{kvs:List (Key × V)}{k:Key}{v:V}(e:H a=some (.dK kvs))(hl:kvs.length<sizeLine):DPut H a (kV k) v (upd H a (.dK (cW kvs k v))):=.inl ⟨kvs,k,e,rfl,hl,rfl⟩
theorem DPut.t{H:Hp}{a b:Addr}{kvs:List (List Key × V)}{k:List Key}{v:V}(e:H a=some (.dT kvs))(eb:H b=some (.tup (k.map kV)))(hl:kvs.length<sizeLine) :
 DPut H a (.ref b) v (upd H a (.dT (cW kvs k v))):=.inr ⟨kvs,k,b,e,rfl,eb,hl,rfl⟩
section
variable{X:Cx}{pins:List (Addr × Obj)}{σ:St}{H:Hp}{s:Shared}{a:Addr}{y v:V}{u r:Value}{o:Option V}{A:Around}{E:Value->Shared->Prop}
theorem Inv.big(I:Inv X pins σ H s):ZP<s.heap.objs.size:=by
 have h:ZL<s.heap.objs.size:=(I.mod.glob.keeps I.bk).lt;exact Nat.lt_trans (by decide) h
theorem yM{Q:Value->Shared->Prop}(hu:A.units+1<cLine)(I:Inv X pins σ H s)(g:DGet H a y (some v))(ry:RelV y u)(h:∀w' s',Inv X pins σ H s'->RelV v w'->Q w' s') :
 wpAny (model X.prog X.w) A (getItem (.ref a) u) Q E s:=by
 rcases g with ⟨kvs,k,e,ey,l⟩|⟨kvs,k,b,e,ey,eb,l⟩
 ·subst ey
  obtain⟨z,hd,vs,rel,dd⟩:=lC I.hok e;obtain⟨w',hw,rw'⟩:=RelO.some_of (v:=v) (o:=valueAt vs k) (by rw[l];exact rel.val k);exact wpAny_getItem_of (lA ry) dd.mapOf hw (h w' _ (I.tok _) rw')
 ·subst ey
  cases (show u=yy b from ry);obtain⟨z,hd,xs,rel,dd⟩:=k9 I.hok e;obtain⟨w',hw,rw'⟩:=RelO.some_of (v:=v) (o:=(atKey xs k).map (·.2)) (by rw[l];exact rel.val k);obtain⟨p,hp,hp2⟩:=uE.mp hw;refine wpAny_getItem_heap (Yb hu) (je I.hok eb) dd hp ?_;rw[hp2];exact h w' _ (I.tok _) rw'
theorem Iu{Q:Value->Shared->Prop}(hu:A.units+1<cLine)(I:Inv X pins σ H s)(g:DGet H a y o)(ry:RelV y u)(h:∀s',Inv X pins σ H s'->Q (.bool o.isSome) s') :
 wpAny (model X.prog X.w) A (rB .In u (.ref a)) Q E s:=by
 rcases g with ⟨kvs,k,e,ey,l⟩|⟨kvs,k,b,e,ey,eb,l⟩
 ·subst ey
  obtain⟨z,hd,vs,rel,dd⟩:=lC I.hok e;refine wpAny_in_of (lA ry) hd dd.mapOf ?_;rw[<- (rel.val k).isSome_eq,<- l];exact h _ (I.tok _)
 ·subst ey
  cases (show u=yy b from ry);obtain⟨z,hd,xs,rel,dd⟩:=k9 I.hok e;refine wpAny_in_heap (Yb hu) (je I.hok eb) hd dd ?_;have q:=(rel.val k).isSome_eq;rw[YN]at q;rw[<- q,<- l];exact h _ (I.tok _)
theorem Df{Q:Value->Shared->Prop}(hu:A.units+1<cLine)(I:Inv X pins σ H s)(g:DGet H a y o)(ry:RelV y u)(h:∀s',Inv X pins σ H s'->Q (.bool (!o.isSome)) s') :
 wpAny (model X.prog X.w) A (rB .NotIn u (.ref a)) Q E s:=by
 rcases g with ⟨kvs,k,e,ey,l⟩|⟨kvs,k,b,e,ey,eb,l⟩
 ·subst ey
  obtain⟨z,hd,vs,rel,dd⟩:=lC I.hok e;refine wpAny_notIn_of (lA ry) hd dd.mapOf ?_;rw[<- (rel.val k).isSome_eq,<- l];exact h _ (I.tok _)
 ·subst ey
  cases (show u=yy b from ry);obtain⟨z,hd,xs,rel,dd⟩:=k9 I.hok e;refine wpAny_notIn_heap (Yb hu) (je I.hok eb) hd dd ?_;have q:=(rel.val k).isSome_eq;rw[YN]at q;rw[<- q,<- l];exact h _ (I.tok _)
theorem qk{h':Heap}{t':Nat}{ob:HO}(I:Inv X pins σ H s)(mu:Mut (H a))(hs:Yx a s.heap h')(he:∃q,h'.get? a=some q)(new:ObjOk X.prog X.w (upd H a ob) h' a ob) :
 Inv X pins σ (upd H a ob) { s with heap:=h',toks:=t' }:=
 I.write (x:=a) (e:=a) mu (.inl rfl) (fun b q hb z=>(hs.2 b hb).trans z) he new
theorem zY{P:Program}{w:World}{H':Hp}{h':Heap}{kvs:List (Key × V)}{vs:List (Key × Value)}(z:kvs.length<=sizeLine)(hd:(a==ZP)=false)(rel:KV kvs vs)(dd:h'.DictOf (bb P w) a vs) :
 ObjOk P w H' h' a (.dK kvs):=⟨z,hd,vs,rel,dd⟩
theorem yG{H':Hp}{Q:Unit->Shared->Prop}(hu:A.units+1<cLine)(I:Inv X pins σ H s)(g:DPut H a y v H')(ry:RelV y u)(rv:RelV v r)(h:∀s',Inv X pins σ H' s'->Q () s') :
 wpAny (model X.prog X.w) A (setItem (.ref a) u r) Q E s:=by
 rcases g with ⟨kvs,k,e,ey,l,eH⟩|⟨kvs,k,b,e,ey,eb,l,eH⟩
 ·subst ey eH
  obtain⟨z,hd,vs,rel,dd⟩:=BL I.hok e;have hz:vs.length<=sizeLine:=by rw[<- rel.length];exact z
  have hl:(cW kvs k v).length<=sizeLine:=by have:=fZ kvs k v;lia
  refine wpAny_setItem_pairs (hsz:=hz) (lA ry) dd fun h' dd' hs=>h _ ?_;have he:∃q,h'.get? a=some q:=let ⟨q,_,_,hq,_⟩:=dd';⟨q,hq⟩;exact qk I (by rw[e];exact Z2) hs he (zY hl hd (rel.put k rv) dd')
 ·subst ey eH
  cases (show u=yy b from ry);obtain⟨z,hd,xs,rel,dd⟩:=DI I.hok e;have hz:xs.length<=sizeLine:=by rw[<- Paired.length rel];exact z
  have hl:(cW kvs k v).length<=sizeLine:=by have:=fZ kvs k v;lia
  refine wpAny_setItem_heap (hsz:=hz) (Yb hu) (je I.hok eb) dd fun h' dd' hs=>h _ ?_;obtain⟨q,es,ep,hq,h2,h3,h4,_,h5⟩:=dd';refine qk I (by rw[e];exact Z2) hs ⟨q,hq⟩ ⟨hl,hd,_,(rel.put k eb rv).keeps fun c ys ec=>?_,q,es,ep,hq,h2,h3,h4,h5⟩;rw[ah (GR ec e (fun z=>nomatch z))];exact ec
end
section
variable{X:Cx}{pins:List (Addr × Obj)}{σ:St}{H:Hp}{s:Shared}{a:Addr}{kvs:List (Key × V)}{k:Key}{u:Value}{A:Around}{E:Value->Shared->Prop}
end
def Hu(i:Expr):Prop:=∀ov iv,subscripted i false ov iv=operate [ov,iv] (getItem ov iv)
theorem C6{prog:Program}{w:World}{A:Around}{E:Value->Shared->Prop}{s:Shared}{env:Env}{value slice:Expr}{pos:Pos}{T id:String}{Q:Value->Shared->Prop}
 (hl:typeLookup (.type T) "__getitem__" = pure (some (.builtin id))) (hs:Hu slice)
 (h:wpAny (model prog w) A (eval value env) (fun o s₁=>wpAny (model prog w) A (eval slice env) (fun i s₂=>s₂.TypeIs o T/\wpAny (model prog w) A (getItem o i) Q E s₂) E s₁) E s) :
 wpAny (model prog w) A (eval (.Subscript value slice pos) env) Q E s:=by
 refine Subscript_ (qN h (fun o s₁ h₁=>qN h₁ (fun i s₂ h₂=>?_) fun _ _ x=>x) fun _ _ x=>x);obtain⟨hT,h₂⟩:=h₂;unfold subscriptTail;refine zm ?_;rw[getitemInPython_of_ne hT.not_modules];refine zm (wpAny_specialOf hT hl ?_);have fin:wpAny (model prog w) A (subscripted slice false o i) (fun r s₃=>wpAny (model prog w) A (letTemporaryGo value o r >>= fun _=>pure r) Q E s₃) E s₂:=by
  rw[hs o i];exact wpAny_operating (qN h₂ (fun r s₃ h₃=>zm (wpAny_letTemporaryGo (za h₃))) fun _ _ x=>x)
 first
  |exact za (zm fin)
  |exact zm (za (zm fin))
  |exact zm fin
theorem tY{X:Cx}{pins:List (Addr × Obj)}{σ:St}{H:Hp}{s:Shared}{a:Addr}{y:V}{o:Option V}(I:Inv X pins σ H s)(g:DGet H a y o):s.TypeIs (.ref a) "dict":=by
 rcases g with ⟨kvs,k,e,_,_⟩|⟨kvs,k,b,e,_,_,_⟩
 ·obtain⟨_,_,vs,_,dd⟩:=lC I.hok e
  exact dd.typeIs
 ·obtain⟨_,_,xs,_,dd⟩:=k9 I.hok e
  exact dd.typeIs
def DB(td ty:TE):TE:=fun σ H Q=>td σ H fun x H1=>ty σ H1 fun y H2=>∃a v,x = .ref a/\DGet H2 a y (some v)/\Q v H2
def GB(ty td:TE):TE:=fun σ H Q=>ty σ H fun y H1=>td σ H1 fun x H2=>∃a o,x = .ref a/\DGet H2 a y o/\Q (.bl o.isSome) H2
def wu(ty td:TE):TE:=fun σ H Q=>ty σ H fun y H1=>td σ H1 fun x H2=>∃a o,x = .ref a/\DGet H2 a y o/\Q (.bl (!o.isSome)) H2
def Ec(td ty tv:TE):TS:=fun D σ H=>tv σ H fun v H1=>td σ H1 fun x H2=>ty σ H2 fun y H3=>∃a H4,x = .ref a/\DPut H3 a y v H4/\D.nx σ H4
section
variable{X:Cx}{o i e value:Expr}{pos pos' tpos:Pos}{td ty tv:TE}
theorem bQ(hu:X.A.units+1<cLine)(ho:PE X o td)(hi:PE X i ty)(hs:Hu i):PE X (.Subscript o i pos) (DB td ty):=by
 intro pins s σ H Q I h;refine C6 PySem.F.slot_dict_getitem.lookup hs (thn (ho pins s σ H _ I h) fun u s1 ⟨x,H1,I1,rx,q1⟩=>thn (hi pins s1 σ H1 _ I1 q1) fun iv s2 ⟨y,H2,I2,ry,a,v,ex,g,q2⟩=>?_);subst ex;obtain rfl:u=yy a:=rx;exact⟨tY I2 g,yM hu I2 g ry fun w' s3 I3 rw'=>⟨v,H2,I3,rw',q2⟩⟩
theorem vL(hu:X.A.units+1<cLine)(hi:PE X i ty)(ho:PE X o td):PC X .In i o (GB ty td):=by
 intro pins s σ H Q I h;refine thn (hi pins s σ H _ I h) fun iv s1 ⟨y,H1,I1,ry,q1⟩=>thn (ho pins s1 σ H1 _ I1 q1) fun u s2 ⟨x,H2,I2,rx,a,ov,ex,g,q2⟩=>?_;subst ex;obtain rfl:u=yy a:=rx;exact Iu hu I2 g ry fun s3 I3=>⟨.bl ov.isSome,H2,I3,rfl,q2⟩
theorem oZ(hu:X.A.units+1<cLine)(hi:PE X i ty)(ho:PE X o td):PC X .NotIn i o (wu ty td):=by
 intro pins s σ H Q I h;refine thn (hi pins s σ H _ I h) fun iv s1 ⟨y,H1,I1,ry,q1⟩=>thn (ho pins s1 σ H1 _ I1 q1) fun u s2 ⟨x,H2,I2,rx,a,ov,ex,g,q2⟩=>?_;subst ex;obtain rfl:u=yy a:=rx;exact Df hu I2 g ry fun s3 I3=>⟨.bl (!ov.isSome),H2,I3,rfl,q2⟩
theorem gY(hu:X.A.units+1<cLine)(ho:PE X o td)(hi:PE X i ty)(hv:PE X value tv)(hs:swapsWith value (some (.Subscript o i pos')) pos.line X.env=pure false) :
 PS X (.Assign [.Subscript o i pos'] value pos) (Ec td ty tv):=by
 intro pins s σ H D I h;refine wpAny_Assign_Subscript (thn (hv pins s σ H _ I h) fun r s1 ⟨v,H1,I1,rv,q1⟩=>thn (ho pins s1 σ H1 _ I1 q1) fun u s2 ⟨x,H2,I2,rx,q2⟩=>thn (hi pins s2 σ H2 _ I2 q2) fun iv s3 ⟨y,H3,I3,ry,a,H4,ex,g,q3⟩=>?_) hs;subst ex;obtain rfl:u=yy a:=rx;exact yG hu I3 g ry rv fun s4 I4=>⟨σ,H4,I4,q3⟩
end
theorem yZ{P:Program}{w:World}{H:Hp}(h:Heap)(hb:ZP<h.objs.size):ObjOk P w H (h.push { cls:=.type "dict",data:=.dict #[] }) h.objs.size (.dK []):=
 ⟨ud _,beq_eq_false_iff_ne.mpr (Ne.symm (xK hb)),[],.nil,Heap.DictOf.new h⟩
theorem A3{P:Program}{w:World}{H:Hp}(h:Heap)(hb:ZP<h.objs.size):ObjOk P w H (h.push { cls:=.type "dict",data:=.dict #[] }) h.objs.size (.dT []):=
 ⟨ud _,beq_eq_false_iff_ne.mpr (Ne.symm (xK hb)),[],.nil,_,#[],0,Heap.get?_push_size _ rfl,⟨rfl,rfl,rfl⟩,rfl,rfl,List.nodup_nil⟩
def yW:TE:=fun _ H Q=>∀p,H p=none->Q (.ref p) (upd H p (.dT []))
section
variable{X:Cx}{pos:Pos}
theorem sL:PE X (.Dict [] [] pos) yW:=fun pins s σ H Q I h=>
 wpAny_Dict_empty ⟨.ref s.heap.objs.size,_,I.laid (a:=s.heap.objs.size) (o:=.dT []) (t':=s.toks) (fun _ _ q=>Heap.get?_push_of_some _ q) (z4 _) (A3 s.heap I.big),rfl,h _ (I.hok.fresh (z4 _))⟩
end
def vf:List (TE × TE)->St->Hp->(List (V × V)->Hp->Prop)->Prop
 | [],_,H,Q=>Q [] H
 |(tk,tv)::r,σ,H,Q=>tk σ H fun x H1=>tv σ H1 fun y H2=>vf r σ H2 fun ps H3=>Q ((x,y)::ps) H3
abbrev VV:List (V × V)->List (Value × Value)->Prop:=Paired fun p q=>RelV p.1 q.1/\RelV p.2 q.2
def PPs(X:Cx)(pos:Pos)(keys:List (Option Expr))(values:List Expr)(trs:List (TE × TE)):Prop:=
 ∀(pins:List (Addr × Obj)) (s:Shared) (σ:St) (H:Hp) (Q:List (V × V)->Hp->Prop),Inv X pins σ H s->vf trs σ H Q ->
  wpAny (model X.prog X.w) X.A (evalPairs (pairTrees keys values X.env pos)) (fun vs s'=>∃ps H',Inv X pins σ H' s'/\VV ps vs/\Q ps H') X.xe s
theorem Ck{X:Cx}{pos:Pos}:PPs X pos [] [] []:=fun pins s σ H Q I h=>pairTrees_nil_walk ⟨[],H,I,.nil,h⟩
theorem tF{X:Cx}{pos:Pos}{k v:Expr}{ks:List (Option Expr)}{vs:List Expr}{tk tv:TE}{trs:List (TE × TE)}(hk:PE X k tk)(hv:PE X v tv)(hr:PPs X pos ks vs trs) :
 PPs X pos (some k::ks) (v::vs) ((tk,tv)::trs):=fun pins s σ H Q I h=>
 pairTrees_cons_walk (thn (hk pins s σ H _ I h) fun u s1 ⟨x,H1,I1,rx,q1⟩=>thn (hv pins s1 σ H1 _ I1 q1) fun w2 s2 ⟨y,H2,I2,ry,q2⟩=>
  thn (hr pins s2 σ H2 _ I2 q2) fun ws s3 ⟨ps,H3,I3,rel,q3⟩=>⟨(x,y)::ps,H3,I3,.cons ⟨rx,ry⟩ rel,q3⟩)
def nB(kvs more:List (Key × V)):List (Key × V):=more.foldl (fun acc kv=>cW acc kv.1 kv.2) kvs
theorem KV.merge:∀ {more:List (Key × V)} {rs:List (Key × Value)} {kvs:List (Key × V)} {vs:List (Key × Value)},KV more rs->KV kvs vs->KV (nB kvs more) (merged vs rs):=by
 intro more rs kvs vs r;unfold KV at r
 induction r generalizing kvs vs with
 |nil=>intro q;exact q
 | @cons p q ps qs h t ih=>
  intro r0;have e:KV (cW kvs p.1 p.2) (stored vs q.1 q.2):=by
   have:=r0.put p.1 h.2;rw[<- h.1];exact this
  exact ih e
theorem i6:∀(more kvs:List (Key × V)),(nB kvs more).length<=kvs.length+more.length
 | [],kvs=>by show kvs.length<=kvs.length+0;lia
 |p::r,kvs=>by
  have h1:=i6 r (cW kvs p.1 p.2);have h2:=fZ kvs p.1 p.2;show(nB (cW kvs p.1 p.2) r).length<=_;rw[uO];lia
theorem nZ{P:Program}{w:World}:∀ {kvs:List (Key × V)} {ws:List (Value × Value)},VV (kvs.map fun kv=>(kV kv.1,kv.2)) ws->∃rs,Carries (bb P w) ws rs/\KV kvs rs
 | [],_,r=>by rw[YO]at r;cases r;exact⟨[],Z2,.nil⟩
 |p::kvs,_,r=>by
  rw[xx]at r;cases r with
  | @cons a b as bs h t=>
   obtain⟨rs,c,q⟩:=nZ (P:=P) (w:=w) t;obtain⟨b1,b2⟩:=b;exact⟨(p.1,b2)::rs,⟨lA h.1,rfl,c⟩,.cons ⟨rfl,h.2⟩ q⟩
def Gy(trs:List (TE × TE)):TE:=fun σ H Q=>∀p,H p=none->vf trs σ (upd H p (.dK [])) fun ps H2=>H2 p=some (.dK [])/\∃kvs:List (Key × V),ps=kvs.map (fun kv=>(kV kv.1,kv.2))/\kvs.length<=15/\Q (.ref p) (upd H2 p (.dK (nB [] kvs)))
theorem Ci{X:Cx}{pos:Pos}{keys:List (Option Expr)}{values:List Expr}{trs:List (TE × TE)}(h:PPs X pos keys values trs)(hall:keys.all (·.isSome)=true)(hl:keys.length=values.length)(h0:keys≠[])
 (h15:keys.length<=15):PE X (.Dict keys values pos) (Gy trs):=by
 intro pins s σ H Q I q;have hn:=I.hok.fresh (z4 s.heap.objs.size);have I1:=I.laid (a:=s.heap.objs.size) (o:=.dK []) (h':=s.heap.push { cls:=.type "dict",data:=.dict #[] }) (t':=s.toks) (fun _ _ q=>Heap.get?_push_of_some _ q) (z4 _) (yZ s.heap I.big);refine wpAny_Dict_walk (knd:=bb X.prog X.w) hall hl h0 h15 (thn (h pins _ σ _ _ I1 (q _ hn)) fun ws s2 ⟨ps,H2,I2,rel,e,kvs,ep,lk,q2⟩=>?_);subst ep;obtain⟨rs,c,rk⟩:=nZ (P:=X.prog) (w:=X.w) rel;obtain⟨z,hd,vs0,r0,dd⟩:=BL I2.hok e;cases r0;refine⟨rs,c,dd,fun h' dd' hs=>⟨.ref s.heap.objs.size,_,?_,rfl,q2⟩⟩;have hz:(nB [] kvs).length<=sizeLine:=by
  have h1:=i6 kvs [];rw[Y4]at h1;rw[uS];lia
 have he:∃q,h'.get? s.heap.objs.size=some q:=let ⟨q,_,_,hq,_⟩:=dd';⟨q,hq⟩;exact qk I2 (by rw[e];exact Z2) hs he (zY hz hd (rk.merge .nil) dd')
structure M1(X:Cx)(o:Expr)(m:Str)(apos:Pos)(e:Expr)(cpos:Pos):Prop where
 base:Xa o m X.env (eval o X.env)=eval o X.env
 few:((backTo cpos (starEach [e] X.env)).all (fun x=>!x.1)&&(backToKw cpos (Xq [] X.env)).all (fun x=>x.1.isSome)
  && decide (([e]:List Expr).length+([]:List Keyword).length+(if ([]:List Keyword).isEmpty then 0 else 1)<30))=true
 line:(apos.endLine==cpos.line)=true
 trees:backTo cpos (starEach [e] X.env)=[(false,eval e X.env)]
structure M2(X:Cx)(o:Expr)(m:Str)(apos:Pos)(e f:Expr)(cpos:Pos):Prop where
 base:Xa o m X.env (eval o X.env)=eval o X.env
 few:((backTo cpos (starEach [e,f] X.env)).all (fun x=>!x.1)&&(backToKw cpos (Xq [] X.env)).all (fun x=>x.1.isSome)
  && decide (([e,f]:List Expr).length+([]:List Keyword).length+(if ([]:List Keyword).isEmpty then 0 else 1)<30))=true
 line:(apos.endLine==cpos.line)=true
 trees:backTo cpos (starEach [e,f] X.env)=[(false,eval e X.env),(false,eval f X.env)]
def IsD(H:Hp)(a:Addr):Prop:=(∃kvs,Rd H a (.dK kvs))\/∃kvs,Rd H a (.dT kvs)
theorem yX{X:Cx}{pins:List (Addr × Obj)}{σ:St}{H:Hp}{s:Shared}{a:Addr}(I:Inv X pins σ H s)(d:IsD H a) :
 s.TypeIs (.ref a) "dict" /\ (∀b,yy a = .ref b->∃ob,s.heap.get? b=some ob/\ob.dict=none)/\(a==ZP)=false:=by
 rcases d with ⟨kvs,e⟩|⟨kvs,e⟩
 ·obtain⟨_,hd,vs,_,dd⟩:=lC I.hok e
  refine⟨dd.typeIs,fun b q=>?_,hd⟩;cases q;obtain⟨ob,_,_,h1,h2,_⟩:=dd;exact⟨ob,h1,h2.2.1⟩
 ·obtain⟨_,hd,xs,_,dd⟩:=k9 I.hok e
  refine⟨dd.typeIs,fun b q=>?_,hd⟩;cases q;obtain⟨ob,_,_,h1,h2,_⟩:=dd;exact⟨ob,h1,h2.2.1⟩
section
variable{X:Cx}{pins:List (Addr × Obj)}{σ:St}{H:Hp}{s:Shared}{a:Addr}{y d:V}{u r:Value}{o:Option V}{A:Around}{E:Value->Shared->Prop}
theorem Fi{Q:Value->Shared->Prop}(hu:A.units+1<cLine)(I:Inv X pins σ H s)(g:DGet H a y o)(ry:RelV y u)(h:∀w' s',Inv X pins σ H s'->RelV (o.getD .non) w'->Q w' s') :
 wpAny (model X.prog X.w) A (call (.builtin "dict.get") [.ref a,u]) Q E s:=by
 rcases g with ⟨kvs,k,e,ey,l⟩|⟨kvs,k,b,e,ey,eb,l⟩
 ·subst ey
  obtain⟨z,hd,vs,rel,dd⟩:=lC I.hok e;refine call_meetsIn Z8 dd.typeIs Y2 (PySem.F.args_dict_get_2 _ _) (meets_dict_get (bb X.prog X.w) a (lA ry) hd) ⟨_,dd.mapOf,h _ _ (I.tok _) ?_⟩;rw[l];exact(rel.val k).getD rfl
 ·subst ey
  cases (show u=yy b from ry);obtain⟨z,hd,xs,rel,dd⟩:=k9 I.hok e;refine call_meetsIn Z8 dd.typeIs Y2 (PySem.F.args_dict_get_2 _ _) (meetsH_dict_get (tupleKind (bb X.prog X.w)) a b hd) ⟨Yb hu,k,xs,je I.hok eb,dd,h _ _ (I.tok _) ?_⟩;rw[l];exact(rel.val k).getD rfl
theorem F5{Q:Value->Shared->Prop}(hu:A.units+1<cLine)(I:Inv X pins σ H s)(g:DGet H a y o)(ry:RelV y u)(rd:RelV d r)(h:∀w' s',Inv X pins σ H s'->RelV (o.getD d) w'->Q w' s') :
 wpAny (model X.prog X.w) A (call (.builtin "dict.get") [.ref a,u,r]) Q E s:=by
 rcases g with ⟨kvs,k,e,ey,l⟩|⟨kvs,k,b,e,ey,eb,l⟩
 ·subst ey
  obtain⟨z,hd,vs,rel,dd⟩:=lC I.hok e;refine call_meetsIn Z8 dd.typeIs Y2 (PySem.F.args_dict_get_3 _ _ _) (meets_dict_get_default (bb X.prog X.w) a (lA ry) hd r) ⟨_,dd.mapOf,h _ _ (I.tok _) ?_⟩;rw[l];exact(rel.val k).getD rd
 ·subst ey
  cases (show u=yy b from ry);obtain⟨z,hd,xs,rel,dd⟩:=k9 I.hok e;refine call_meetsIn Z8 dd.typeIs Y2 (PySem.F.args_dict_get_3 _ _ _) (meetsH_dict_get_default (tupleKind (bb X.prog X.w)) a b hd r) ⟨Yb hu,k,xs,je I.hok eb,dd,h _ _ (I.tok _) ?_⟩;rw[l];exact(rel.val k).getD rd
end
def Bt(td ty:TE):TE:=fun σ H Q=>td σ H fun x H1=>∃a,x = .ref a/\IsD H1 a/\ty σ H1 fun y H2=>∃o,DGet H2 a y o/\Q (o.getD .non) H2
def y4(td ty tx:TE):TE:=fun σ H Q=>td σ H fun x H1=>∃a,x = .ref a/\IsD H1 a/\ty σ H1 fun y H2=>tx σ H2 fun z H3=>∃o,DGet H3 a y o/\Q (o.getD z) H3
section
variable{X:Cx}{o e f:Expr}{apos cpos:Pos}{td ty tx:TE}
theorem AL(hu:X.A.units+1<cLine)(ho:PE X o td)(he:PE X e ty)(m:M1 X o "get" apos e cpos):PE X (.Call (.Attribute o "get" apos) [e] [] cpos) (Bt td ty):=by
 intro pins s σ H Q I h;refine wpAny_Call_method m.base m.few m.line PySem.F.plainAttrs_dict Z8 PySem.F.type_dict_get (thn (ho pins s σ H _ I h) fun u s1 ⟨x,H1,I1,rx,a,ex,d,q1⟩=>?_);subst ex;obtain rfl:u=yy a:=rx;obtain⟨t1,t2,_⟩:=yX I1 d;refine⟨t1,t2,?_⟩;rw[m.trees];refine Calls.callWith_builtin rfl (ZB (ZE (thn (he pins s1 σ H1 _ I1 q1) fun iv s2 ⟨y,H2,I2,ry,ov,g,q2⟩=>YK ?_)));exact Fi hu I2 g ry fun w' s3 I3 rw'=>⟨_,H2,I3,rw',q2⟩
theorem sP(hu:X.A.units+1<cLine)(ho:PE X o td)(he:PE X e ty)(hf:PE X f tx)(m:M2 X o "get" apos e f cpos):PE X (.Call (.Attribute o "get" apos) [e,f] [] cpos) (y4 td ty tx):=by
 intro pins s σ H Q I h;refine wpAny_Call_method m.base m.few m.line PySem.F.plainAttrs_dict Z8 PySem.F.type_dict_get (thn (ho pins s σ H _ I h) fun u s1 ⟨x,H1,I1,rx,a,ex,d,q1⟩=>?_);subst ex;obtain rfl:u=yy a:=rx;obtain⟨t1,t2,_⟩:=yX I1 d;refine⟨t1,t2,?_⟩;rw[m.trees];refine Calls.callWith_builtin rfl (ZB (ZE (thn (he pins s1 σ H1 _ I1 q1) fun iv s2 ⟨y,H2,I2,ry,q2⟩=>
  ZE (thn (hf pins s2 σ H2 _ I2 q2) fun fv s3 ⟨z,H3,I3,rz,ov,g,q3⟩=>YK ?_))))
 exact F5 hu I3 g ry rz fun w' s4 I4 rw'=>⟨_,H3,I4,rw',q3⟩
end
section
variable{X:Cx}{pins:List (Addr × Obj)}{σ:St}{H:Hp}{s:Shared}{a:Addr}{kvs:List (Key × V)}{A:Around}{E:Value->Shared->Prop}
end
section
variable{X:Cx}{pins:List (Addr × Obj)}{σ:St}{H:Hp}{s:Shared}{a:Addr}{y:V}{u:Value}{A:Around}{E:Value->Shared->Prop}
end
section
variable{X:Cx}{e o value:Expr}{f:Str}{ta tv:TE}{pos pos':Pos}
def Fj(K:W.Frag)(f:Str):V->Hp->VK->Prop
 | .ref p,H,Q=>∃C dx fs v,H p=some (.ins C dx fs)/\Cls K C/\NoAttr K C f/\fs.lookup f=some v/\Q v H
 |_,_,_=>False
def DZ(K:W.Frag)(ta:TE)(f:Str):TE:=fun σ H Q=>ta σ H fun x H1=>Fj K f x H1 Q
theorem a_(K:W.Frag)(he:PE X e ta)(hK:X.K=K:=by rfl)(hb:Xa e f X.env (eval e X.env)=eval e X.env:=by rfl):PE X (.Attribute e f pos) (DZ K ta f):=by
 subst hK;intro pins s σ H Q I h;refine B6 hb (thn (he pins s σ H _ I h) fun u s1 ⟨x,H1,I1,rx,q⟩=>?_);dsimp only at q;unfold Fj at q;split at q
 ·rename_i a
  obtain⟨C,dx,fs,v,ea,c,n,l,q⟩:=q;obtain rfl:u=yy a:=rx;exact ur I1 ea c n l fun u' s2 I2 ru=>⟨v,H1,I2,ru,q⟩
 ·exact q.elim
def z9(K:W.Frag)(f:Str)(y:V):V->Hp->(Hp->Prop)->Prop
 | .ref p,H,Q=>∃C dx fs,H p=some (.ins C dx fs)/\Cls K C/\NoAttr K C f/\fs.length<1000/\Q (upd H p (.ins C dx (dE f y fs)))
 |_,_,_=>False
def DP(K:W.Frag)(ta tv:TE)(f:Str):TS:=fun D σ H=>tv σ H fun y H1=>ta σ H1 fun x H2=>z9 K f y x H2 fun H3=>D.nx σ H3
theorem dF(K:W.Frag)(ha:PE X o ta)(hv:PE X value tv)(hK:X.K=K:=by rfl)(hs:swapsWith value (some (.Attribute o f pos')) pos.line X.env=pure false:=by rfl):PS X (.Assign [.Attribute o f pos'] value pos) (DP K ta tv f):=by
 subst hK;intro pins s σ H D I h;refine plainObj_wpAny_Assign_Attribute (thn (hv pins s σ H _ I h) fun u s1 ⟨y,H1,I1,ry,q⟩=>thn (ha pins s1 σ H1 _ I1 q) fun ov s2 ⟨x,H2,I2,rx,q2⟩=>?_) hs;dsimp only at q2;unfold z9 at q2;split at q2
 ·rename_i a
  obtain⟨C,dx,fs,ea,c,n,l,q2⟩:=q2;obtain rfl:ov=yy a:=rx;exact vi I2 ea c n l ry fun s3 I3=>⟨σ,_,I3,q2⟩
 ·exact q2.elim
end
section
variable{X:Cx}{CX:CXT}{k:Nat}{f C:Addr}{fd:FuncData}{ps:List Str}{sp:Sp}{dvs:List V}{ds:List Value}{E:XKs}{x m:Str}{p pos apos:Pos}{e o:Expr}{es:List Expr}{ta:TE}{t:TA}
def wV(C:Addr)(m:Str):V->Hp->(V->Prop)->Prop
 | .ref p,H,Q=>∃dx fs,H p=some (.ins C dx fs)/\fs.lookup m=none/\Q (.ref p)
 |_,_,_=>False
def mU(C:Addr)(m:Str)(sp:Sp)(dvs:List V)(E:XKs)(ta:TE)(t:TA):TE:=fun σ H Q=>ta σ H fun x0 H1=>wV C m x0 H1 (fun x=>t σ H1 fun vs H2=>sp (x::(vs++dvs)) H2 Q (E σ))
theorem AU(he:PE X o ta)(c:Cls X.K C)(hm:zd X.K C m f)(F:hU X.prog X.w X.K X.mg X.base CX k f fd ps sp)(hr:Room k X.A)(hb:Binds X.K fd ps ds)(hd:Vals dvs ds)(hx:bK CX X E)(ha:PA X (e::es) t)
 (hst:starEach (e::es) X.env=(false,eval e X.env)::starEach es X.env:=by rfl) (hpl:(backTo pos (starEach es X.env)).any (·.1)=false:=by rfl)
 (ht:eval (.Call (.Attribute o m apos) (e::es) [] pos) X.env=(do
  let ov <- eval o X.env
  standAt apos.atName
  let (f,first) <- holding [ov] (getMethod ov m pl)
  callWith pos f first (backTo pos (starEach (e::es) X.env)) (backToKw pos (Xq [] X.env))):=by rfl) :
 PE X (.Call (.Attribute o m apos) (e::es) [] pos) (mU C m sp dvs E ta t):=by
 intro pins s σ H Q I h;refine PySem.W.methodCall_KW (pl:=pl) (thn (he pins s σ H _ I h) fun u s1 ⟨xo,H1,I1,rx,q⟩=>?_) ht;dsimp only at q;unfold wV at q;split at q
 ·rename_i a
  obtain⟨dx,fs,ea,l,q⟩:=q;obtain rfl:u=yy a:=rx;refine n6 I1 ea c hm l ?_;refine PySem.W.callWith_K (first:=[.ref a]) (h₀:=X.base) I.ok.mod.kin hm.kp (thn (ha pos pins s1 σ _ _ I1 q) fun us s2 ⟨vs,H2,I2,r,q2⟩=>⟨I2.kIn,?_⟩) hst hpl;exact rl (us:=.ref a::us) (vs:=.ref a::vs) F hr hb hd hx I2 (.cons rfl r) q2
 ·exact q.elim
theorem xM(he:PE X o ta)(c:Cls X.K C)(hm:zd X.K C m f)(F:hU X.prog X.w X.K X.mg X.base CX k f fd ps sp)(hr:Room k X.A)(hb:Binds X.K fd ps ds)(hd:Vals dvs ds)(hx:bK CX X E)
 (ht:eval (.Call (.Attribute o m apos) [] [] pos) X.env=(do
  let ov <- eval o X.env
  standAt apos.atName
  let (f,first) <- holding [ov] (getMethod ov m pl)
  callWith pos f first (backTo pos (starEach [] X.env)) (backToKw pos (Xq [] X.env))):=by rfl) :
 PE X (.Call (.Attribute o m apos) [] [] pos) (mU C m sp dvs E ta jP):=by
 intro pins s σ H Q I h;refine PySem.W.methodCall_KW (pl:=pl) (thn (he pins s σ H _ I h) fun u s1 ⟨xo,H1,I1,rx,q⟩=>?_) ht;dsimp only at q;unfold wV at q;split at q
 ·rename_i a
  obtain⟨dx,fs,ea,l,q⟩:=q;obtain rfl:u=yy a:=rx;refine n6 I1 ea c hm l ?_;exact PySem.W.callWith_K0 (first:=[.ref a]) I1.kIn hm.kp (rl (us:=[.ref a]) (vs:=[.ref a]) F hr hb hd hx I1 (.cons rfl .nil) q)
 ·exact q.elim
def m8(C:Addr)(sp:Sp)(dvs:List V)(E:XKs)(t:TA):TE:=fun σ H Q=>t σ H fun vs H1=>∀x dx,H1 x=none->H1 dx=none->dx≠x ->
 sp (.ref x::(vs++dvs)) (upd (upd H1 dx (.own x)) x (.ins C dx [])) (fun v H2=>v = .non/\Q (.ref x) H2) (E σ)
theorem pe(M:Mk X.K C f)(F:hU X.prog X.w X.K X.mg X.base CX k f fd ps sp)(hr:Room (k+1) X.A)(hb:Binds X.K fd ps ds)(hd:Vals dvs ds)
 (hx:bK CX X E) (I:Inv X pins σ H s) (r:Vals vs us)
 (h:∀x dx,H x=none->H dx=none->dx≠x->sp (.ref x::(vs++dvs)) (upd (upd H dx (.own x)) x (.ins C dx [])) (fun v H2=>v = .non/\Q (.ref x) H2) (E σ)) :
 wpAny (model X.prog X.w) X.A (call (.ref C) us) (EP X pins σ Q) X.xe s:=by
 have hq:=h (s.heap.objs.size+1) s.heap.objs.size (I.hok.fresh (Z6 _)) (I.hok.fresh (z4 _)) (xK (Xf _));have I2:=Inv.made (C:=C) I;have r2:Vals (V.ref (s.heap.objs.size+1)::(vs++dvs)) (yy (s.heap.objs.size+1)::(us++ds)):=.cons rfl (r.append hd);have hl:(yy (s.heap.objs.size+1)::us++ds).length=ps.length:=by
  have e:=r2.length;rw[F.len _ _ _ _ hq]at e;exact e.symm
 refine wpAny_call (yV (f:=f) I.kIn M.makes M.init (beq_iff_eq.mp M.fn) (YR (F.run _ X.stack _ _ ⟨yy (s.heap.objs.size+1)::us,[]⟩ (yy (s.heap.objs.size+1)::(us++ds)) _ _ (E σ) (hr.make C us [])
  (I2.env0.make C us []) (hb _ (yy (s.heap.objs.size+1)::us) I2.kIn hl) r2 hq) fun r s' hq'=>?_))
 cases r with
 |error e=>exact hx pins σ _ _ e s' I2 hq'
 |ok fl=>
  cases fl with
  |ret u=>
   obtain⟨v,H',I3,rv,ev,q3⟩:=I2.after hq';subst ev;exact⟨rv,⟨V.ref (s.heap.objs.size+1),H',I3,rfl,q3⟩⟩
  |next=>exact Z3 hq'
  |brk=>exact Z3 hq'
  |cont=>exact Z3 hq'
theorem At(M:Mk X.K C f)(F:hU X.prog X.w X.K X.mg X.base CX k f fd ps sp)(hr:Room (k+1) X.A)(hg:Gl X x)(hm:X.mg x=some (.ref C))(hb:Binds X.K fd ps ds)(hd:Vals dvs ds)(hx:bK CX X E)
 (ha:PA X (e::es) t) (hdb:(x==("__debug__":Str))=false:=by decide) (he:starEach (e::es) X.env=(false,eval e X.env)::starEach es X.env:=by rfl) (hpl:(backTo pos (starEach es X.env)).any (·.1)=false:=by rfl) :
 PE X (.Call (.Name x p) (e::es) [] pos) (m8 C sp dvs E t):=by
 intro pins s σ H Q I h;refine Yy (gO I hg hm ?_ hdb);refine PySem.W.callWith_K (h₀:=X.base) I.ok.mod.kin M.kp (thn (ha pos pins s σ H _ I h) fun us s1 ⟨vs,H1,I1,r,q⟩=>⟨I1.kIn,?_⟩) he hpl;exact pe M F hr hb hd hx I1 r q
theorem xX(M:Mk X.K C f)(F:hU X.prog X.w X.K X.mg X.base CX k f fd ps sp)(hr:Room (k+1) X.A)(hg:Gl X x)(hm:X.mg x=some (.ref C))(hb:Binds X.K fd ps ds)(hd:Vals dvs ds)(hx:bK CX X E)
 (hdb:(x==("__debug__":Str))=false:=by decide):PE X (.Call (.Name x p) [] [] pos) (m8 C sp dvs E jP):=by
 intro pins s σ H Q I h;refine Yy (gO I hg hm ?_ hdb);exact PySem.W.callWith_K0 I.kIn M.kp (pe (us:=[]) M F hr hb hd hx I .nil h)
end
def dh(wi:TI)(n:Nat)(g:TG)(ks:List Nat)(tt:TT)(te:TE):TE:=fun σ H Q=>wi σ H fun J H1=>∀D,H1 D=none->∃W:Nat->Nat->List V->Hp->Prop,(∃m,W 0 m [] (upd H1 D (.lst []))) /\
 ∀i m ys H2,W i m ys H2->H2 D=some (.lst ys)/\((J.stop i H2/\Q (.ref D) H2)\/(J.go i H2/\∀x H3,J.yld i H2 x H3->∀zs:St,zs.length=n ->
  g x (zs++ks.map fun k=>(σ[k]?).join) H3 fun σ4 H4=>(∃zs4:St,zs4.length=n/\σ4=zs4++ks.map fun k=>(σ[k]?).join) /\
   tt σ4 H4 fun b H5=>if b=true then te σ4 H5 fun y H6=>H6 D=some (.lst ys)/\ys.length<sizeLine/\∃m',m'<m/\W (i+1) m' (ys++[y]) (upd H6 D (.lst (ys++[y])))
    else ∃m',m'<m/\W (i+1) m' ys H5))
structure HI(gd:Cx->Prop)(P:Program)(w:World)(K:W.Frag)(tg:Expr)(J:It)(fp:List Addr)(it:Addr)(tn:Nat->Heap->Prop):Prop where
 mem:it∈fp
 obj:∀i h,tn i h->∀b∈fp,∃o,h.get? b=some o/\∀v,o.data ≠ .cell v
 keep:∀i h h',tn i h->(∀b∈fp,∀o,h.get? b=some o->h'.get? b=some o)->tn i h'
 item:∀(X:Cx),X.prog=P->X.w=w->X.K=K->gd X->∀(i:Nat) (pins:List (Addr × Obj)) (s:Shared) (σ:St) (H:Hp) (E:Value->Shared->Prop),Inv X pins σ H s->(∀b∈fp,jq X pins H b)->tn i s.heap->J.go i H ->
  wpAny (model P w) X.A (pyNext (.ref it)) (fun r s1=>∃u,r=some u /\
   wpAny (model P w) X.A (XV tg (.ref it) u) (fun _ s2=>∃x H',Inv X pins σ H' s2/\RelV x u/\J.yld i H x H'/\tn (i+1) s2.heap/\∀b∈fp,H' b=none) E s1) E s
 done:∀(X:Cx),X.prog=P->X.w=w->X.K=K->gd X->∀(i:Nat) (pins:List (Addr × Obj)) (s:Shared) (σ:St) (H:Hp) (E:Value->Shared->Prop),Inv X pins σ H s->(∀b∈fp,jq X pins H b)->tn i s.heap->J.stop i H ->
  wpAny (model P w) X.A (pyNext (.ref it)) (fun r s1=>r=none/\Inv X pins σ H s1) E s
 self:∀(A:Around) (i:Nat) (s:Shared) (Q:Value->Shared->Prop) (E:Value->Shared->Prop),tn i s.heap->Q (.ref it) s->wpAny (model P w) A (pyIter (.ref it)) Q E s
def PIG(gd:Cx->Prop)(X:Cx)(tg iter:Expr)(wi:TI):Prop:=
 ∀(pins:List (Addr × Obj)) (s:Shared) (σ:St) (H:Hp) (R:It->Hp->Prop),Inv X pins σ H s->wi σ H R ->
  wpAny (model X.prog X.w) X.A (eval iter X.env) (fun v s1=>wpAny (model X.prog X.w) X.A (pyIter v) (fun itv s2=>∃(it:Addr) (fp:List Addr) (tn:Nat->Heap->Prop) (J:It) (H':Hp),itv = .ref it/\Inv X pins σ H' s2/\HI gd X.prog X.w X.K tg J fp it tn/\tn 0 s2.heap/\(∀b∈fp,jq X pins H' b)/\R J H') X.xe s1) X.xe s
theorem wc(h:PI X tg iter wi):PIG (fun X=>X.calm=true) X tg iter wi:=fun pins s σ H R I q=>
 qN (h pins s σ H R I q) (fun v s1 h1=>qN h1 (fun itv s2 ⟨it,fp,tn,J,H',e,I2,T,r⟩=>⟨it,fp,tn,J,H',e,I2,⟨T.mem,T.obj,T.keep,T.item,T.done,T.self⟩,r⟩) fun _ _ z=>z) fun _ _ z=>z
def cJ(X:Cx)(N:List Str)(scope:Scope)(cl:List (Str × Addr))(fnc:Str->Bool)(C:Addr)(s₂:Shared)(H₂:Hp)(ex:List Addr)(pn:List (Addr × Obj)):Cx:=
 { cV X N scope cl C s₂ H₂ ex pn with fn:=fnc }
structure CompCells(X:Cx)(scope:Scope)(cl:List (Str × Addr))(cl2:Addr->List (Str × Addr))(fnc:Str->Bool)(fr:List Str):Prop where
 clos:closureFor scope X.env=pure cl
 kind:scope.kind = .function
 names:∀y∈scope.names,y.2 = .local->scope.names.lookup y.1=some .local
 lay:∀(M:Model) (A:Around) (E:Value->Shared->Prop) (Q:Env->Shared->Prop) (s:Shared),(∀h₁ t₁ m,h₁.Ns s.heap.objs.size m->(∀b o,s.heap.get? b=some o->h₁.get? b=some o)->(∀y c,fnc y=true->(cl2 s.heap.objs.size).lookup y=some c->s.heap.objs.size<c/\h₁.IsCell c none) ->
  Q { scope:=scope,locals:=s.heap.objs.size,globals:=X.env.globals,cells:=cl2 s.heap.objs.size,qual:=X.env.qual,func:=none,code:=X.env.code,frame:=X.env.frame,builtins:=X.env.builtins } { s with heap:=h₁,toks:=t₁ })->wpAny M A (newFunctionEnv scope X.env.globals cl [] X.env.qual none .none (some X.env)) Q E s
 only:∀C y,((relabel scope X.env).names.lookup y=some .cell\/(relabel scope X.env).names.lookup y=some .free)->y∈fr\/∃c,(cl2 C).lookup y=some c
 sub:∀C y c,(cl2 C).lookup y=some c->fnc y=false->X.env.cells.lookup y=some c
 cell:∀C,∀y∈fr,(cl2 C).lookup y=X.env.cells.lookup y
 inj:∀C y z c,fnc y=true->fnc z=true->(cl2 C).lookup y=some c->(cl2 C).lookup z=some c->y=z
 kinds:∀y∈fr,X.env.kindOf y=some .cell\/X.env.kindOf y=some .free
 kin:∀y∈fr,(relabel scope X.env).names.lookup y=some .cell\/(relabel scope X.env).names.lookup y=some .free
theorem o8(hc:∀C s₂ H₂ ex pn,gd (cJ X (xs++fr) scope (cl2 C) fnc C s₂ H₂ ex pn))(S:CompCells X scope cl cl2 fnc fr)
 (hks:ks.map (fun k=>X.N[k]?)=fr.map some) (hi:PIG gd X tg iter wi) (hg:∀C s₂ H₂ ex pn,PG (cJ X (xs++fr) scope (cl2 C) fnc C s₂ H₂ ex pn) tg g)
 (ht:∀C s₂ H₂ ex pn,PTs (cJ X (xs++fr) scope (cl2 C) fnc C s₂ H₂ ex pn) ifs tt) (he:∀C s₂ H₂ ex pn,PE (cJ X (xs++fr) scope (cl2 C) fnc C s₂ H₂ ex pn) elt te)
 (hs:∀x,Yr iter X.env x=pure x:=by intro _;rfl)
 (I:Inv X pins σ H s) (h:dh wi xs.length g ks tt te σ H Q) (use:Option (Value->Sem Unit)) (Qp:Value->Shared->Prop)
 (hend:∀(D C:Addr) (H':Hp) (s':Shared) (mC:Str->Option Value) (f:Flow),Inv X pins σ H' s'->jq X pins H' C->s'.heap.Ns C mC->Q (.ref D) H'->compPost (model X.prog X.w) X.A X.xe use Qp (.ref D) C (.ok f) s') :
 wpAny (model X.prog X.w) X.A (comprehension (.ListComp elt [⟨tg,iter,ifs,0⟩] scope pos) scope X.env (firstIterPos [⟨tg,iter,ifs,0⟩] pos) (newList []) false (firstIter [⟨tg,iter,ifs,0⟩] X.env) use) Qp X.xe s:=by
 refine wpAny_comprehension_free (use:=use) rfl hs S.clos S.kind S.names (thn (hi pins s σ H _ I h) fun v s1 h1=>thn h1 fun itv s2 h2=>?_);obtain⟨it,fp,tn,J,H2,e,I2,T,st2,f2,hW⟩:=h2;subst e;refine pL ?_;have hD0:H2 s2.heap.objs.size=none:=I2.hok.fresh (z4 _);obtain⟨W,⟨m0,w0⟩,turn⟩:=hW s2.heap.objs.size hD0;generalize hs3:s2.heap.push { cls:=.type "list",dict:=none,data:=.seq ([]:List Value).toArray }=g3;have hsz3:g3.objs.size=s2.heap.objs.size+1:=by rw[<- hs3,Zq]
 have up3:∀b o,s2.heap.get? b=some o->g3.get? b=some o:=fun b o e=>by rw[<- hs3];exact Heap.get?_push_of_some _ e
 have gD:g3.get? s2.heap.objs.size=some { cls:=.type "list",dict:=none,data:=.seq ([]:List Value).toArray }:=by rw[<- hs3];exact Heap.get?_push_size _ rfl
 have I3:Inv X pins σ (upd H2 s2.heap.objs.size (.lst [])) { s2 with heap:=g3 }:=I2.laid (t':=s2.toks) up3 (z4 _) ⟨by simp,[],0,.nil,gD⟩;refine S.lay _ _ _ _ _ fun h₁ t₁ m₁ hns₁ keep4 hnew=>?_;dsimp only at hns₁ keep4 hnew |-
 have hsub:∀y c,(cl2 g3.objs.size).lookup y=some c->X.env.cells.lookup y=some c\/(fnc y=true/\g3.objs.size<c/\h₁.IsCell c none):=fun y c e=>by
  cases hf:fnc y with
  |false=>exact .inl (S.sub _ y c e hf)
  |true=>exact .inr ⟨rfl,hnew y c hf e⟩
 have hCn:(upd H2 s2.heap.objs.size (.lst [])) g3.objs.size=none:=I3.hok.fresh (z4 _);have fpD:∀b∈fp,b≠s2.heap.objs.size:=fun b hb z=>by
  obtain⟨o,e,_⟩:=T.obj 0 _ st2 b hb;exact absurd (yr e) (by rw[z];exact ZJ _)
 have fpC:∀b∈fp,b≠g3.objs.size:=fun b hb z=>by
  obtain⟨o,e,_⟩:=T.obj 0 _ st2 b hb;exact absurd (yr (up3 b o e)) (by rw[z];exact ZJ _)
 have fpN:∀b∈fp,(upd H2 s2.heap.objs.size (.lst [])) b=none:=fun b hb=>by rw[ah (fpD b hb)];exact(f2 b hb).1
 have old:∀y c,X.env.cells.lookup y=some c->c<g3.objs.size:=fun y c e=>by
  obtain⟨v,q⟩:=I3.cell y c e;exact q.lt
 have cfp:∀b∈fp,∀y c,(cl2 g3.objs.size).lookup y=some c->c≠b:=fun b hb y c e=>by
  rcases hsub y c e with q|⟨_,l,_⟩
  ·exact(f2 b hb).2.2.2.2.1 y c q
  ·obtain⟨o,e,_⟩:=T.obj 0 _ st2 b hb
   exact fun z=>absurd (yr (up3 b o e)) (by rw[<- z];exact Nat.not_lt.mpr (Yk l))
 have Ok:(cJ X (xs++fr) scope (cl2 g3.objs.size) fnc g3.objs.size { s2 with heap:=g3 } (upd H2 s2.heap.objs.size (.lst [])) fp (X.pn++pins)).Ok:=by
  refine⟨I.ok.mod,S.kind,I.ok.glob,I.ok.blt,z4 _,fun y z c e1 e2=>?_,fun y hy=>?_,fun y c z e=>Yk (hnew y c z e).1,I.ok.hd,I.ok.frames,.inl rfl,fun b hb=>⟨fpC b hb,cfp b hb⟩,I3.bs,uM I.ok.bsz I3.sz,fun b o e hb=>?_,fun b hb z=>?_,I3.stack,I3.stkFree⟩
  ·rcases hsub y c e1 with q|⟨q,l,_⟩ <;> rcases hsub z c e2 with q'|⟨q',l',_⟩
   ·exact I.ok.inj y z c q q'
   ·exact absurd (old y c q) (Nat.not_lt.mpr (Yk l'))
   ·exact absurd (old z c q') (Nat.not_lt.mpr (Yk l))
   ·exact S.inj _ y z c q q' e1 e2
  ·rcases S.only _ y hy with hy|hy
   ·obtain⟨c,e⟩:=I.ok.has y (S.kinds y hy)
    exact⟨c,(S.cell _ y hy).trans e⟩
   ·exact hy
  ·rcases(f2 b hb).2.2.2.1 with q|q
   ·exact I.ok.noex b o e q
   ·exact absurd (yr e) (Nat.not_lt.mpr (uM I.ok.bsz q))
  ·rcases zG.mp (I3.stkSub b z) with q|q
   ·exact(f2 b hb).2.1 q
   ·exact(f2 b hb).2.2.1 q
 have I4:Inv (cJ X (xs++fr) scope (cl2 g3.objs.size) fnc g3.objs.size { s2 with heap:=g3 } (upd H2 s2.heap.objs.size (.lst [])) fp (X.pn++pins)) [] ((xs.map fun _=>none)++ks.map fun k=>(σ[k]?).join) (upd H2 s2.heap.objs.size (.lst [])) { s2 with heap:=h₁,toks:=t₁ }:=by
  refine⟨Ok,rfl,I3.bare,Un.kept keep4,⟨_,hns₁,fun i y v e1 e2 e3=>?_⟩,fun y c e=>?_,hCn,fun y c e=>?_,fun p hp=>?_,I3.hok.kept keep4,?_⟩
  ·have e1':(xs++fr)[i]? = some y:=e1
   by_cases hix:i<xs.length
   ·rw[List.getElem?_append_left (by simpa using hix)]at e2
    simp[hix]at e2
   ·obtain⟨i,rfl⟩:∃i',i=xs.length+i':=⟨i-xs.length,by lia⟩
    rw[List.getElem?_append_right (by lia)]at e1';rw[List.getElem?_append_right (by simp)]at e2;have e1':fr[i]? = some y:=by simpa using e1'
    have e2:(ks.map fun k=>(σ[k]?).join)[i]? = some (some v):=by simpa using e2
    have hy:y∈fr:=xg e1';have ek:(ks.map (fun k=>X.N[k]?))[i]? = (fr.map some)[i]?:=by rw[hks]
    rw[List.getElem?_map,List.getElem?_map,e1']at ek;have e2':=e2;rw[List.getElem?_map]at e2';cases hk:ks[i]? with
    |none=>rw[hk]at ek;cases ek
    |some k=>
     rw[hk]at ek e2';have ek':X.N[k]? = some y:=by simpa using ek
     have e2'':(σ[k]?).join=some v:=by simpa using e2'
     have es:σ[k]? = some (some v):=by
      cases q:σ[k]? with
      |none=>rw[q]at e2'';cases e2''
      |some z=>rw[q]at e2'';rw[show z=some v from e2'']
     obtain⟨m,hn,hl⟩:=I3.loc;have hkd:=S.kinds y hy;obtain⟨u,r,lk⟩:=hl k y v ek' es (by rcases hkd with q|q;exact .inr (.inl q);exact .inr (.inr q));refine⟨u,r,.inr ⟨S.kin y hy,?_⟩⟩;rcases lk with ⟨q,_⟩|⟨_,c,ec,hcell⟩
     ·rcases hkd with z|z <;> (rw[q]at z;cases z)
     ·obtain⟨o,ho,hd⟩:=hcell
      exact⟨c,(S.cell _ y hy).trans ec,o,keep4 _ _ ho,hd⟩
  ·rcases hsub y c e with q|⟨_,_,q⟩
   ·obtain⟨v,o,ho,hd⟩:=I3.cell y c q
    exact⟨v,o,keep4 _ _ ho,hd⟩
   ·exact⟨_,q⟩
  ·rcases hsub y c e with q|⟨_,l,_⟩
   ·exact I3.freeC y c q
   ·exact I3.hok.fresh (Yk l)
  ·have hp':p∈X.pn++pins:=by simpa [cJ,cV] using hp
   obtain⟨a1,a2,a3,a4,a5⟩:=I3.pin p hp';refine⟨keep4 _ _ a1,a2,xK (yr a1),fun z=>?_,a5⟩;rcases zG.mp (I3.stkSub p.1 z) with q|q
   ·exact a3 q
   ·exact a4 q
  ·show((xs.map fun _=>none)++ks.map _).length=(xs++fr).length
   have:=congrArg YS hks;simp at this;simp[this]
 have st4:tn 0 h₁:=T.keep 0 _ _ st2 fun b hb o e=>keep4 _ _ (up3 _ _ e);have stat:∀ {H':Hp},(∀b∈fp,H' b=none)->∀b∈fp,jq (cJ X (xs++fr) scope (cl2 g3.objs.size) fnc g3.objs.size { s2 with heap:=g3 } (upd H2 s2.heap.objs.size (.lst [])) fp (X.pn++pins)) [] H' b:=fun hn b hb=>
  ⟨hn b hb,fpC b hb,Ok.exfs b hb,.inl hb,cfp b hb,fun p hp=>(f2 b hb).2.2.2.2.2 p (by simpa [cJ,cV] using hp)⟩
 have loop:codeAny (model X.prog X.w) X.A (.compLoop (.ListComp elt [⟨tg,iter,ifs,0⟩] scope pos) 0 (.ref it) (.ref s2.heap.objs.size) (compEnvC scope (cl2 g3.objs.size) g3.objs.size X.env))
  (compPost (model X.prog X.w) X.A X.xe use Qp (.ref s2.heap.objs.size) g3.objs.size) { s2 with heap:=h₁,toks:=t₁ }:=by
  refine rj (fun n s'=>∃i ys σ' H',Inv (cJ X (xs++fr) scope (cl2 g3.objs.size) fnc g3.objs.size { s2 with heap:=g3 } (upd H2 s2.heap.objs.size (.lst [])) fp (X.pn++pins)) [] σ' H' s'/\(∃zs,zs.length=xs.length/\σ'=zs++ks.map fun k=>(σ[k]?).join)/\tn i s'.heap/\(∀b∈fp,H' b=none)/\W i n ys H') ?_ m0
   ⟨0,[],_,_,I4,⟨xs.map fun _=>none,by simp,rfl⟩,st4,fpN,w0⟩
  rintro n s' ⟨i,ys,σ',H',I5,⟨zs,hzs,rfl⟩,st5,fr5,w5⟩;obtain⟨hD,hor⟩:=turn i n ys H' w5;rcases hor with ⟨stop,qn⟩|⟨go,step⟩
  ·refine qN (T.done (cJ X (xs++fr) scope (cl2 g3.objs.size) fnc g3.objs.size { s2 with heap:=g3 } (upd H2 s2.heap.objs.size (.lst [])) fp (X.pn++pins)) rfl rfl rfl (hc _ _ _ _ _) i [] s' _ H' (fun _ _=>False) I5 (stat fr5) st5 stop) (fun r s6 ⟨hr,I6⟩=>?_) (fun _ _ f=>f.elim)
   subst hr;obtain⟨mC,hnC,_⟩:=I6.loc;have tr:∀b o,b≠g3.objs.size->s6.heap.get? b=some o->s6.heap.get? b=some o:=fun b o hb e=>e;have U:=I6.base;have neC:∀b o,g3.get? b=some o->b≠g3.objs.size:=fun b o e=>xK (yr e);have U':Un (frs X.stack) fp (upd H2 s2.heap.objs.size (.lst [])) H' g3 s6.heap:=⟨fun b o q n hb hx=>tr b o (neC b o q) (U.keep b o q n hb hx),fun b o q n hb hx=>let ⟨sl,e⟩:=U.slot b o q n hb hx;⟨sl,tr _ _ (neC b o q) e⟩,U.free,fun b o q hx=>let ⟨o',e⟩:=U.there b o q hx;⟨o',tr _ _ (neC b o q) e⟩,U.tups,U.frzs,U.tbls⟩;have ok':HOk X.prog X.w H' s6.heap:=fun a o e=>(I6.hok a o e).stay (fun b u hb q=>tr b u (fun z=>by
    have fC:H' g3.objs.size=none:=I6.free;rcases hb with r|r
    ·rw[<- z,r,e]at fC;cases fC
    ·rw[<- z,r]at fC;cases fC) q) (fun _ q=>q) fun _ _ q=>q
   have J6:Inv X pins σ H' s6:=I3.call' (s':=s6) (ch:=fp) I6.os U' ok' I6.bare fun b hb=>⟨(f2 b hb).2.2.2.1,(f2 b hb).2.1,(f2 b hb).2.2.2.2.1,(f2 b hb).2.2.2.2.2⟩;exact hend s2.heap.objs.size g3.objs.size H' s6 mC _ J6 (I3.fpOk (z4 _) I6.free) hnC qn
  ·refine qN (T.item (cJ X (xs++fr) scope (cl2 g3.objs.size) fnc g3.objs.size { s2 with heap:=g3 } (upd H2 s2.heap.objs.size (.lst [])) fp (X.pn++pins)) rfl rfl rfl (hc _ _ _ _ _) i [] s' _ H' (fun _ _=>False) I5 (stat fr5) st5 go) (fun r s6 ⟨u,hr,h6⟩=>?_) (fun _ _ f=>f.elim)
   subst hr;refine qN h6 (fun _ s7 ⟨xv,H7,I7,r7,y7,st7,fr7⟩=>?_) (fun _ _ f=>f.elim);have I7':=I7.pinned (stat fr7) (T.obj _ _ st7);have pinsTo:∀ {σ9:St} {H9:Hp} {s9:Shared},Inv (cJ X (xs++fr) scope (cl2 g3.objs.size) fnc g3.objs.size { s2 with heap:=g3 } (upd H2 s2.heap.objs.size (.lst [])) fp (X.pn++pins)) ([]++nv fp s7.heap) σ9 H9 s9->tn (i+1) s9.heap/\∀b∈fp,H9 b=none:=fun {σ9 H9 s9} I9=>
    ⟨T.keep _ _ _ st7 fun b hb o e=>(I9.pin (b,o) (uU _ (uU _ (hJ hb e)))).1,fun b hb=>by
     obtain⟨o,e,d⟩:=T.obj _ _ st7 b hb;exact(I9.pin (b,o) (uU _ (uU _ (hJ hb e)))).2.1⟩
   refine qN (hg _ _ _ _ _ _ s7 _ H7 xv u _ I7' r7 (step xv H7 y7 zs hzs)) (fun _ s8 ⟨σ8,H8,I8,⟨zs4,hz4,e8⟩,q8⟩=>?_) (fun _ _ f=>f.elim);subst e8;refine qN (ht _ _ _ _ _ _ s8 _ H8 _ I8 q8) (fun ok s9 ⟨H9,I9,q9⟩=>?_) (fun _ _ f=>f.elim);cases ok with
   |false=>
    rw[if_neg xa]at q9 |-
    obtain⟨m',hm,w9⟩:=q9;obtain⟨t9,f9⟩:=pinsTo I9;exact⟨m',hm,i+1,ys,_,H9,I9.unpinned,⟨zs4,hz4,rfl⟩,t9,f9,w9⟩
   |true=>
    rw[if_pos rfl]at q9 |-
    refine qN (he _ _ _ _ _ _ s9 _ H9 _ I9 q9) (fun yv s10 ⟨y,H10,I10,r10,hD10,hlen,m',hm,w10⟩=>?_) (fun _ _ f=>f.elim);refine qN (d8 (X:=cJ X (xs++fr) scope (cl2 g3.objs.size) fnc g3.objs.size { s2 with heap:=g3 } (upd H2 s2.heap.objs.size (.lst [])) fp (X.pn++pins)) _ s10 _ H10 (.ref s2.heap.objs.size) [y] (.ref s2.heap.objs.size) [yv]
     (fun _ H'=>H'=upd H10 s2.heap.objs.size (.lst (ys++[y]))) I10 rfl (.cons r10 .nil) ⟨_,ys,y,rfl,rfl,hD10,hlen,rfl⟩) (fun _ s11 ⟨_,H11,I11,_,e11⟩=>?_) (fun _ _ f=>f.elim)
    subst e11;obtain⟨t11,f11⟩:=pinsTo I11;exact⟨m',hm,i+1,ys++[y],_,_,I11.unpinned,⟨zs4,hz4,rfl⟩,t11,f11,w10⟩
 exact codeAny_compStart_list loop (T.self X.A 0 _ _ _ st4 loop)
theorem CompScope.cs(S:CompScope X scope cl x fr):CompCells X scope cl (fun _=>cl) (fun _=>false) fr:=
 ⟨S.clos,S.kind,S.names,fun M A E Q s k=>wpAny_newFunctionEnv S.nocell (by intro y hy;simp at hy) (fun h₁ hn hs=>k h₁ _ _ hn (fun b o e=>(hs.2 b (xK (yr e))).trans (Heap.get?_push_of_some _ e)) fun _ _ z=>nomatch z) S.kind,
  fun _ y hy=>.inl (S.only y hy),fun _ _ _ e _=>S.sub e,fun _ _ h=>S.cell h,(fun _ _ _ _ z=>nomatch z),S.kinds,S.kin⟩
theorem yA(hc:∀C s₂ H₂ ex pn,gd (cV X (xs++fr) scope cl C s₂ H₂ ex pn))(S:CompScope X scope cl x fr)
 (hks:ks.map (fun k=>X.N[k]?)=fr.map some) (hi:PIG gd X tg iter wi) (hg:∀C s₂ H₂ ex pn,PG (cV X (xs++fr) scope cl C s₂ H₂ ex pn) tg g)
 (ht:∀C s₂ H₂ ex pn,PTs (cV X (xs++fr) scope cl C s₂ H₂ ex pn) ifs tt) (he:∀C s₂ H₂ ex pn,PE (cV X (xs++fr) scope cl C s₂ H₂ ex pn) elt te)
 (hs:∀x,Yr iter X.env x=pure x:=by intro _;rfl)
 (I:Inv X pins σ H s) (h:dh wi xs.length g ks tt te σ H Q) (use:Option (Value->Sem Unit)) (Qp:Value->Shared->Prop)
 (hend:∀(D C:Addr) (H':Hp) (s':Shared) (mC:Str->Option Value) (f:Flow),Inv X pins σ H' s'->jq X pins H' C->s'.heap.Ns C mC->Q (.ref D) H'->compPost (model X.prog X.w) X.A X.xe use Qp (.ref D) C (.ok f) s') :
 wpAny (model X.prog X.w) X.A (comprehension (.ListComp elt [⟨tg,iter,ifs,0⟩] scope pos) scope X.env (firstIterPos [⟨tg,iter,ifs,0⟩] pos) (newList []) false (firstIter [⟨tg,iter,ifs,0⟩] X.env) use) Qp X.xe s:=o8 (gd:=gd) (cl2:=fun _=>cl) (fnc:=fun _=>false) hc S.cs hks hi hg ht he hs I h use Qp hend
theorem x_(hc:X.calm=true)(S:CompScope X scope cl x fr)
 (hks:ks.map (fun k=>X.N[k]?)=fr.map some) (hi:PI X tg iter wi) (hg:∀C s₂ H₂ ex pn,PG (cV X (xs++fr) scope cl C s₂ H₂ ex pn) tg g)
 (ht:∀C s₂ H₂ ex pn,PTs (cV X (xs++fr) scope cl C s₂ H₂ ex pn) ifs tt) (he:∀C s₂ H₂ ex pn,PE (cV X (xs++fr) scope cl C s₂ H₂ ex pn) elt te)
 (hs:∀x,Yr iter X.env x=pure x:=by intro _;rfl)
 (I:Inv X pins σ H s) (h:dh wi xs.length g ks tt te σ H Q) (use:Option (Value->Sem Unit)) (Qp:Value->Shared->Prop)
 (hend:∀(D C:Addr) (H':Hp) (s':Shared) (mC:Str->Option Value) (f:Flow),Inv X pins σ H' s'->jq X pins H' C->s'.heap.Ns C mC->Q (.ref D) H'->compPost (model X.prog X.w) X.A X.xe use Qp (.ref D) C (.ok f) s') :
 wpAny (model X.prog X.w) X.A (comprehension (.ListComp elt [⟨tg,iter,ifs,0⟩] scope pos) scope X.env (firstIterPos [⟨tg,iter,ifs,0⟩] pos) (newList []) false (firstIter [⟨tg,iter,ifs,0⟩] X.env) use) Qp X.xe s:=yA (gd:=fun X=>X.calm=true) (fun _ _ _ _ _=>hc) S hks (wc hi) hg ht he hs I h use Qp hend
theorem br(hc:X.calm=true)(S:CompScope X scope cl x fr)
 (hks:ks.map (fun k=>X.N[k]?)=fr.map some) (hi:PI X tg iter wi) (hg:∀C s₂ H₂ ex pn,PG (cV X (xs++fr) scope cl C s₂ H₂ ex pn) tg g)
 (ht:∀C s₂ H₂ ex pn,PTs (cV X (xs++fr) scope cl C s₂ H₂ ex pn) ifs tt) (he:∀C s₂ H₂ ex pn,PE (cV X (xs++fr) scope cl C s₂ H₂ ex pn) elt te)
 (hs:∀x,Yr iter X.env x=pure x:=by intro _;rfl):PE X (.ListComp elt [⟨tg,iter,ifs,0⟩] scope pos) (dh wi xs.length g ks tt te):=by
 intro pins s σ H Q I h;rw[eval_ListComp];refine x_ hc S hks hi hg ht he hs I h none _ fun D C H' s' mC f J fp hn q=>⟨mC,hn,fun h' sb=>?_⟩;obtain⟨f0,f1,f2,f3,f4,f5⟩:=fp;exact⟨.ref D,H',J.turned (t':=s'.toks) (fun b o hb e=>(sb.2 b hb).trans e) f0 f1 f3 f4 f5,rfl,q⟩
theorem tD(hN:X.N.Nodup)(hi0:X.N[i0]? = some x0)(hx0:Loc X.env.scope x0)(hc:X.calm=true)(S:CompCells X scope cl cl2 fnc fr)
 (hks:ks.map (fun k=>X.N[k]?)=fr.map some) (hi:PI X tg iter wi) (hg:∀C s₂ H₂ ex pn,PG (cJ X (xs++fr) scope (cl2 C) fnc C s₂ H₂ ex pn) tg g)
 (ht:∀C s₂ H₂ ex pn,PTs (cJ X (xs++fr) scope (cl2 C) fnc C s₂ H₂ ex pn) ifs tt) (he:∀C s₂ H₂ ex pn,PE (cJ X (xs++fr) scope (cl2 C) fnc C s₂ H₂ ex pn) elt te)
 (hs:∀x,Yr iter X.env x=pure x:=by intro _;rfl)
 (hsw:swapsWith (.ListComp elt [⟨tg,iter,ifs,0⟩] scope pos) (some (.Name x0 px0)) pos0.line X.env=pure true:=by rfl) (hf:X.fn x0=true\/X.env.scope.names.lookup x0=some .local:=by first|exact .inl rfl|exact .inr rfl|assumption) :
 PS X (.Assign [.Name x0 px0] (.ListComp elt [⟨tg,iter,ifs,0⟩] scope pos) pos0) (uZ (dh wi xs.length g ks tt te) (hZ i0)):=by
 intro pins s σ H D I h;rw[exec_Assign_Name_used _ _ _ _ hsw];refine zm (Y7 (zm (zm ?_)));refine o8 (gd:=fun X=>X.calm=true) (fun _ _ _ _ _=>hc) S hks (wc hi) hg ht he hs I h (some (assign (.Name x0 px0) X.env)) _ fun D' C H' s' mC f J fp hn q=>?_;obtain⟨f0,f1,f2,f3,f4,f5⟩:=fp;refine wpAny_assign_Name (pD J hN hi0 hx0 (v:=.ref D') rfl (fun s7 I7 ⟨a,sb,ha⟩=>?_) hf);have hCa:C≠a:=by
  rcases ha with e|e
  ·rw[e];exact f1
  ·exact fun z=>f4 _ _ e z.symm
 refine⟨mC,hn.sameBut sb hCa,fun h' sb2=>?_⟩;have J2:=I7.turned (t':=s7.toks) (fun b o hb e=>(sb2.2 b hb).trans e) f0 f1 f3 f4 f5;exact za (za ⟨_,H',J2,q⟩)
theorem ue(hN:X.N.Nodup)(hi0:X.N[i0]? = some x0)(hx0:Loc X.env.scope x0)(hc:X.calm=true)(S:CompScope X scope cl x fr)
 (hks:ks.map (fun k=>X.N[k]?)=fr.map some) (hi:PI X tg iter wi) (hg:∀C s₂ H₂ ex pn,PG (cV X (xs++fr) scope cl C s₂ H₂ ex pn) tg g)
 (ht:∀C s₂ H₂ ex pn,PTs (cV X (xs++fr) scope cl C s₂ H₂ ex pn) ifs tt) (he:∀C s₂ H₂ ex pn,PE (cV X (xs++fr) scope cl C s₂ H₂ ex pn) elt te)
 (hs:∀x,Yr iter X.env x=pure x:=by intro _;rfl)
 (hsw:swapsWith (.ListComp elt [⟨tg,iter,ifs,0⟩] scope pos) (some (.Name x0 px0)) pos0.line X.env=pure true:=by rfl) (hf:X.fn x0=true\/X.env.scope.names.lookup x0=some .local:=by first|exact .inl rfl|exact .inr rfl|assumption) :
 PS X (.Assign [.Name x0 px0] (.ListComp elt [⟨tg,iter,ifs,0⟩] scope pos) pos0) (uZ (dh wi xs.length g ks tt te) (hZ i0)):=tD (cl2:=fun _=>cl) (fnc:=fun _=>false) hN hi0 hx0 hc S.cs hks hi hg ht he hs hsw hf
theorem CompCells.one(h1:closureFor scope X.env=pure cl)(h2:scope.kind = .function)(h3:∀y∈scope.names,y.2 = .local->scope.names.lookup y.1=some .local)
 (h4:∀n,cellsFrom n scope.names cl=(x,n)::cl) (h5:∀h,pushCells h scope.names=h.push { cls:=.type "cell",data:=.cell none }) (h6:∀y,((relabel scope X.env).names.lookup y=some .cell\/(relabel scope X.env).names.lookup y=some .free)->y∈x::fr)
 (h7:∀y∈cl,y.1∈fr) (h8:fr.map (fun y=>cl.lookup y)=fr.map (fun y=>X.env.cells.lookup y)) (h9:fr.elem x=false) (h10:∀y∈fr,X.env.kindOf y=some .cell\/X.env.kindOf y=some .free)
 (h11:∀y∈fr,(relabel scope X.env).names.lookup y=some .cell\/(relabel scope X.env).names.lookup y=some .free):CompCells X scope cl (fun C=>(x,C+1)::cl) (fun y=>y==x) fr:=by
 have ce:∀y∈fr,cl.lookup y=X.env.cells.lookup y:=fun y h=>by
  obtain⟨i,hi,rfl⟩:=Xb h;have:=congrArg (fun l=>l[i]?) h8
  simpa [hi] using this
 have nx:∀y∈fr,(y==x)=false:=fun y h=>by
  cases e:y==x with
  |false=>rfl
  |true=>rw[<- beq_iff_eq.mp e,List.elem_eq_true_of_mem h]at h9;cases h9
 have lk:∀(C:Addr) y,(y==x)=false->wZ y ((x,C+1)::cl)=cl.lookup y:=fun C y e=>by rw[List.lookup_cons,e]
 refine⟨h1,h2,h3,fun M A E Q s k=>?_,fun C y hy=>?_,fun C y c e f=>?_,fun C y h=>(lk C y (nx y h)).trans (ce y h),fun C y z c f g _ _=>(beq_iff_eq.mp f).trans (beq_iff_eq.mp g).symm,h10,h11⟩
 ·simp only[newFunctionEnv,Option.isSome_some,if_true]
  refine zm (wpAny_alloc ?_);refine zm (wpAny_layCells _ (fun name kind cells=>by cases hkc:kind==NameKind.cell <;> simp[hkc]) _ _ _ _ ?_);rw[show({ s with heap:=s.heap.push { cls:=.type "dict",data:=.dict #[] } }:Shared).heap.objs.size=s.heap.objs.size+1 from Zq ..,h4,h5];refine zm ?_;rw[List.forIn_nil];refine za (za (k _ _ _ ((Heap.Ns.new s.heap (.type "dict")).keeps fun b o e=>Heap.get?_push_of_some _ e) (fun b o e=>Heap.get?_push_of_some _ (Heap.get?_push_of_some _ e)) fun y c f e=>?_));rw[List.lookup_cons,f]at e;cases e;exact⟨Xf _,_,by rw[<- Zq s.heap { cls:=.type "dict",data:=.dict #[] }];exact Heap.get?_push_size _ rfl,rfl⟩
 ·rcases zG.mp (h6 y hy) with rfl|m
  ·exact .inr ⟨C+1,by rw[List.lookup_cons,beq_self_eq_true]⟩
  ·exact .inl m
 ·rw[lk C y f]at e
  have m:=h7 _ (mem_of_lookup e);rw[<- ce y m];exact e
end L2
namespace L2
open PySem PySem.Spec PyProof.Rows Builtin Builtin.Str
section
variable{prog:Program}{w:World}{A:Around}{E:Value->Shared->Prop}{s:Shared}{t:Addr}
theorem xw(hh:A.handled=none)(ht:s.heap.IsList t (intItems xs))
 (h:∀h' tk t',(∀b o,s.heap.get? b=some o->h'.get? b=some o)->Q (.int (preSum (numAt xs) xs.size) t') { s with heap:=h',toks:=tk }) :
 wpAny (model prog w) A (call (.builtin "sum") [.ref t]) Q E s:=by
 obtain⟨o,ho,hc,n,hd⟩:=id ht;have hne:t≠s.heap.objs.size:=xK (yr ho);have hsz:(intItems xs).size=xs.size:=by simp[intItems]
 have W:=(Walks.list (prog:=prog) (w:=w) (A:=A.in1) hh s.heap.objs.size t hne (intItems xs)).toS;rw[hsz]at W;refine call_sum_walkAnyS (Xy ht ?_);refine⟨s.heap.objs.size,_,_,_,_,_,_,numAt xs,rfl,W,⟨⟨_,Heap.get?_push_size _ rfl,rfl,rfl⟩,ht.at fun o e=>Heap.get?_push_of_some _ e⟩,fun b hb=>?_,fun i v hP=>intItems_at hP,fun s' t' hm=>?_⟩
 ·rcases zG.mp hb with rfl|hb
  ·exact yr (Heap.get?_push_size _ rfl)
  ·obtain rfl:=zL.mp hb
   exact yr (Heap.get?_push_of_some _ ho)
 ·obtain⟨h',g',d',tk',os'⟩:=s'
  have e1:g'=s.gens:=hm.gens;have e2:d'=s.drawn:=hm.drawn;have e3:os'=s.os:=hm.os;subst e1 e2 e3;exact h h' tk' t' fun b o e=>hm.heap b o (fun hb=>absurd (yr e) ((zL.mp hb) ▸ ZJ _)) (Heap.get?_push_of_some _ e)
end
section
variable{X:Cx}{e a b c:Expr}{pos:Pos}
def FR(K:W.Frag):List V->Hp->VK->Prop
 | [.ref p],H,Q=>∃ns:List Int,(SqL K H p (ns.map V.int)\/SqT K H p (ns.map V.int))/\Q (.int ns.sum) H
 |_,_,_=>False
theorem pR(K:W.Frag)(hc:X.calm=true)(hK:X.K=K:=by rfl):CallR X (.builtin "sum") (FR K):=by
 subst hK;intro pins s σ H xs us Q I r h;unfold FR at h;split at h
 ·rename_i p
  obtain⟨ns,hq,q⟩:=h;rcases hq with hq|hq
  ·obtain⟨u,rfl,rx⟩:=eL r
   cases (show u=yy p from rx);obtain⟨its,r',pl,hz⟩:=I.list hq;have hi:=mY r';obtain⟨ys,hy⟩:=hi.allInts.items;have hn:numsOf its.toArray.toList=ns:=by rw[show its.toArray.toList=its from rfl,hi.numsOf]
   have pl':=pl.isList;rw[hy]at pl' hn;rw[nums_intItems]at hn;refine xw (I.ok.hd hc) pl' fun h' tk t' hk=>?_;rw[preSum_eq,Zc (by simp),hn];exact⟨.int ns.sum,H,I.kept hk,⟨_,rfl⟩,q⟩
  ·exact qf hc pins s σ H _ us Q I r ⟨p,ns,rfl,hq,q⟩
 ·exact h.elim
def By(K:W.Frag)(neg:Bool):R2
 |x,.ref p,H,Q=>∃xs,(SqL K H p xs\/SqT K H p xs)/\dX x=true/\xs.all dX=true/\Q (.bl (neg ^^ inV x xs)) H
 |_,_,_,_=>False
theorem EE(K:W.Frag)(hK:X.K=K:=by rfl):OpR X (rB .In) (By K false):=by
 subst hK;refine yq.imp fun x y H Q h=>?_;unfold By at h;split at h
 ·obtain⟨xs,h1,h2,h3,q⟩:=h
  exact⟨_,xs,rfl,h1,h2,h3,by simpa using q⟩
 ·exact h.elim
theorem kr(K:W.Frag)(hK:X.K=K:=by rfl):OpR X (rB .NotIn) (By K true):=by
 subst hK;refine ql.imp fun x y H Q h=>?_;unfold By at h;split at h
 ·obtain⟨xs,h1,h2,h3,q⟩:=h
  exact⟨_,xs,rfl,h1,h2,h3,by simpa using q⟩
 ·exact h.elim
section
variable{T name id:String}{r:V->List V->Hp->VK->Prop}{o:Expr}{to:TE}{apos cpos:Pos}
end
end
end L2
namespace L2
theorem bX{l:List PySem.Str}(h:l.Nodup):l.Nodup:=h
def sp5(f:V->V->V->V->V->Hp->VK->XK->Prop):Sp:=fun vs H Q E=>match vs with
 | [x,y,z,u,v]=>f x y z u v H Q E
 |_=>False
theorem sp5.inv{f}(h:sp5 f vs H Q E):∃x y z u v,vs=[x,y,z,u,v]/\f x y z u v H Q E:=by
 unfold sp5 at h;split at h
 ·exact⟨_,_,_,_,_,rfl,h⟩
 ·exact h.elim
theorem sp5.len{f}(h:sp5 f vs H Q E):vs.length=5:=by obtain⟨_,_,_,_,_,rfl,_⟩:=sp5.inv h;rfl
theorem i_{n:PySem.Str}{v:V}{l:List (PySem.Str × V)}:wZ n ((n,v)::l)=some v:=by simp[wZ]
theorem aR{n m:PySem.Str}{v:V}{l:List (PySem.Str × V)}(h:(n==m)=false):wZ n ((m,v)::l)=wZ n l:=by simp[wZ,h]
end L2
namespace L2
open PySem PySem.Spec PyProof.Rows
structure IH(k:Nat)(A:Around):Prop where
 dp:A.depth+3*k+5<recursionLimit
 un:A.units+16*k+200<cLine
section
variable{X:Cx}{CX:CXT}{k:Nat}{f:Addr}{fd:FuncData}{ps:List Str}{sp:Sp}{dvs:List V}{ds:List Value}{E:XKs}{x:Str}{p pos:Pos}{e:Expr}{es:List Expr}{t:TA}
end
def uP(lo d:Int)(n:Nat):It:=⟨fun i _=>i<n,fun i H x H'=>H'=H/\x = .int (lo+i*d),fun i _=>n<=i⟩
theorem rM{P:Program}{w:World}{K:W.Frag}{tg:Expr}(it:Addr)(lo d:Int)(n:Nat):tB P w K tg (uP lo d n) [it] it (fun i h=>IsRangeIter h it (lo+(i:Nat)*d) ((n:Int)-(i:Nat)) d) where
 mem:=by simp
 obj:=fun i h st b hb=>by
  have e:b=it:=by simpa using hb
  subst e;exact⟨_,st,fun v z=>by
   have z':Data.fields _=Data.cell v:=z;cases z'⟩
 keep:=fun i h h' st k=>k it (by simp) _ st
 item:=by
  intro X hP hw hK hc i pins s σ H E I hf st hg;subst hP hw hK;obtain⟨f0,f1,f2,f3,f4,f5⟩:=hf it (by simp);have W:=Walks.range (prog:=X.prog) (w:=X.w) (I.ok.hd hc) it lo d n;refine W.item i s _ _ hg st fun v h' tk hv st' kk=>?_;obtain⟨t,rfl⟩:=hv;have I1:Inv X pins σ H { s with heap:=h',toks:=tk }:=I.turned (fun b o hb e=>kk b o (by simpa using hb) e) f0 f1 f3 f4 f5;exact⟨_,rfl,lj (s:={ s with heap:=h',toks:=tk }) (n:="range_iterator") st' rfl rfl (by decide) ⟨.int (lo+i*d),H,I1,⟨t,rfl⟩,⟨rfl,rfl⟩,st',fun b hb=>(hf b hb).1⟩⟩
 done:=by
  intro X hP hw hK hc i pins s σ H E I hf st hg;subst hP hw hK;obtain⟨f0,f1,f2,f3,f4,f5⟩:=hf it (by simp);exact wpAny_pyNext_range_end (I.ok.hd hc) st (by have:n<=i:=hg;lia) fun h' eb=>⟨rfl,I.turned (t':=s.toks) (fun b o hb e=>eb b o hb e) f0 f1 f3 f4 f5⟩
 self:=fun _ _ _ _ _ st h=>wpAny_pyIter_rangeiter st h
section
variable{X:Cx}{tg:Expr}
def rsz(i j c:Int):Nat:=if i<j then ((j-i-1) / c+1).toNat else 0
theorem uq{lo c:Int}{n:Nat}{g:TG}{tb:TS}{D:eO}{σ:St}{H:Hp}(Pv:Nat->St->Hp->Prop)(h0:Pv 0 σ H)
 (hs:∀i σ H,i<n->Pv i σ H->g (.int (lo+i*c)) σ H fun σ2 H2=>tb { D with nx:=Pv (i+1),ct:=Pv (i+1),bk:=D.nx } σ2 H2) (hd:∀σ H,Pv n σ H->D.nx σ H) :
 ∃W:Nat->Nat->St->Hp->Prop,(∃m,W 0 m σ H)/\∀i m σ H,W i m σ H ->
  ((uP lo c n).stop i H/\D.nx σ H)\/((uP lo c n).go i H/\∃N:St->Hp->Prop,(∀σ' H',N σ' H'->∃m',m'<m/\W (i+1) m' σ' H')/\∀x H',(uP lo c n).yld i H x H'->g x σ H' fun σ2 H2=>tb { D with nx:=N,ct:=N,bk:=D.nx } σ2 H2):=by
 refine⟨fun i m σ H=>m=n-i/\i<=n/\Pv i σ H,⟨n,by simp,ud _,h0⟩,?_⟩;rintro i m σ H ⟨rfl,hi,p⟩;by_cases hlt:i<n
 ·refine .inr ⟨hlt,Pv (i+1),fun σ' H' p'=>⟨n-(i+1),by lia,rfl,hlt,p'⟩,fun x H' y=>?_⟩
  obtain⟨e,y⟩:=y;subst e y;exact hs i σ _ hlt p
 ·have e:i=n:=by lia
  subst e;exact .inl ⟨z4 _,hd σ H p⟩
end
end L2
namespace L2
theorem ex1(hl:us.length=1):∃a0,us=[a0]:=by
 match us,hl with
 | [a0],_=>exact⟨a0,rfl⟩
theorem ex2(hl:us.length=2):∃a0 a1,us=[a0,a1]:=by
 match us,hl with
 | [a0,a1],_=>exact⟨a0,a1,rfl⟩
theorem ex3(hl:us.length=3):∃a0 a1 a2,us=[a0,a1,a2]:=by
 match us,hl with
 | [a0,a1,a2],_=>exact⟨a0,a1,a2,rfl⟩
theorem ex4(hl:us.length=4):∃a0 a1 a2 a3,us=[a0,a1,a2,a3]:=by
 match us,hl with
 | [a0,a1,a2,a3],_=>exact⟨a0,a1,a2,a3,rfl⟩
theorem ex5(hl:us.length=5):∃a0 a1 a2 a3 a4,us=[a0,a1,a2,a3,a4]:=by
 match us,hl with
 | [a0,a1,a2,a3,a4],_=>exact⟨a0,a1,a2,a3,a4,rfl⟩
theorem ex6(hl:us.length=6):∃a0 a1 a2 a3 a4 a5,us=[a0,a1,a2,a3,a4,a5]:=by
 match us,hl with
 | [a0,a1,a2,a3,a4,a5],_=>exact⟨a0,a1,a2,a3,a4,a5,rfl⟩
end L2
namespace L2
open Lean Meta Simp
def Ft:List Name:=[`L2.E4,`L2.tC,`L2.tOp,`L2.tUn,`L2.gEqN,`L2.m5,`L2.vh,`L2.He,`L2.fOr,`L2.Gv,`L2.BE,`L2.fPickT,`L2.GK,`L2.Hn,`L2.Gw,`L2.tRetN,`L2.D4,`L2.DT,`L2.uZ,`L2.hZ,`L2.tIf,`L2.En,`L2.tOr,`L2.GM,`L2.cg,`L2.jP,`L2.tCB,`L2.pW,`L2.G6,`L2.HP,`L2.HC,`L2.DY,`L2.tIsB,`L2.D0,`L2.wa,`L2.tSl,`L2.cs,`L2.Gb,`L2.CMul,`L2.Fr,`L2.uK,`L2.tTry,`L2.gcE,`L2.HR,`L2.tGc,`L2.tBM,`L2.DA,`L2.fJoinRev,`L2.CDivB,`L2.v4,`L2.Fb,`L2.DX,`L2.GD,`L2.HN,`L2.DO,`L2.DZ,`L2.DP,`L2.mU,`L2.m8,`L2.Bt,`L2.y4,`L2.Ec,`L2.tBM0,`L2.rClear]
def FI:List Name:=[`L2.BC,`L2.gI,`L2.gIC,`L2.E8,`L2.gLe,`L2.gLt,`L2.eqS,`L2.kB,`L2.Id,`L2.Fx,`L2.EO,`L2.C4,`L2.Cw,`L2.gInt,`L2.gIx,`L2.sp0,`L2.sp1,`L2.sp2,`L2.sp3,`L2.sp4,`L2.asI,`L2.asT,`L2.asB,`L2.asR,`L2.tyV,`L2.gSt,`L2.gEn,`L2.gZf,`L2.gStr,`L2.zQ,`L2.gIn,`L2.gSl,`L2.Ij,`L2.gMulS,`L2.Io,`L2.gRep,`L2.gRepT,`L2.gIsiT,`L2.AM,`L2.u8,`L2.F9,`L2.Em,`L2.Fj,`L2.z9,`L2.wV,`L2.FR,`L2.gMulT]
def rdI:=yN @L2.CA (yN @L2.Iq (yN @L2.V.bl.injEq (yN @L2.V.str.injEq (yN @L2.yj (yN @L2.Hg (yN @L2.Fm (yN @L2.Fu (yN @L2.F7 (yN @L2.F1 (yN @L2.lQ (yN @L2.rF (yN @L2.vD (yN @L2.vx (yN @L2.sf (yN @L2.pY (yN @L2.sJ (yN @L2.Dy (yN @L2.kf (yN @L2.qc (yN @L2.rP (yN @L2.tE (yN @L2.pI (yN @L2.oH (yN @L2.pK (yN @L2.Gm (yN @L2.lJ (yN @L2.sZ (yN @L2.vk (yN @L2.vo (yN @L2.rp (yN @L2.qr (yN @L2.rA (yN @L2.Cu (yN @L2.j7 (yN @L2.qA (yN @L2.rZ (yN @L2.sB (yN @L2.ra (yN @L2.om (yN @L2.pV (yN @L2.zU (yN @L2.jY (yN @L2.oq (yN @L2.qP (yN @L2.qq (yN @L2.oI (yN @L2.nr (yN @L2.n9 (yN @L2.B2 (yN @L2.ka (yN @L2.pO (yN @L2.rD (yN @L2.rW (yN @L2.pT (yN @L2.oy (yN @L2.qR (yN @L2.GN (yN @L2.FT (yN @L2.FZ (yN @L2.Gi (yN @L2.CO (yN @L2.Eu (yN @L2.Cs (yN @L2.Dw (yN @L2.C2 (yN @L2.Cz (yN @L2.EY (yN @L2.C_ (yN @L2.Cf (yN @L2.Di (yN @true_and (yN @and_true (yN @and_self (yN @true_or (yN @or_true (yN @decide_eq_true_eq (yN @Bool.true_eq_false (yN @Bool.false_xor (yN @Bool.true_xor (yN @Xz (yN @Bool.not_false (yN @sY (yN @Xu (yN @decide_eq_false_iff_not @Classical.not_not))))))))))))))))))))))))))))))))))))))))))))))))))))))))))))))))))))))))))))))))))))
end L2
namespace L2
namespace Srt
open PySem PyProof.Rows
def kv(κ:Keyed->Int)(xs:Array Keyed)(i:Nat):Int:=(xs[i]?.map κ).getD 0
def Up(κ:Keyed->Int)(xs:Array Keyed)(k:Nat):Prop:=∀i j,i<=j->j<k->kv κ xs i<=kv κ xs j
def Dn(κ:Keyed->Int)(xs:Array Keyed)(k:Nat):Prop:=∀i j,i<=j->j<k->kv κ xs j<=kv κ xs i
structure SB(kd:SortKind)(z:Array Keyed)(t:SortSt):Prop where
 pm:(arrOf t).Perm z
 kn:kindOf t=kd
 fl:failedOf t=none
 pn:pendingOf t = #[]
theorem SB.sz(b:SB kd z t):(arrOf t).size=z.size:=b.pm.size_eq
theorem SB.put(b:SB kd z t)(p:xs.Perm (arrOf t)):SB kd z (setArr t xs):=
 ⟨p.trans b.pm,b.kn,b.fl,b.pn⟩
theorem oP(h:i<xs.size):kv κ xs i=κ xs[i]:=by
 unfold kv;rw[Array.getElem?_eq_getElem h];rfl
theorem we(h:xs[i]? = ys[j]?):kv κ xs i=kv κ ys j:=by unfold kv;rw[h]
theorem BJ(hs:u<xs.size)(hd:d<=u)(k:Nat) :
 kv κ (bubble xs u d) k=if k=u-d then kv κ xs u else if u-d<k/\k<=u then kv κ xs (k-1) else kv κ xs k:=by
 have e:=getElem?_bubble hs d hd k;by_cases h1:k=u-d
 ·rw[if_pos h1]at e |-
  exact we e
 ·rw[if_neg h1]at e |-
  by_cases h2:u-d<k/\k<=u
  ·rw[if_pos h2]at e |-
   exact we e
  ·rw[if_neg h2]at e |-
   exact we e
theorem Bb(hj:n<=xs.size)(hk:k<n) :
 kv κ (mirror xs 0 n ((n-0) / 2)) k=kv κ xs (n-1-k):=by
 have e:=getElem?_mirror_all (i:=0) hj k;rw[if_pos ⟨ud _,hk⟩,Nat.zero_add]at e;exact we e
section
variable{prog:Program}{w:World}{A:Around}{E:Value->Shared->Prop}{s:Shared}{z:Array Keyed}{κ:Keyed->Int}{kd:SortKind}{t:SortSt}
def Lts(prog:Program)(w:World)(A:Around)(s:Shared)(kd:SortKind)(κ:Keyed->Int)(z:Array Keyed):Prop:=
 ∀(E:Value->Shared->Prop) (p q:Keyed) (Q:Bool->Shared->Prop),p∈z.toList->q∈z.toList->Q (decide (κ p<κ q)) s->wpAny (model prog w) A (keyLt' kd p.1 q.1) Q E s
theorem SB.mem(b:SB kd z t)(h:i<(arrOf t).size):(arrOf t)[i]∈z.toList:=
 (YY.mp b.pm).mem_iff.mp (by simp)
theorem sU(L:Lts prog w A s kd κ z)(b:SB kd z t)(hi:i<z.size)(hj:j<z.size)
 (h:Q (some (decide (kv κ (arrOf t) i<kv κ (arrOf t) j))) t):wpS (model prog w) A E s (ltAt' i j) Q t:=by
 have i':i<(arrOf t).size:=b.sz ▸ hi;have j':j<(arrOf t).size:=b.sz ▸ hj;rw[oP i',oP j']at h;rw[ltAt'_eq];refine wpS_bind (wpS_get ?_);show wpS (model prog w) A E s (elem' (arrOf t) i >>= fun p=>elem' (arrOf t) j >>= fun q=>lt' p q) Q t;rw[elem'_eq,elem'_eq,Array.getElem?_eq_getElem i',Array.getElem?_eq_getElem j'];refine wpS_bind (wpS_pure (wpS_bind (wpS_pure ?_)));rw[lt'_eq];refine wpS_bind (wpS_get ?_);rw[b.kn];exact wpS_bind (wpS_lift (Yj (L _ _ _ _ (b.mem i') (b.mem j') ⟨rfl,wpS_pure h⟩)))
def nR(κ:Keyed->Int)(z:Array Keyed):Prop:=(z.toList.map κ).Nodup
theorem apart(b:SB kd z t)(D:nR κ z)(hj:j<z.size)(h:i<j):kv κ (arrOf t) i≠kv κ (arrOf t) j:=by
 have j':j<(arrOf t).size:=b.sz ▸ hj;have i':i<(arrOf t).size:=Nat.lt_trans h j';have d:((arrOf t).toList.map κ).Nodup:=((YY.mp b.pm).map κ).nodup_iff.mpr D;rw[oP i',oP j'];intro e;have:=Zk.mp d i j (by simpa using i') (by simpa using j') h;simp at this;exact this e
theorem Cc(u:Up κ xs n)(h:n=0\/kv κ xs (n-1)<=kv κ xs n):Up κ xs (n+1):=by
 intro i j a c;by_cases e:j<n
 ·exact u i j a e
 ·have:j=n:=by lia
  subst this;by_cases e2:i=j
  ·subst e2;exact Xo _
  ·exact Int.le_trans (u i (j-1) (by lia) (by lia)) (h.resolve_left (by lia))
theorem wL(u:Dn κ xs n)(h:n=0\/kv κ xs n<=kv κ xs (n-1)):Dn κ xs (n+1):=by
 intro i j a c;by_cases e:j<n
 ·exact u i j a e
 ·have:j=n:=by lia
  subst this;by_cases e2:i=j
  ·subst e2;exact Xo _
  ·exact Int.le_trans (h.resolve_left (by lia)) (u i (j-1) (by lia) (by lia))
theorem asc(L:Lts prog w A s kd κ z)(hr:r<=z.size)(ha:1<=a)(har:a<=r)(b:SB kd z t)(u:Up κ (arrOf t) a)
 (h:∀n,a<=n->n<=r->Up κ (arrOf t) n->(n=r\/kv κ (arrOf t) n<kv κ (arrOf t) (n-1))->Q (none,n) t):wpS (model prog w) A E s (ascLoop a r) Q t:=by
 unfold ascLoop;refine wpS_forRange (fun x c t'=>t'=t/\c=(none,x)/\Up κ (arrOf t) x) ?_ ?_ ⟨rfl,rfl,u⟩
 ·rintro x c t' x1 x2 ⟨rfl,rfl,u'⟩
  refine wpS_bind (sU L b (by lia) (by lia) ?_);by_cases l:kv κ (arrOf t') x<kv κ (arrOf t') (x-1)
  ·simp only[decide_eq_true l,if_true]
   exact wpS_pure (h x x1 (by lia) u' (.inr l))
  ·simp only[decide_eq_false l,sY,if_false]
   exact wpS_pure ⟨rfl,rfl,Cc u' (.inr (by lia))⟩
 ·rintro c t' ⟨rfl,rfl,u'⟩
  rw[Nat.max_eq_right har]at u' |-
  exact h r har (z4 _) u' (.inl rfl)
theorem t3(L:Lts prog w A s kd κ z)(hr:r<=z.size)(h1:1<=n)(hn:n<=r)(b:SB kd z t)(u:Dn κ (arrOf t) n)
 (h:∀m t',SB kd z t'->1<=m->m<=r->Up κ (arrOf t') m->Q (some m) t'):wpS (model prog w) A E s (tail3 n r) Q t:=by
 unfold tail3;refine wpS_bind (wpS_reverse ?_);have b':=b.put (mirror_perm (arrOf t) 0 n ((n-0) / 2));refine wpS_bind (asc L hr h1 hn b' ?_ fun m m1 m2 u' _=>wpS_pure (h m _ b' (by lia) m2 u'));intro i j a c;have g:n<=(arrOf t).size:=by rw[b.sz];lia
 show kv κ (mirror (arrOf t) 0 n ((n-0) / 2)) i<=kv κ (mirror (arrOf t) 0 n ((n-0) / 2)) j;rw[Bb g (by lia),Bb g c];exact u _ _ (by lia) (by lia)
theorem Ig(L:Lts prog w A s kd κ z)(D:nR κ z)(hr:r<=z.size)(h1:1<=n)(hn:n<=r)(b:SB kd z t)(u:Dn κ (arrOf t) n)
 (h:∀m,n<=m->m<=r->Dn κ (arrOf t) m->Q (none,m,0) t):wpS (model prog w) A E s (descLoop n r) Q t:=by
 unfold descLoop;refine wpS_forRange (fun x c t'=>t'=t/\c=(none,x,0)/\Dn κ (arrOf t) x) ?_ ?_ ⟨rfl,rfl,u⟩
 ·rintro x c t' x1 x2 ⟨rfl,rfl,u'⟩
  dsimp only;refine wpS_bind (sU L b (by lia) (by lia) ?_);by_cases l:kv κ (arrOf t') x<kv κ (arrOf t') (x-1)
  ·simp only[decide_eq_true l,if_true]
   rw[if_neg (ZJ 0)];exact wpS_pure ⟨rfl,rfl,wL u' (.inr (Int.le_of_lt l))⟩
  ·simp only[decide_eq_false l,sY,if_false]
   refine wpS_bind (sU L b (by lia) (by lia) ?_);have d:=apart b D (i:=x-1) (j:=x) (by lia) (by lia);simp only[decide_eq_true (show kv κ (arrOf t') (x-1)<kv κ (arrOf t') x by lia),if_true];exact wpS_pure (h x x1 (by lia) u')
 ·rintro c t' ⟨rfl,rfl,u'⟩
  rw[Nat.max_eq_right hn]at u' |-
  exact h r hn (z4 _) u'
theorem count(L:Lts prog w A s kd κ z)(D:nR κ z)(hr:r<=z.size)(h1:1<=r)(b:SB kd z t)
 (h:∀m t',SB kd z t'->1<=m->m<=r->Up κ (arrOf t') m->Q (some m) t'):wpS (model prog w) A E s (countRun' 0 r) Q t:=by
 rw[countRun0_eq];refine wpS_bind (asc L hr (z4 1) h1 b (fun i j a c=>by have:i=j:=(by lia);subst this;exact Xo _) fun n n1 n2 u o=>?_);dsimp only;by_cases e:n=r
 ·rw[if_pos (by simpa using e)]
  exact wpS_pure (h n t b n1 n2 u)
 rw[if_neg (by simpa using e)];by_cases g:n > 1
 ·rw[if_pos g]
  refine wpS_bind (sU L b (by lia) (by lia) ?_);have d:=apart b D (i:=0) (j:=n-1) (by lia) (by lia);have l:=u 0 (n-1) (by lia) (by lia);simp only[decide_eq_true (show kv κ (arrOf t) 0<kv κ (arrOf t) (n-1) by lia),if_true];exact wpS_pure (h n t b n1 n2 u)
 ·rw[if_neg g]
  have:n=1:=by lia
  subst this;unfold descPart;refine wpS_bind (wpS_lift (Yo ⟨rfl,?_⟩));refine wpS_bind (Ig L D hr (by lia) (by lia) b ?_ fun m m1 m2 u'=>?_)
  ·refine wL (fun i j a c=>by have:i=j:=(by lia);subst this;exact Xo _) (.inr ?_)
   have:=o.resolve_left e;lia
  ·dsimp only
   rw[if_neg (ZJ 0)];exact t3 L hr (by lia) m2 b u' h
theorem F6(L:Lts prog w A s kd κ z)(hn:n<=z.size)(hk:k₀<=n)(h0:1<=k₀)(b:SB kd z t)(u:Up κ (arrOf t) k₀)
 (h:∀t',SB kd z t'->Up κ (arrOf t') n->Q true t'):wpS (model prog w) A E s (binarySort' 0 n k₀) Q t:=by
 rw[binarySort'_eq];simp only[Nat.zero_add];rw[Nat.max_eq_left h0];refine wpS_bind (wpS_mono (wpS_forRange (fun k c t'=>c=(none,())/\SB kd z t'/\Up κ (arrOf t') k) (Q:=fun c t'=>c=(none,())/\SB kd z t'/\Up κ (arrOf t') n) ?_ ?_ ⟨rfl,b,u⟩) ?_)
 ·rintro k c t' k1 k2 ⟨rfl,b',u'⟩
  refine wpS_bind (wpS_mono (wpS_forRange (fun x c t2=>t2=t'/\∃l r,c=(none,l,r)/\l<=r/\r<=k/\r-l<=k-x /\
   (∀i,i<l->kv κ (arrOf t') i<=kv κ (arrOf t') k)/\∀i,r<=i->i<k->kv κ (arrOf t') k<=kv κ (arrOf t') i)
   (Q:=fun c t2=>t2=t'/\∃l r,c=(none,l,r)/\l<=k/\(∀i,i<l->kv κ (arrOf t') i<=kv κ (arrOf t') k)/\∀i,l<=i->i<k->kv κ (arrOf t') k<=kv κ (arrOf t') i) ?_ ?_
    ⟨rfl,0,k,rfl,ud _,z4 _,z4 _,fun i q=>absurd q (Nat.not_lt_zero _),fun i q q'=>absurd q' (Nat.not_lt.mpr q)⟩) ?_)
  ·rintro x c t2 _ x2 ⟨rfl,l,r,rfl,lr,rk,m,lo,hi⟩
   dsimp only;by_cases g:l ≥ r
   ·rw[if_pos g]
    have:l=r:=by lia
    subst this;exact wpS_pure ⟨rfl,l,l,rfl,rk,lo,hi⟩
   rw[if_neg g];refine wpS_bind (sU L b' (by lia) (by lia) ?_);by_cases q:kv κ (arrOf t2) k<kv κ (arrOf t2) ((l+r) / 2)
   ·simp only[decide_eq_true q,if_true]
    exact wpS_pure ⟨rfl,l,(l+r) / 2,rfl,by lia,by lia,by lia,lo,fun i a c=>Int.le_trans (Int.le_of_lt q) (u' _ _ a c)⟩
   ·simp only[decide_eq_false q,sY,if_false]
    exact wpS_pure ⟨rfl,(l+r) / 2+1,r,rfl,by lia,by lia,by lia,fun i a=>Int.le_trans (u' i ((l+r) / 2) (by lia) (by lia)) (by lia),hi⟩
  ·rintro c t2 ⟨rfl,l,r,rfl,lr,rk,m,lo,hi⟩
   have:l=r:=by lia
   subst this;exact⟨rfl,l,l,rfl,rk,lo,hi⟩
  ·rintro c t2 ⟨rfl,l,r,rfl,lk,lo,hi⟩
   show wpS (model prog w) A E s (moveDown' k l >>= fun _=>pure (ForInStep.yield (none,()))) _ t2;rw[moveDown'_eq];refine wpS_bind (wpS_modify (wpS_pure ⟨rfl,b'.put (bubble_perm _ _ _),?_⟩));have g:k<(arrOf t2).size:=by rw[b'.sz];lia
   intro i j a c;show kv κ (bubble (arrOf t2) k (k-l)) i<=kv κ (bubble (arrOf t2) k (k-l)) j;rw[BJ g (by lia),BJ g (by lia),Nat.sub_sub_self lk];by_cases e1:i=l
   ·rw[if_pos e1]
    by_cases e2:j=l
    ·rw[if_pos e2];exact Xo _
    ·rw[if_neg e2,if_pos (by lia)];exact hi _ (by lia) (by lia)
   ·rw[if_neg e1]
    by_cases e3:l<i/\i<=k
    ·rw[if_pos e3,if_neg (by lia),if_pos (by lia)];exact u' _ _ (by lia) (by lia)
    ·rw[if_neg e3]
     by_cases e2:j=l
     ·rw[if_pos e2];exact lo _ (by lia)
     ·rw[if_neg e2]
      by_cases e4:l<j/\j<=k
      ·rw[if_pos e4];exact u' _ _ (by lia) (by lia)
      ·rw[if_neg e4];exact u' _ _ a (by lia)
 ·rintro c t' ⟨e,b',u'⟩
  rw[Nat.max_eq_right hk]at u';exact⟨e,b',u'⟩
 ·rintro c t' ⟨rfl,b',u'⟩
  exact wpS_pure (h t' b' u')
theorem Ii(L:Lts prog w A s kd κ z)(D:nR κ z)(b:SB kd z t)(h2:2<=z.size)(h64:z.size<64)
 (h:∀t',(arrOf t').Perm z->failedOf t'=none->Up κ (arrOf t') z.size->Q () t'):wpS (model prog w) A E s sortRuns' Q t:=by
 rw[sortRuns'_eq];refine wpS_bind (wpS_get ?_);dsimp only;have mr:minRun' z.size z.size 0=z.size:=by
  obtain⟨f,e⟩:∃f,z.size=f+1:=⟨z.size-1,by lia⟩;rw[e,minRun'_succ,if_pos (by lia),Nat.add_zero]
 simp only[b.sz,mr];refine wpS_bind (wpS_mono (wpS_forRange
  (fun x c t'=>(x=0/\c=(none,0)/\SB kd z t')\/(1<=x/\c=(none,z.size)/\(arrOf t').Perm z/\failedOf t'=none/\pendingOf t' = #[(0,z.size,0)]/\Up κ (arrOf t') z.size))
  (Q:=fun c t'=>c=(none,z.size)/\(arrOf t').Perm z/\failedOf t'=none/\pendingOf t' = #[(0,z.size,0)]/\Up κ (arrOf t') z.size) ?_ ?_ (.inl ⟨rfl,rfl,b⟩)) ?_)
 ·rintro x c t' _ x2 (⟨rfl,rfl,b'⟩|⟨x1,rfl,d⟩)
  ·dsimp only
   rw[if_neg (by lia)];simp only[Nat.sub_zero,Nat.min_self,Nat.zero_add];refine wpS_bind (count L D (z4 _) (by lia) b' fun m t2 b2 m1 m2 u2=>?_);dsimp only;by_cases g:m<z.size
   ·rw[if_pos g]
    refine wpS_bind (wpS_lift (Yo ⟨rfl,?_⟩));refine wpS_bind (F6 L (z4 _) m2 m1 b2 u2 fun t3 b3 u3=>?_);simp only[Xz,sY,if_false];refine wpS_bind (wpS_get ?_);rw[show(pendingOf t3).back? = none by rw[b3.pn];rfl];exact wpS_bind (wpS_modify (wpS_pure (.inr ⟨by lia,rfl,b3.pm,b3.fl,by show(pendingOf t3).push _=_;rw[b3.pn];rfl,u3⟩)))
   ·rw[if_neg g]
    have:m=z.size:=by lia
    subst this;refine wpS_bind (wpS_get ?_);rw[show(pendingOf t2).back? = none by rw[b2.pn];rfl];exact wpS_bind (wpS_modify (wpS_pure (.inr ⟨by lia,rfl,b2.pm,b2.fl,by show(pendingOf t2).push _=_;rw[b2.pn];rfl,u2⟩)))
  ·dsimp only
   rw[if_pos (z4 _)];exact wpS_pure ⟨rfl,d⟩
 ·rintro c t' (⟨x,_,_⟩|⟨_,e,d⟩)
  ·lia
  ·exact⟨e,d⟩
 ·rintro c t' ⟨rfl,p1,p2,p3,p4⟩
  dsimp only;refine wpS_bind (wpS_mono (wpS_forRange (fun _ c t2=>t2=t'/\c=(none,())) (Q:=fun c t2=>t2=t'/\c=(none,())) ?_ (fun _ _ q=>q) ⟨rfl,rfl⟩) ?_)
  ·rintro x c t2 _ _ ⟨rfl,rfl⟩
   refine wpS_bind (wpS_get ?_);rw[if_pos (by rw[p3];exact z4 1)];exact wpS_pure ⟨rfl,rfl⟩
  ·rintro c t2 ⟨rfl,rfl⟩
   exact wpS_pure (h _ p1 p2 p4)
end
section
variable{prog:Program}{w:World}{A:Around}{E:Value->Shared->Prop}{s:Shared}
structure Cmp(prog:Program)(w:World)(A:Around)(h:Heap)(os:OsState)(kd:SortKind)(κ:Value->Int)(vs:List Value):Prop where
 kind:∀(E:Value->Shared->Prop) (s:Shared) (Q:SortKind->Shared->Prop),s.heap=h->Q kd s->wpAny (model prog w) A (keyKind' vs.toArray) Q E s
 lt:∀(E:Value->Shared->Prop) (s:Shared) (p q:Value) (Q:Bool->Shared->Prop),s.heap=h->p∈vs->q∈vs->Q (decide (κ p<κ q)) s->wpAny (model prog w) A (keyLt' kd p q) Q E s
theorem pairs_mem{vs:List Value}(h:p∈(vs.toArray.zip vs.toArray).toList):p.1∈vs/\p.2=p.1:=by
 rw[Array.toList_zip]at h;simp at h;rw[List.zip_eq_zipWith,List.zipWith_self]at h;obtain⟨a,ha,e⟩:=yH.mp h;subst e;exact⟨ha,rfl⟩
theorem pairs_fst(vs:List Value):(vs.toArray.zip vs.toArray).toList.map (·.1)=vs:=by
 rw[Array.toList_zip];exact List.map_fst_zip (z4 _)
theorem sort_by{vs:List Value}(ho:s.heap.get? a=some (seqObj "list" vs.toArray n))(h64:vs.length<64)(hd:(vs.map κ).Nodup)
 (hC:2<=vs.length->Cmp prog w A (((s.heap.update a (Zb fun _=>#[])).push (seqObj "tuple" vs.toArray 0)).push (seqObj "list" #[] 0)) s.os kd κ vs)
 (h:∀out:List Value,out.Perm vs->out.Pairwise (fun x y=>κ x<κ y)->P (.done (.ret .none)) { s with heap:=sortedHeap s.heap a vs out.toArray }) :
 wpAny (model prog w) A (Builtin.«list.sort» ⟨[.ref a],[]⟩) P E s:=by
 rw[list_sort_plain];have la:a<s.heap.objs.size:=yr ho;refine zm (listItems_at ho rfl (zm (listUpdate_at ho rfl ?_ (hsz:=by rw[yg,uS];lia))));obtain⟨e1,ho1⟩:∃e,(s.heap.update a (Zb fun _=>#[])).get? a=some (seqObj "list" #[] e):=⟨_,get?_update_seq ho fun _=>#[]⟩;refine zm (seqEpoch_at ho1 rfl (zm (wpAny_newTuple (zm (wpAny_newList (Ze ?_))) (by show vs.length<=_;rw[uS];lia))));have ho3:(((s.heap.update a (Zb fun _=>#[])).push (seqObj "tuple" vs.toArray 0)).push (seqObj "list" #[] 0)).get? a=some (seqObj "list" #[] e1):=
  Heap.get?_push_of_some _ (Heap.get?_push_of_some _ ho1)
 show wpAny (model prog w) A _ P E { s with heap:=((s.heap.update a (Zb fun _=>#[])).push (seqObj "tuple" vs.toArray 0)).push (seqObj "list" #[] 0) };dsimp only;have fin:∀t:SortSt,(arrOf t).Perm (vs.toArray.zip vs.toArray)->failedOf t=none->Up (fun p=>κ p.1) (arrOf t) (vs.toArray.zip vs.toArray).size ->
  (((arrOf t).map (·.2)).toList.Perm vs/\((arrOf t).map (·.2)).toList.Pairwise fun x y=>κ x<κ y):=fun t pm _ u=>by
  have pl:=YY.mp pm;have e2:((arrOf t).map (·.2)).toList=(arrOf t).toList.map (·.1):=by
   rw[Array.toList_map];exact rE fun p hp=>(pairs_mem (pl.mem_iff.mp hp)).2
  have p1:((arrOf t).map (·.2)).toList.Perm vs:=by
   rw[e2];have:=pl.map (·.1)
   rwa [pairs_fst]at this
  refine⟨p1,?_⟩;have nd:(((arrOf t).map (·.2)).toList.map κ).Nodup:=(p1.map κ).nodup_iff.mpr hd;rw[e2]at nd |-
  have sz:(arrOf t).size=(vs.toArray.zip vs.toArray).size:=pm.size_eq;refine Zk.mpr fun i j hi hj hij=>?_;have hi':i<(arrOf t).size:=by simpa using hi
  have hj':j<(arrOf t).size:=by simpa using hj
  have l:=u i j (Yk hij) (by lia);rw[oP hi',oP hj']at l;have d:=Zk.mp nd i j (by simpa using hi) (by simpa using hj) hij;simp at d l |-
  lia
 by_cases c2:vs.toArray.size<2
 ·rw[if_pos c2,if_pos c2]
  refine zm (za ?_);rw[StateT.run_pure];refine zm (za ?_);dsimp only;refine zm (seqEpoch_at ho3 rfl ?_);obtain⟨f1,f2⟩:=fin (SortSt.mk' general' (vs.toArray.zip vs.toArray) #[] 7 none) (Array.Perm.refl _) rfl fun i j hij hj=>by
   have:i=j:=by simp at hj c2;lia
   subst this;exact Xo _
  have sz2:((vs.toArray.zip vs.toArray).map (·.2)).size<=sizeLine+1:=by simp;rw[uS];lia
  refine zm (listUpdate_at ho3 rfl ?_ (hsz:=by rw[uS];decide) (hsz2:=sz2));simp only[bne_self_eq_false,sY,if_false];exact za (h _ f1 f2)
 ·rw[if_neg c2,if_neg c2]
  have C:=hC (by simp at c2;lia);refine zm (C.kind _ _ _ rfl ?_);have zs:(vs.toArray.zip vs.toArray).size=vs.length:=by simp
  have L:Lts prog w A { s with heap:=((s.heap.update a (Zb fun _=>#[])).push (seqObj "tuple" vs.toArray 0)).push (seqObj "list" #[] 0) } kd (fun p=>κ p.1) (vs.toArray.zip vs.toArray):=
   fun E p q Q hp hq k=>C.lt _ _ _ _ _ rfl (pairs_mem hp).1 (pairs_mem hq).1 k
  have D:nR (fun p=>κ p.1) (vs.toArray.zip vs.toArray):=by
   unfold nR;rw[show(vs.toArray.zip vs.toArray).toList.map (fun p=>κ p.1)=((vs.toArray.zip vs.toArray).toList.map (·.1)).map κ by rw[ug];rfl,pairs_fst];exact hd
  refine zm (qN (Ii (z:=vs.toArray.zip vs.toArray) (t:=SortSt.mk' kd (vs.toArray.zip vs.toArray) #[] 7 none) (Q:=fun _ t'=>(arrOf t').Perm (vs.toArray.zip vs.toArray)/\failedOf t'=none/\Up (fun p=>κ p.1) (arrOf t') (vs.toArray.zip vs.toArray).size)
   L D ⟨Array.Perm.refl _,rfl,rfl,rfl⟩ (by rw[zs];simp at c2;lia) (by lia) fun t' a1 a2 a3=>⟨a1,a2,a3⟩) ?_ fun _ _ e=>e)
  rintro⟨⟨⟩,t'⟩ s' ⟨rfl,a1,a2,a3⟩;dsimp only;refine zm (seqEpoch_at ho3 rfl ?_);obtain⟨f1,f2⟩:=fin t' a1 a2 a3;have sz2:((arrOf t').map (·.2)).size<=sizeLine+1:=by
   have:=f1.length_eq;rw[xO]at this;rw[this,uS];lia
  refine zm (listUpdate_at ho3 rfl ?_ (hsz:=by rw[uS];decide) (hsz2:=sz2));rw[a2];simp only[bne_self_eq_false,sY,if_false];exact za (h _ f1 f2)
theorem sorted_by(hl:s.heap.IsList l vs.toArray)(h64:vs.length<64)(hd:(vs.map κ).Nodup)
 (hC:2<=vs.length->∀h',(∀b o,s.heap.get? b=some o->h'.get? b=some o)->Cmp prog w A.in1.in1 h' s.os kd κ vs)
 (h:∀(out:List Value) (h':Heap) (c:Nat),out.Perm vs->out.Pairwise (fun x y=>κ x<κ y)->(∀b o,s.heap.get? b=some o->h'.get? b=some o) ->
  h'.get? (s.heap.objs.size+1)=some (seqObj "list" out.toArray c)->Q (.ref (s.heap.objs.size+1)) { s with heap:=h' }) :
 wpAny (model prog w) A (call (.builtin "sorted") [.ref l]) Q E s:=by
 refine Xe kind_sorted plain_sorted entry_sorted (args_sorted1 _) ?_;unfold Builtin.«sorted»;refine zm (m:=checkCount "sorted" 1 1 _) (za (zm (collect_list hl (zm (wpAny_newList ?_ (by rw[uS];lia))) (by rw[uS];lia))));have z:((s.heap.push (seqObj "list" #[] 0)).update s.heap.objs.size (Zb (· ++ vs.toArray))).objs.size=s.heap.objs.size+1:=(Heap.size_update ..).trans (size_push' _ _);have kp:∀b o,s.heap.get? b=some o->(((s.heap.push (seqObj "list" #[] 0)).update s.heap.objs.size (Zb (· ++ vs.toArray))).push (seqObj "list" vs.toArray 0)).get? b=some o:=fun b o e=>by
  have lt:b<s.heap.objs.size:=yr e;refine Heap.get?_push_of_some _ ?_;rw[Heap.get?_update_ne _ _ _ _ (xK lt)];exact Heap.get?_push_of_some _ e
 have at1:(((s.heap.push (seqObj "list" #[] 0)).update s.heap.objs.size (Zb (· ++ vs.toArray))).push (seqObj "list" vs.toArray 0)).get? (s.heap.objs.size+1)=some (seqObj "list" vs.toArray 0):=by
  rw[<- z];exact Heap.get?_push_size _ rfl
 show wpAny (model prog w) _ _ _ _ { s with heap:=((s.heap.push (seqObj "list" #[] 0)).update s.heap.objs.size (Zb (· ++ vs.toArray))).push (seqObj "list" vs.toArray 0) };rw[z];generalize hh:((s.heap.push (seqObj "list" #[] 0)).update s.heap.objs.size (Zb (· ++ vs.toArray))).push (seqObj "list" vs.toArray 0)=h1 at at1 kp |-
 have kp2:∀b o,s.heap.get? b=some o->(((h1.update (s.heap.objs.size+1) (Zb fun _=>#[])).push (seqObj "tuple" vs.toArray 0)).push (seqObj "list" #[] 0)).get? b=some o:=fun b o e=>by
  have lt:b<s.heap.objs.size:=yr e;refine Heap.get?_push_of_some _ (Heap.get?_push_of_some _ ?_);rw[Heap.get?_update_ne _ _ _ _ (xK (Yq lt))];exact kp b o e
 refine zm (Ze (r6 slot_list_sort ⟨_,at1,rfl⟩ entry_list_sort (sort_by (s:={ s with heap:=h1 }) at1 h64 hd (fun c=>hC c _ kp2) fun out p1 p2=>⟨_,rfl,?_⟩) (args_list_sort _)));have at2:(((h1.update (s.heap.objs.size+1) (Zb fun _=>#[])).push (seqObj "tuple" vs.toArray 0)).push (seqObj "list" #[] 0)).get? (s.heap.objs.size+1)=some (seqObj "list" #[] _):=
  Heap.get?_push_of_some _ (Heap.get?_push_of_some _ (get?_update_seq at1 fun _=>#[]))
 refine za ⟨_,rfl,h out _ _ p1 p2 (fun b o e=>?_) (get?_update_seq at2 fun _=>out.toArray)⟩;have lt:b<s.heap.objs.size:=yr e;show(Heap.update _ _ _).get? b=_;rw[Heap.get?_update_ne _ _ _ _ (xK (Yq lt))];exact kp2 b o e
end
end Srt
namespace Srt
open PySem PyProof.Rows
def Two(h:Heap)(p:Addr)(x y:Int):Prop:=∃(o:Obj) (t u:Tok) (n:Nat),h.get? p=some o/\o.cls = .type "tuple" /\ o.data = .seq #[.int x t,.int y u] n
section
variable{prog:Program}{w:World}{A:Around}{E:Value->Shared->Prop}{s:Shared}
end
end Srt
namespace Srt
open PySem PyProof.Rows
section
variable{prog:Program}{w:World}{A:Around}{E:Value->Shared->Prop}{R:Result->Shared->Prop}{s:Shared}{I S ax:Addr}{items:Array Value}{h₀:Heap}{κ:Value->Int}
def Prs(h:Heap)(κ:Value->Int)(lo:Int)(v:Value):Prop:=∃p x y,v = .ref p/\Two h p x y/\κ v=x*64+y/\lo<=y/\y<lo+64
end
end Srt
end L2
namespace L2
open PySem PyProof.Rows
section
variable{X:Cx}{pins:List (Addr × Obj)}{σ:St}{H:Hp}{s:Shared}
end
section
variable{X:Cx}{pins:List (Addr × Obj)}{σ:St}{H:Hp}{s:Shared}
def fI:Value->List Nat
 | .str x _=>x.cps.toList
 |_=>[]
def IsS(v:Value):Prop:=∃x t,v = .str x t
abbrev InO(ls:List (List Nat)):Prop:=ls.Pairwise fun a b=>¬ b<a
theorem rG:∀ {vs:List Value},(∀v∈vs,IsS v)->Vals ((vs.map fI).map T) vs
 | [],_=>.nil
 |v::vs,h=>by
  obtain⟨x,t,rfl⟩:=h v (ZF ..);exact .cons ⟨t,rfl⟩ (rG fun u m=>h u (vt _ m))
theorem tU:∀ {vs:List Value},(∀v∈vs,IsS v)->∃ss,StrsAre vs ss
 | [],_=>⟨[],.nil⟩
 |v::vs,h=>by
  obtain⟨x,t,rfl⟩:=h v (ZF ..);obtain⟨ss,r⟩:=tU fun u m=>h u (vt _ m);exact⟨x::ss,.cons x t r⟩
theorem C8(hv:∀v∈vs,IsS v)(hp:xs.Perm (pairsOf vs))(hs:SortedToK strKind xs (pairsOf vs).size) :
 (xs.map (·.2)).toList.Perm vs/\InO ((xs.map (·.2)).toList.map fI):=by
 have pl:xs.toList.Perm (vs.toArray.zip vs.toArray).toList:=YY.mp hp;have e2:(xs.map (·.2)).toList=xs.toList.map (·.1):=by
  rw[Array.toList_map];exact rE fun p m=>(Srt.pairs_mem (pl.mem_iff.mp m)).2
 have p1:(xs.map (·.2)).toList.Perm vs:=by
  rw[e2];have:=pl.map (·.1)
  rwa [Srt.pairs_fst]at this
 refine⟨p1,?_⟩;rw[e2,ug];have sz:xs.size=(pairsOf vs).size:=hp.size_eq;refine Zk.mpr fun i j hi hj hij=>?_;have hi':i<xs.size:=by simpa using hi
 have hj':j<xs.size:=by simpa using hj
 have l:=hs i j (Yk hij) (by lia);have kk:∀k (h:k<xs.size),KK strKind xs k=fI xs[k].1:=fun k h=>by
  have m:xs[k]∈xs.toList:=by simp
  obtain⟨x,t,e⟩:=hv _ (Srt.pairs_mem (pl.mem_iff.mp m)).1;unfold KK;rw[Array.getElem?_eq_getElem h];show(strKind.keyOf xs[k].1).getD strKind.dflt=_;rw[e];rfl
 rw[kk i hi',kk j hj']at l;have l':decide (fI xs[j].1<fI xs[i].1)=false:=l;simp only[ZD,Array.getElem_toList,Function.comp_apply];exact of_decide_eq_false l'
def EJ(K:W.Frag):List V->Hp->VK->Prop
 | [.ref p],H,Q=>∃ls:List (List Nat),SqL K H p (ls.map T)/\ls.length<64/\∀out:List (List Nat),out.Perm ls->InO out->∀l,H l=none->Q (.ref l) (upd H l (.lst (out.map T)))
 |_,_,_=>False
def vj:List V->Hp->VK->Prop
 | [.ref d],H,Q=>∃kvs:List (Key × V),H d=some (.dK kvs)/\∀l,H l=none->Q (.ref l) (upd H l (.lst (kvs.map fun e=>kV e.1)))
 |_,_,_=>False
theorem oR:∀ {vs:List (Key × Value)} {us:List Value},us.length=vs.length->(∀(j:Nat) (v:Value),us[j]? = some v->∃k x,vs[j]? = some (k,x)/\(bb P w).is k v=true)->Vals (vs.map fun e=>kV e.1) us
 | [],[],_,_=>.nil
 |e::vs,u::us,hl,h=>by
  obtain⟨k,x,e1,r⟩:=h 0 u rfl;simp at e1;subst e1;refine .cons ?_ (oR (by simpa using hl) fun j v q=>by simpa using h (j+1) v (by simpa using q));cases k with
  |inl i=>obtain⟨t,z⟩:=Value.isInt_shape r;exact⟨t,z⟩
  |inr x=>obtain⟨t,z⟩:=Xc r;exact⟨t,z⟩
 | [],_::_,hl,_=>by simp at hl
 |_::_,[],hl,_=>by simp at hl
theorem tJ(hc:X.calm=true):CallR X (.type "list") vj:=by
 intro pins s σ H xs us Q I r h;unfold vj at h;split at h
 ·rename_i d
  obtain⟨kvs,hd,q⟩:=h;obtain⟨u,rfl,rx⟩:=eL r;cases (show u=yy d from rx);obtain⟨z,lo,vs,kv,D⟩:=BL I.hok hd;obtain⟨ep,hat⟩:=D.dictAt;have len:vs.length=kvs.length:=(KV.length kv).symm;refine PySem.W.kdl_call (PySem.W.kdl_dict (knd:=bb X.prog X.w) (kvs:=vs) (ep:=ep) lo) (I.ok.hd hc) hat (by lia) fun h' tk acc c kp ea it=>?_;have ek:kvs.map (fun e=>kV e.1)=vs.map fun e=>kV e.1:=by
   have:=congrArg (List.map kV) (KV.keys kv)
   simpa [ug,Function.comp_def] using this
  refine⟨.ref s.heap.objs.size,_,I.laid (t':=tk) kp (z4 _) (show ObjOk X.prog X.w _ h' _ (.lst (kvs.map fun e=>kV e.1)) from⟨by rw[zK];exact z,acc.toList,c,?_,by rw[Array.toArray_toList];exact ea⟩),rfl,q _ (I.hok.fresh (z4 _))⟩;rw[ek];exact oR (P:=X.prog) (w:=X.w) (by rw[xO];exact it.1) fun j v e=>it.2 j v (by rw[<- Array.getElem?_toList];exact e)
 ·exact h.elim
def Fv(K:W.Frag):List V->Hp->VK->Prop
 | [.ref p],H,Q=>∃bs:List Bool,SqL K H p (bs.map V.bl)/\Q (.bl (bs.any id)) H
 |_,_,_=>False
theorem CD(K:W.Frag)(hc:X.calm=true)(hK:X.K=K:=by rfl):CallR X (.builtin "any") (Fv K):=by
 subst hK;intro pins s σ H xs us Q I r h;unfold Fv at h;split at h
 ·rename_i p
  obtain⟨bs,hq,q⟩:=h;obtain⟨u,rfl,rx⟩:=eL r;cases (show u=yy p from rx);obtain⟨its,rv,pl,hz⟩:=I.list hq;have hne:p≠s.heap.objs.size:=xK (by obtain⟨_,e,_⟩:=pl.isList;exact yr e);have hb:LSm.BoolsAre its bs:=mw rv;refine call_any_walk (Xy pl.isList ?_);refine⟨s.heap.objs.size,[s.heap.objs.size,p],[s.heap.objs.size],its.toArray.size,_,_,fun i=>(bs[i]?).getD false,rfl,Walks.list (A:=X.A.in1) (I.ok.hd hc) _ p hne its.toArray,
   ⟨⟨_,Heap.get?_push_size _ rfl,rfl,rfl⟩,pl.isList.push _⟩,fun i v s' Q' E' hP hQ=>?_,fun h' tk hk=>?_⟩
  ·obtain⟨b,e,rfl⟩:=hb.get i v (by simpa using hP)
   simp only[e,Option.getD_some]at hQ;exact Zp hQ
  ·have e:((Zj its.toArray.size).any fun i=>(bs[i]?).getD false)=bs.any id:=by
    rw[yg,hb.length];exact LSm.range_any bs
   rw[e];exact⟨.bl (bs.any id),H,I.kept (LSm.kept_iter hk),rfl,q⟩
 ·exact h.elim
end
def D7(K:W.Frag)(CH:Addr)(tb:XKs->TS)(th:TS):TS:=fun D σ H=>
 tb (fun σ' C _ H'=>∃Ce,C = .ref Ce/\ZZ K (.ref Ce) (.ref CH)=some true/\th D σ' H') D σ H
theorem Cn
 (hg:Gl X x) (hm:X.mg x=some (.ref CH))
 (hex:X.ex=[]) (hst:X.stack=X.env::X.outer) (hfr:X.env.frame=some X.env.locals)
 (hb:∀(pn:List (Addr × Obj)) (Ee:Value->Shared->Prop) (Ex:XKs),bK (XE X.prog X.w) { X with pn:=pn,xe:=Ee } Ex->PSs { X with pn:=pn,xe:=Ee } body (tb Ex))
 (hh:∀e:Addr,PSs (X.caught e) (b₀::suite) th) (hdb:(x==("__debug__":Str))=false:=by decide) :
 PS X (.Try body [.ExceptHandler (some (.Name x np)) none (b₀::suite) hpos] [] [] pos) (D7 X.K CH tb th):=by
 intro pins s σ H D I h;refine wpAny_Try_except ?_;have ok:=I.ok;refine qN (hb (X.pn++pins) _ _ ?hP [] s σ H D (I.toPn _) h) (fun f s1 hf=>?_) (fun _ _ z=>z)
 case hP=>
  intro pins' σ' H1 s1 ev s1' I1 hq;obtain⟨e,C,rs,H',rfl,os,bare,un,hok,hrs,⟨her,a0,fl,g0⟩,⟨Ce,rfl,hmro,hth⟩⟩:=hq;have J1:=I1.call' os un hok bare (fun b z=>nomatch z);have J:Inv X pins σ' H' s1':=J1.ofPn ok;have I0:Inv X pins σ' H1 s1:=I1.ofPn ok;have hn0:∀b∈rs,X.s₀.heap.get? b=none/\H' b=none:=fun b hb=>by
   refine⟨?_,(hrs b hb).2⟩;cases q:X.s₀.heap.get? b with
   |none=>rfl
   |some o=>
    obtain⟨o',z⟩:=I0.base.there b o q (by rw[hex];simp);rw[(hrs b hb).1]at z;cases z
  have hpin:∀p∈X.pn++pins,p.1∉rs:=fun p hp z=>by
   have:=(I0.pin p hp).1;rw[(hrs _ z).1]at this;cases this
  have hstk:s1'.heap.FunFrames X.base (X.env::X.outer):=by rw[<- hst];exact J.stack
  rw[show X.stack=X.env::X.outer from hst]at fl;have hfrm:X.A.frames=some (X.env::X.outer):=by rw[<- hst];exact ok.frames
  show wpAny (model X.prog X.w) X.A (noteFrame (.ref e) X.env) _ _ s1';refine dD (e:=e) (wE _ _) g0 (wpAny_looks_onW (base:=hid s1'.heap (X.env::X.outer) rs) hfrm hfr fl fun h₄ held up4 g4=>?_);refine dD (e:=e) (kW _ _) g4 (wpAny_landsW held fun h₅ fl5 up5 g5=>?_);have nin:∀b,b∉frs X.stack->b∉frs (X.env::X.outer):=fun b hb=>by rw[<- hst];exact hb
  have stay5:∀b o,s1'.heap.get? b=some o->b∉frs X.stack->b∉rs->h₅.get? b=some o:=fun b o z hb hr=>fl5.1 b o (iM z (nin b hb) hr);have I5:Inv X pins σ' H' { s1' with heap:=h₅,toks:=s1'.toks }:=J.noted hn0 hpin stay5 (up4.trans up5);obtain⟨ob,hob,hobc⟩:=fl5.there;refine wpAny_handleBy_cons (codeAny_handlers_test (gO (X:=X.caught e) (I5.toCaught e) hg hm (qO I5.kIn hob hobc hmro ?_) hdb)) (by intro q;cases q);refine codeAny_handlers_suite (dD (e:=e) (kW _ _) g5 (lands_againW fl5 fun h₆ fl6 up6 g6=>?_));have stay6:∀b o,s1'.heap.get? b=some o->b∉frs X.stack->b∉rs->h₆.get? b=some o:=fun b o z hb hr=>fl6.1 b o (iM z (nin b hb) hr);have I6:Inv X pins σ' H' { s1' with heap:=h₆,toks:=s1'.toks }:=J.noted hn0 hpin stay6 ((up4.trans up5).trans up6);refine qN (hh e pins _ _ _ _ (I6.toCaught e) hth) (fun f s8 hf=>?_) (fun _ _ z=>z.elim);cases f with
  |next=>
   obtain⟨σ2,H2,J2,q⟩:=hf;exact⟨_,_,J2.ofCaught ok,q⟩
  |brk=>
   obtain⟨σ2,H2,J2,q⟩:=hf;exact⟨_,_,J2.ofCaught ok,q⟩
  |cont=>
   obtain⟨σ2,H2,J2,q⟩:=hf;exact⟨_,_,J2.ofCaught ok,q⟩
  |ret u=>
   obtain⟨v,σ2,H2,J2,r,q⟩:=hf;exact⟨v,_,_,J2.ofCaught ok,r,q⟩
 cases f with
 |next=>
  obtain⟨σ',H',J,q⟩:=hf;exact XW ⟨σ',H',J.ofPn ok,q⟩
 |brk=>
  obtain⟨σ',H',J,q⟩:=hf;exact⟨σ',H',J.ofPn ok,q⟩
 |cont=>
  obtain⟨σ',H',J,q⟩:=hf;exact⟨σ',H',J.ofPn ok,q⟩
 |ret u=>
  obtain⟨v,σ',H',J,r,q⟩:=hf;exact⟨v,σ',H',J.ofPn ok,r,q⟩
section
variable{X:Cx}{tg:Expr}
theorem um{pins:List (Addr × Obj)}{σ:St}{H:Hp}{s:Shared}{R:It->Hp->Prop}{E:Value->Shared->Prop}{lo hi c:Int}{t u v:Tok}{tk:Nat}(I:Inv X pins σ H s)(h1:0<=lo)(h2:lo<1000000)(h3:-1000000<=hi)(h4:hi<1000000)(h5:1<=c)(h6:c<1000000)
 (q:R (uP lo c (rsz lo hi c)) H):wpAny (model X.prog X.w) X.A (pyIter (.ref s.heap.objs.size)) (PIE X pins σ tg R) E { s with heap:=s.heap.push { cls:=.type "range",data:=.fields #[.int lo t,.int hi u,.int c v] },toks:=tk }:=by
 have hd:0<=(hi-lo-1) / c \/ ¬ lo<hi:=by
  by_cases h:lo<hi
  ·exact .inl (Int.ediv_nonneg (by lia) (by lia))
  ·exact .inr h
 have hd2:lo<hi->(hi-lo-1) / c<1000000:=fun h=>by
  have:=Int.ediv_le_self c (show 0<=hi-lo-1 by lia);lia
 have e2:((rsz lo hi c:Nat):Int)-((0:Nat):Int)=XI lo hi c:=by
  unfold rsz XI;rw[if_pos (show c > 0 by lia)];split <;> lia
 refine wpAny_pyIter_range (IsRange.new ..) ?_ ?_
 ·have fits:∀z:Int,-(2 ^ 62)<=z->z<2 ^ 62->Builtin.Range.rangeFitsLong z=true:=fun z z1 z2=>by
   simp only[Builtin.Range.rangeFitsLong,Zi,decide_eq_true_eq];lia
  have hr:0<=((rsz lo hi c:Nat):Int)/\((rsz lo hi c:Nat):Int)<=1000000:=by
   unfold rsz;split
   ·rename_i h;have:=hd2 h;lia
   ·lia
  unfold Builtin.Range.small;rw[<- e2,fits lo (by lia) (by lia),fits hi (by lia) (by lia),fits c (by lia) (by lia),fits _ (by lia) (by lia),if_pos (show c > 0 by lia),fits (hi+(c-1)) (by lia) (by lia),Bool.or_true]
  rfl
 have I1:Inv X pins σ H { s with heap:=s.heap.push { cls:=.type "range",data:=.fields #[.int lo t,.int hi u,.int c v] },toks:=tk }:=I.kept fun b o e=>Heap.get?_push_of_some _ e;refine⟨(s.heap.push { cls:=.type "range",data:=.fields #[.int lo t,.int hi u,.int c v] }).objs.size,[(s.heap.push { cls:=.type "range",data:=.fields #[.int lo t,.int hi u,.int c v] }).objs.size],_,_,H,rfl,
  I1.kept (t':=tk) fun b o e=>Heap.get?_push_of_some _ e,rM _ lo c (rsz lo hi c),?_,fun b hb=>?_,q⟩
 ·have e1:lo+((0:Nat):Int)*c=lo:=by simp
  show IsRangeIter _ _ (lo+((0:Nat):Int)*c) (((rsz lo hi c:Nat):Int)-((0:Nat):Int)) c;rw[e1,e2];exact Heap.get?_push_size _ rfl
 ·have e:b=(s.heap.push { cls:=.type "range",data:=.fields #[.int lo t,.int hi u,.int c v] }).objs.size:=by simpa using hb
  subst e;exact I1.fpOk (z4 _) (I1.hok.fresh (z4 _))
def zJ(ta:TA):TI:=fun σ H R=>ta σ H fun vs H1=>∃i j c:Int,vs=[.int i,.int j,.int c]/\(0<=i/\i<1000000 /\ -1000000<=j/\j<1000000/\1<=c/\c<1000000)/\R (uP i c (rsz i j c)) H1
theorem uH(hg:Gl X "range")(hm:X.mg "range" = none)(ha:PA X [a,b,c] ta)(hs:starEach [a,b,c] X.env=[(false,eval a X.env),(false,eval b X.env),(false,eval c X.env)]:=by rfl)(hs2:starEach [b,c] X.env=[(false,eval b X.env),(false,eval c X.env)]:=by rfl) :
 PI X tg (.Call (.Name "range" p) [a,b,c] [] pos) (zJ ta):=by
 intro pins s σ H R I h;refine Call_ (gU I hg hm boot_range (Z0 (thn (ha pos pins s σ H _ I h) fun us s1 ⟨vs,H1,I1,r1,q1⟩=>?_) (by rw[hs,hs2]) (by rw[hs2];rfl)));obtain⟨i,j,k,e,⟨q1,q2,q3,q4,q5,q6⟩,q⟩:=q1;subst e;cases r1 with
 |cons r rr=>
  cases rr with
  |cons r' rr=>
   cases rr with
   |cons r'' rr=>
    cases rr;obtain⟨t,rfl⟩:=r;obtain⟨t',rfl⟩:=r';obtain⟨t'',rfl⟩:=r'';exact call_range_3 (by lia) (um I1 q1 q2 q3 q4 q5 q6 q) (Or.inl (PyProof.noPylong_small (by lia)))
end
open Lean Meta Simp
def CK:List Name:=Ft++[`L2.GB,`L2.wu,`L2.DB,`L2.D7]
def CS:List Name:=FI++[`L2.EJ,`L2.gSortD,`L2.vj,`L2.Fv,`L2.By,`L2.ED]
end L2
namespace L2
open PySem PyProof.Rows
section
variable{X:Cx}{pins:List (Addr × Obj)}{σ:St}{H:Hp}{s:Shared}
end
namespace Srt
def II(h:Heap)(p:Addr)(x y z:Int):Prop:=∃(o:Obj) (t u r:Tok) (n:Nat),h.get? p=some o/\o.cls = .type "tuple" /\ o.data = .seq #[.int x t,.int y u,.int z r] n
section
variable{prog:Program}{w:World}{A:Around}{E:Value->Shared->Prop}{s:Shared}
end
end Srt
section
variable{X:Cx}{pins:List (Addr × Obj)}{σ:St}{H:Hp}{s:Shared}
end
end L2
namespace L2
namespace Rv
open PySem PyProof.Rows
section
variable{prog:Program}{w:World}{A:Around}{E:Value->Shared->Prop}{s:Shared}
end
end Rv
open PySem PyProof.Rows
section
variable{X:Cx}{pins:List (Addr × Obj)}{σ:St}{H:Hp}{s:Shared}
end
def FE(J:It)(g:TG)(tb:TS)(D:eO)(σ:St)(H:Hp):Prop:=∃W:Nat->Nat->St->Hp->Prop,(∃m,W 0 m σ H)/\∀i m σ H,W i m σ H ->
 (J.stop i H/\D.nx σ H)\/(J.go i H/\∃N:St->Hp->Prop,(∀σ' H',N σ' H'->∃m',m'<m/\W (i+1) m' σ' H')/\∀x H',J.yld i H x H'->g x σ H' fun σ2 H2=>tb { D with nx:=N,ct:=N,bk:=D.nx } σ2 H2)
theorem kh{J:It}{H1:Hp}{D:Addr}{Q:VK}{σr:St}{tt:TT}{te:TE}(h:∃W:Nat->Nat->List V->Hp->Prop,(∃m,W 0 m [] (upd H1 D (.lst []))) /\
 ∀i m ys H2,W i m ys H2->H2 D=some (.lst ys)/\((J.stop i H2/\Q (.ref D) H2)\/(J.go i H2/\∀x H3,J.yld i H2 x H3 ->
  tt (some x::σr) H3 fun b H4=>if b=true then te (some x::σr) H4 fun y H5=>H5 D=some (.lst ys)/\ys.length<sizeLine/\∃m',m'<m/\W (i+1) m' (ys++[y]) (upd H5 D (.lst (ys++[y])))
   else ∃m',m'<m/\W (i+1) m' ys H4))) :
 ∃W:Nat->Nat->List V->Hp->Prop,(∃m,W 0 m [] (upd H1 D (.lst []))) /\
  ∀i m ys H2,W i m ys H2->H2 D=some (.lst ys)/\((J.stop i H2/\Q (.ref D) H2)\/(J.go i H2/\∀x H3,J.yld i H2 x H3->∀zs:St,zs.length=1 ->
   hZ 0 x (zs++σr) H3 fun σ4 H4=>(∃zs4:St,zs4.length=1/\σ4=zs4++σr) /\
    tt σ4 H4 fun b H5=>if b=true then te σ4 H5 fun y H6=>H6 D=some (.lst ys)/\ys.length<sizeLine/\∃m',m'<m/\W (i+1) m' (ys++[y]) (upd H6 D (.lst (ys++[y])))
     else ∃m',m'<m/\W (i+1) m' ys H5)):=by
 obtain⟨W,h0,h⟩:=h;refine⟨W,h0,fun i m ys H2 w=>?_⟩;obtain⟨h1,h2⟩:=h i m ys H2 w;refine⟨h1,h2.imp id fun⟨g1,g2⟩=>⟨g1,fun x H3 y zs hz=>?_⟩⟩;obtain⟨z,rfl⟩:=ex1 hz;exact⟨⟨[some x],rfl,rfl⟩,g2 x H3 y⟩
theorem cmS{ks:List Nat}(C:Hp->Prop)(hC:∀D ys,H D=none->C (upd H D (.lst ys)))(l:List Nat)(p:Nat->Bool)(f:Nat->V)(hl:∀R:VK,R (T l) H->tl σ H R)(ha:∀c∈l,c<128)(hz:l.length<=sizeLine)
 (hp:∀c∈l,∀H (R:Bool->Hp->Prop),C H->R (p c) H->tt (some (T [c])::ks.map fun k=>(σ[k]?).join) H R) (hf:∀c∈l,p c=true->∀H (R:VK),C H->R (f c) H->te (some (T [c])::ks.map fun k=>(σ[k]?).join) H R)
 (q:∀D,H D=none->Q (.ref D) (upd H D (.lst ((l.filter p).map f)))):dh (HQ tl) 1 (hZ 0) ks tt te σ H Q:=by
 refine hl _ ⟨by simpa [cs] using ha,fun D hD=>?_⟩;have P:∀x∈l.map fun c=>T [c],∃c∈l,x=T [c]:=fun x hx=>by
  obtain⟨c,hc,rfl⟩:=yH.mp hx;exact⟨c,hc,rfl⟩
 let hd:V->Nat:=fun v=>match v with | .str y=>(cs y).headD 0|_=>0
 have hhd:∀c,hd (T [c])=c:=fun c=>rfl;refine kh (oY (zH l) C (fun v=>p (hd v)) (fun v=>f (hd v)) (by simpa using hz) (fun x hx H R c r=>?_) (fun x hx hb H R c r=>?_) D hD (fun ys=>hC D ys hD) ?_)
 ·obtain⟨y,hy,rfl⟩:=P x hx
  exact hp y hy H R c r
 ·obtain⟨y,hy,rfl⟩:=P x hx
  exact hf y hy hb H R c r
 ·have e:((l.map fun c=>T [c]).filter fun v=>p (hd v)).map (fun v=>f (hd v))=(l.filter p).map f:=by
   rw[List.filter_map,ug]
   rfl
  rw[e];exact q D hD
theorem cmL{K:W.Frag}{tl:TE}{ks:List Nat}{σ:St}{H H1:Hp}{Q:VK}{tt:TT}{te:TE}(a:Addr)(vs:List V)(C:Hp->Prop)(hC:∀D ys,H1 D=none->C (upd H1 D (.lst ys)))(hT:∀H,C H->SqL K H a vs)(p:V->Bool)(f:V->V)
 (hl:∀R:VK,R (.ref a) H1->tl σ H R) (h1:SqL K H1 a vs) (hz:vs.length<=sizeLine)
 (hp:∀x∈vs,∀H (R:Bool->Hp->Prop),C H->R (p x) H->tt (some x::ks.map fun k=>(σ[k]?).join) H R) (hf:∀x∈vs,p x=true->∀H (R:VK),C H->R (f x) H->te (some x::ks.map fun k=>(σ[k]?).join) H R)
 (q:∀D,H1 D=none->Q (.ref D) (upd H1 D (.lst ((vs.filter p).map f)))):dh (mP K tl) 1 (hZ 0) ks tt te σ H Q:=
 hl _ ⟨a,rfl,⟨vs,h1⟩,fun D hD=>kh (vM C (Bq hT) p f hz hp hf D hD (fun ys=>hC D ys hD) (q D hD))⟩
theorem IB{ks:List Nat}(C:Hp->Prop)(hC:∀D ys,H D=none->C (upd H D (.lst ys)))(lo hi:Int)(n:Nat)(hn:(hi-lo).toNat=n)(p:V->Bool)(f:V->V)(hl:∀R:List V->Hp->Prop,R [.int lo,.int hi] H->ta σ H R)(hb:-(2 ^ 62)<=lo/\lo<2 ^ 62 /\ -(2 ^ 62)<=hi/\hi<2 ^ 62)(hz:n<=sizeLine)
 (hp:∀k:Nat,k<n->∀H (R:Bool->Hp->Prop),C H->R (p (.int (lo+k))) H->tt (some (.int (lo+k))::ks.map fun k=>(σ[k]?).join) H R) (hf:∀k:Nat,k<n->p (.int (lo+k))=true->∀H (R:VK),C H->R (f (.int (lo+k))) H->te (some (.int (lo+k))::ks.map fun k=>(σ[k]?).join) H R)
 (q:∀D,H D=none->Q (.ref D) (upd H D (.lst ((((Zj n).map fun k:Nat=>V.int (lo+k)).filter p).map f)))):dh (DJ ta) 1 (hZ 0) ks tt te σ H Q:=by
 refine hl _ ⟨lo,hi,rfl,hb,?_⟩;rw[hn];intro D hD;have P:∀x∈(Zj n).map fun k:Nat=>V.int (lo+k),∃k:Nat,k<n/\x = .int (lo+k):=fun x hx=>by
  obtain⟨c,hc,rfl⟩:=yH.mp hx;exact⟨c,by simpa using hc,rfl⟩
 refine kh (oY (xG lo n) C p f (by simpa using hz) (fun x hx H R c' r=>?_) (fun x hx hb H R c' r=>?_) D hD (fun ys=>hC D ys hD) (q D hD))
 ·obtain⟨c,hc,rfl⟩:=P x hx
  exact hp c hc H R c' r
 ·obtain⟨c,hc,rfl⟩:=P x hx
  exact hf c hc hb H R c' r
inductive A2 {α β:Type} (R:α->β->Prop):List α->List β->Prop
 |nil:A2 R [] []
 |cons {a:α} {b:β} {as:List α} {bs:List β}:R a b->A2 R as bs->A2 R (a::as) (b::bs)
namespace A2
variable{α β:Type}{R S:α->β->Prop}
theorem len(h:A2 R as bs):as.length=bs.length:=by
 induction h with
 |nil=>rfl
 |cons _ _ ih=>simp[ih]
theorem imp(h:A2 R as bs)(f:∀a b,a∈as->b∈bs->R a b->S a b):A2 S as bs:=by
 induction h with
 |nil=>exact .nil
 |cons r _ ih=>exact .cons (f _ _ (.head _) (.head _) r) (ih fun a b ha hb=>f a b (.tail _ ha) (.tail _ hb))
theorem at_(h:A2 R as bs):∀ {i:Nat} {a:α},as[i]? = some a->∃b,bs[i]? = some b/\R a b:=by
 induction h with
 |nil=>intro i a e;simp at e
 |cons r _ ih=>
  intro i a e;cases i with
  |zero=>cases e;exact⟨_,rfl,r⟩
  |succ i=>exact ih (i:=i) (by simpa using e)
theorem app{as:List α}{bs:List β}(h:A2 R as bs){cs:List α}{ds:List β}(g:A2 R cs ds):A2 R (as++cs) (bs++ds):=by
 induction h with
 |nil=>exact g
 |cons r _ ih=>exact .cons r ih
theorem snoc(h:A2 R as bs)(r:R a b):A2 R (as++[a]) (bs++[b]):=h.app (.cons r .nil)
end A2
def sp6(f:V->V->V->V->V->V->Hp->VK->XK->Prop):Sp:=fun vs H Q E=>match vs with
 | [x,y,z,u,v,a]=>f x y z u v a H Q E
 |_=>False
theorem sp6.inv{f}(h:sp6 f vs H Q E):∃x y z u v a,vs=[x,y,z,u,v,a]/\f x y z u v a H Q E:=by
 unfold sp6 at h;split at h
 ·exact⟨_,_,_,_,_,_,rfl,h⟩
 ·exact h.elim
theorem sp6.len{f}(h:sp6 f vs H Q E):vs.length=6:=by obtain⟨_,_,_,_,_,_,rfl,_⟩:=sp6.inv h;rfl
def sp7(f:V->V->V->V->V->V->V->Hp->VK->XK->Prop):Sp:=fun vs H Q E=>match vs with
 | [x,y,z,u,v,a,b]=>f x y z u v a b H Q E
 |_=>False
open Lean Meta Simp
def CP:List Name:=CK++[`L2.eU,`Option.join]
def BU:List Name:=CS++[`L2.gCnt,`L2.gSortT,`L2.sp5,`L2.sp6,`L2.sp7]
def Gh:Name->Bool
 | .str _ s=>s.startsWith "sp_"
 |_=>false
end L2
namespace L2
open PySem PyProof.Rows Builtin Builtin.Str
section
variable{X:Cx}
end
end L2
namespace L2
open PySem PyProof.Rows
section
variable{prog:Program}{w:World}{A:Around}{E:Value->Shared->Prop}{s:Shared}{it d:Addr}{i ep:Nat}{od:Obj}{es:Array Xj}
theorem wW(lo:(d==ZP)=false)(ho:s.heap.get? d=some od)(ex:od.ExactDict)(hd:od.data = .dict es ep)
 (q:Q (.ref s.heap.objs.size) { s with heap:=s.heap.push { cls:=.type "dict_keyiterator",data:=.fields #[.ref d,.int 0 0,.int es.size 0,.int ep 0] } }):wpAny (model prog w) A (pyIter (.ref d)) Q E s:=by
 have ty:s.TypeIs (.ref d) "dict":=⟨od,ho,ex.1⟩;refine wpAny_pyIter_slot ty F.slot_dict_iter (r6 F.slot_dict_iter ty F.entry_dict_iter ?_ (F.args_dict_iter_1 _));unfold Builtin.«dict.__iter__» Builtin.Dict.dictSlotNone;refine zm (zm (wpAny_notOrdered_dict ty ?_));show wpAny _ _ (pure (yy d)) _ _ s;refine za ?_;show wpAny _ _ (Builtin.Dict.showsAll d >>= _) _ _ s;unfold Builtin.Dict.showsAll;rw[if_neg (by rw[lo];exact xa)];refine zm (za (zm (wpAny_dictEntries ho hd (zm (wpAny_dictEpoch ho hd ?_)))));refine zm (pL (za ⟨_,rfl,"dict_keyiterator",_,⟨_,Heap.get?_push_size _ rfl,rfl⟩,Yl.lookup,by simpa [rawInt] using q⟩))
theorem vT(hi:s.heap.IsKeyIter it d i es.size ep)(hod:s.heap.get? d=some od)(hdd:od.data = .dict es ep)(hx:es[i]? = some e)
 (q:∀h',h'.IsKeyIter it d (i+1) es.size ep->Yx it s.heap h'->Q (some e.key) { s with heap:=h' }):wpAny (model prog w) A (pyNext (.ref it)) Q E s:=by
 obtain⟨o,ho,hc,hd⟩:=id hi;have ty:=hi.typeIs;unfold pyNext;refine zm (Yj (wpAny_callSpecial?_slot (name:=zI "__next__") ty Yl (r6 Yl ty F.entry_dict_keyiterator_next ?_ (F.args_dict_keyiterator_next_1 _))));refine zm (za (zm (zm ?_)))
 first|refine zm (Yt ty (za (zm (Yg ho hd ?_))))|refine zm (YF ty (za (zm (Yg ho hd ?_))))
 simp only[show Builtin.Dict_items.ownsTuple "dict_keyiterator" = false by decide,sY,if_false];show wpAny _ _ (if (yy d==Zm)=true then _ else _) _ _ s;rw[if_neg (show ¬ ((yy d==Zm)=true) from xa)];refine zm (za (zm (wpAny_dictEntries hod hdd ?_)));rw[if_neg (by simp)];refine zm (za (zm (wpAny_dictEpoch hod hdd ?_)));rw[if_neg (by simp)];refine za ?_;have lt:i<es.size:=(Array.getElem?_eq_some_iff.mp hx).1;have ee:es[i]=e:=(Array.getElem?_eq_some_iff.mp hx).2;simp only[show ¬ ((i:Int)<0) from by lia,if_false,ZU,Array.getElem?_eq_getElem lt];refine zm ?_
 first|refine zm (Yt ty (za (zm (wpAny_isOneOf_keyiter ty ?_))))|refine zm (YF ty (za (zm (wpAny_isOneOf_keyiter ty ?_))))
 show wpAny _ _ (setField (.ref it) 1 (rawInt ((i:Int)+1)) >>= _) _ _ s;refine zm (wpAny_setField ho hd (by simp) ?_);have hi':(s.heap.update it (Obj.mapFields (·.setIfInBounds 1 (rawInt ((i:Int)+1))))).IsKeyIter it d (i+1) es.size ep:=⟨_,Heap.get?_update_self _ ho (YX (Y1 hd _)),(Obj.cls_mapFields ..).trans hc,by rw[Y1 hd];simp[rawInt]⟩;refine zm (Ze (zm (wpAny_isOneOf_keyiter (s:={ s with heap:=s.heap.update it (Obj.mapFields (·.setIfInBounds 1 (rawInt ((i:Int)+1)))) }) hi'.typeIs ?_)));show wpAny _ _ (pure es[i].key) _ _ _;rw[ee];exact za (za ⟨_,rfl,za (q _ hi' (Yx.update ..))⟩)
theorem Al(hh:A.handled=none)(hi:s.heap.IsKeyIter it d i es.size ep)(hod:s.heap.get? d=some od)(hdd:od.data = .dict es ep)(hx:es.size<=i)
 (q:∀h',Heap.ExtBut it s.heap h'->Q none { s with heap:=h' }):wpAny (model prog w) A (pyNext (.ref it)) Q E s:=by
 obtain⟨o,ho,hc,hd⟩:=id hi;have ty:=hi.typeIs;unfold pyNext;refine zm (Yj (wpAny_callSpecial?_slot (name:=zI "__next__") ty Yl (r6 Yl ty F.entry_dict_keyiterator_next ?_ (F.args_dict_keyiterator_next_1 _))));refine zm (za (zm (zm ?_)))
 first|refine zm (Yt ty (za (zm (Yg ho hd ?_))))|refine zm (YF ty (za (zm (Yg ho hd ?_))))
 simp only[show Builtin.Dict_items.ownsTuple "dict_keyiterator" = false by decide,sY,if_false];show wpAny _ _ (if (yy d==Zm)=true then _ else _) _ _ s;rw[if_neg (show ¬ ((yy d==Zm)=true) from xa)];refine zm (za (zm (wpAny_dictEntries hod hdd ?_)));rw[if_neg (by simp)];refine zm (za (zm (wpAny_dictEpoch hod hdd ?_)));rw[if_neg (by simp)];refine za ?_;simp only[show ¬ ((i:Int)<0) from by lia,if_false,ZU,Array.getElem?_eq_none hx];refine zm ?_
 first|refine zm (Yt ty (za ?_))|refine zm (YF ty (za ?_))
 show wpAny _ _ (setField (.ref it) 0 .none >>= _) _ _ s;refine zm (wpAny_setField ho hd (by simp) ?_);show wpAny _ _ (newExc (.type "StopIteration") [] >>= _) _ _ _;refine zm ?_;simp only[newExc,newTuple];refine zm (pL ?_ (by size_fits));refine zm (m:=Xn _ _) (wpAny_of_eq (a:=Zm) (by first|rfl|(simp only[Xn];rfl)) (pL ?_ (by size_fits)));simp only[raiseNew];refine zm (wpAny_handled ?_);rw[show A.in1.handled=none from hh];refine zm (za (wpAny_throw ?_));refine zm (Xi (T:="StopIteration") (b:=true) ⟨_,Heap.get?_push_size _ rfl,rfl⟩ isSubtype_stop (za (q _ (((Yx.update ..).extBut.push _).push _))))
theorem zV(hh:A.handled=none)(I d:Addr)(ne:d≠I)(od:Obj)(es:Array Xj)(ep:Nat)(hdd:od.data = .dict es ep) :
 Walks prog w A I [I,d] [I] es.size (fun i v=>∃e,es[i]? = some e/\v=e.key) (fun i h=>h.IsKeyIter I d i es.size ep/\h.get? d=some od) where
 sub:=fun b hb=>by rw[zL.mp hb];exact .head _
 frame:=fun _ _ _ st hk=>⟨st.1.at fun o e=>hk I (.head _) o e,hk d (.tail _ (.head _)) _ st.2⟩
 item:=fun i s Q E hi st q=>by
  have hx:es[i]? = some es[i]:=by simp[hi]
  exact vT st.1 st.2 hdd hx fun h' a b=>q _ h' s.toks ⟨_,hx,rfl⟩ ⟨a,(b.2 d ne).trans st.2⟩ fun c o hc z=>(b.2 c fun y=>hc (by rw[y];exact .head _)).trans z
 done:=fun s Q E st q=>Al hh st.1 st.2 hdd (z4 _) fun h' b=>q h' s.toks fun c o hc z=>b c o (fun y=>hc (by rw[y];exact .head _)) z
 self:=fun _ _ _ _ st q=>wpAny_pyIter_keyiter st.1 q
theorem ET(lo:(d==ZP)=false)(ex:od.ExactDict)(hd:od.data = .dict es ep):PySem.W.KdlSrc prog w "dict" d d es.size (fun i v=>∃e,es[i]? = some e/\v=e.key) (fun h=>h.get? d=some od) where
 type:=fun _ h=>⟨od,h,ex.1⟩
 there:=fun _ h=>⟨yr h,yr h⟩
 keep:=fun _ _ h k=>k d (.inl rfl) _ h
 notList:=by decide
 notTuple:=by decide
 hint:=fun _ _ _ _ h q=>PySem.W.kdl_hint_dict ⟨od,h,ex.1⟩ q
 iter:=fun _ _ hh h=>⟨_,_,(fun _ _ q=>wW lo h ex hd q),zV hh _ d (xK (yr h)) od es ep hd,⟨⟨_,Heap.get?_push_size _ rfl,rfl,rfl⟩,Heap.get?_push_of_some _ h⟩⟩
end
theorem zw{α:Type}{p q:α->Bool}(h:∀e,p e=true->q e=true):∀ {l:List α} {u:α},u∈l->q u=true->p u=false->l.countP p<l.countP q
 |x::r,u,m,hq,hp=>by
  rw[List.countP_cons,List.countP_cons];have le:r.countP p<=r.countP q:=List.countP_mono_left fun e _=>h e;rcases zG.mp m with rfl|m
  ·rw[if_pos hq,if_neg (by rw[hp];decide)];lia
  ·have:=zw h m hq hp
   by_cases c:p x=true
   ·rw[if_pos c,if_pos (h x c)];lia
   ·rw[if_neg c];split <;> lia
abbrev Pt:=List Nat × List Nat
def ltP(a b:Pt):Prop:=a.1<b.1\/(a.1=b.1/\a.2<b.2)
instance (a b:Pt):Decidable (ltP a b):=by unfold ltP;infer_instance
theorem nO(a:Pt):¬ ltP a a:=fun h=>h.elim (List.lt_irrefl _) fun h=>List.lt_irrefl _ h.2
theorem AN(h:ltP a b)(g:ltP b c):ltP a c:=by
 unfold ltP at *;rcases h with h|⟨h1,h2⟩
 ·rcases g with g|⟨g1,g2⟩
  ·exact .inl (List.lt_trans h g)
  ·exact .inl (g1 ▸ h)
 ·rcases g with g|⟨g1,g2⟩
  ·exact .inl (h1 ▸ g)
  ·exact .inr ⟨h1.trans g1,List.lt_trans h2 g2⟩
theorem wg(a b:List Nat):a<b\/a=b\/b<a:=by
 by_cases h:a<b
 ·exact .inl h
 ·by_cases g:b<a
  ·exact .inr (.inr g)
  ·exact .inr (.inl (List.le_antisymm (List.not_lt.mp g) (List.not_lt.mp h)))
theorem pN(a b:Pt):ltP a b\/a=b\/ltP b a:=by
 obtain⟨a1,a2⟩:=a;obtain⟨b1,b2⟩:=b;rcases wg a1 b1 with h|rfl|h
 ·exact .inl (.inl h)
 ·rcases wg a2 b2 with h|rfl|h
  ·exact .inl (.inr ⟨rfl,h⟩)
  ·exact .inr (.inl rfl)
  ·exact .inr (.inr (.inr ⟨rfl,h⟩))
 ·exact .inr (.inr (.inl h))
def rnk(l:List Pt)(u:Pt):Nat:=l.countP fun e=>decide (ltP e u)
theorem Ak{l:List Pt}{u v:Pt}(mu:u∈l)(h:ltP u v):rnk l u<rnk l v:=
 zw (fun e he=>decide_eq_true (AN (of_decide_eq_true he) h)) mu (decide_eq_true h) (decide_eq_false (nO u))
theorem fQ(mu:u∈l)(mv:v∈l):ltP u v↔(rnk l u:Int)<rnk l v:=by
 refine⟨fun h=>by have:=Ak mu h;lia,fun h=>?_⟩;rcases pN u v with g|rfl|g
 ·exact g
 ·exact absurd h (Int.lt_irrefl _)
 ·have:=Ak mv g;lia
abbrev qV(l:List Pt):Prop:=l.Pairwise ltP
theorem oN:∀ {a b:List Pt},a.Perm b->qV a->qV b->a=b
 | [],_,p,_,_=>p.nil_eq
 |x::r,b,p,ha,hb=>by
  cases b with
  |nil=>exact absurd p.length_eq (by simp)
  |cons y t=>
   have e:x=y:=by
    rcases zG.mp (p.mem_iff.mp (.head _)) with h|h
    ·exact h
    ·rcases zG.mp (p.mem_iff.mpr (.head _)) with h'|h'
     ·exact h'.symm
     ·exact absurd (AN ((XQ.mp ha).1 y h') ((XQ.mp hb).1 x h)) (nO x)
   subst e;rw[oN (List.Perm.cons_inv p) (XQ.mp ha).2 (XQ.mp hb).2]
namespace Srt
def TwoS(h:Heap)(p:Addr)(e:Pt):Prop:=∃(o:Obj) (t u:Tok) (n:Nat),h.get? p=some o/\o.cls = .type "tuple" /\ o.data = .seq #[.str ⟨⟨e.1⟩⟩ t,.str ⟨⟨e.2⟩⟩ u] n
section
variable{prog:Program}{w:World}{A:Around}{E:Value->Shared->Prop}{s:Shared}
theorem tH:∀(vs:List Value),(∀v∈vs,∃p e,v = .ref p/\TwoS s.heap p e)->∀ {Q:List (Option Value)->Shared->Prop},(∀fs ns,StrsAre fs ns->fs.length=vs.length->Q (fs.map some) s) ->
 wpAny (model prog w) A (vs.mapM firstOfTuple') Q E s
 | [],_,Q,h=>by rw[List.mapM_nil];exact za (h [] [] .nil rfl)
 |v::vs,hv,Q,h=>by
  obtain⟨p,e,rfl,o,t,u,n,ho,hc,hd⟩:=hv v (ZF ..);rw[List.mapM_cons];refine zm ?_;show wpAny _ _ (typeOf (.ref p) >>= _) _ _ s;refine zm (wpAny_typeOf (⟨o,ho,hc⟩:s.TypeIs (.ref p) "tuple") ?_);rw[if_neg (by decide)];refine zm (listItems_at ho hd (za ?_));show wpAny _ _ (vs.mapM firstOfTuple' >>= fun bs=>pure (some (Z9 ⟨⟨e.1⟩⟩ t)::bs)) Q E s;exact zm (tH vs (fun v hv'=>hv v (vt _ hv')) fun fs ns hI hl=>za (h (.str ⟨⟨e.1⟩⟩ t::fs) (⟨⟨e.1⟩⟩::ns) (.cons _ t hI) (by simp[hl])))
theorem ER{vs:List Value}(hv:∀v∈vs,∃p e,v = .ref p/\TwoS s.heap p e)(h2:2<=vs.length)(h:Q (tuples' true) s):wpAny (model prog w) A (keyKind' vs.toArray) Q E s:=by
 rw[keyKind'_eq,List.mapM_toArray,map_eq_pure_bind];refine zm (zm (tH vs hv fun fs ns hI hl=>za ?_));rw[if_pos (by simp)];refine zm (Yo ?_);have e:(fs.map some).toArray.filterMap id=fs.toArray:=by simp
 rw[e,oneTypeOnly'_eq,List.mapM_toArray,mapM_typeOf_strs hI];simp only[map_pure,pure_bind];have all:((fs.map fun _=>Yz "str").toArray.all fun x=>x==Yz "str")=true:=by
  simp only[List.all_toArray,List.all_map,ZY];exact fun _ _=>rfl
 have at0:(fs.map fun _=>Yz "str").toArray[0]? = some (Yz "str"):=by
  have:0<fs.length:=by lia
  simp[this]
 rw[at0];simp only[all,if_true,pure_bind];exact za h
theorem qw(h:x≠y):decide ((⟨⟨x⟩⟩:Str)=⟨⟨y⟩⟩)=false:=decide_eq_false fun z=>h (by injection z with z;injection z)
theorem IE(hp:TwoS s.heap p a)(hq:TwoS s.heap q b)(h:Q (decide (ltP a b)) s) :
 wpAny (model prog w) A (keyLt' (tuples' true) (.ref p) (.ref q)) Q E s:=by
 obtain⟨x,y⟩:=a;obtain⟨x',y'⟩:=b;obtain⟨o,t,u,n,ho,hc,hd⟩:=hp;obtain⟨o',t',u',n',ho',hc',hd'⟩:=hq;show wpAny _ _ (Builtin.List.listItems (.ref p) >>= fun xs=>Builtin.List.listItems (.ref q) >>= fun ys=>_) _ _ s;refine zm (listItems_at ho hd (zm (listItems_at ho' hd' ?_)));show wpAny _ _ (forIn [((Z9 ⟨⟨x⟩⟩ t,Z9 ⟨⟨x'⟩⟩ t'),0),((Z9 ⟨⟨y⟩⟩ u,Z9 ⟨⟨y'⟩⟩ u'),1)] (none,()) _ >>= _) _ _ s;rw[Y5];refine zm (zm (zm (Xh ?_)));by_cases e:x=x'
 ·subst e
  simp only[decide_true,Xz,sY,if_false];refine za ?_;simp only[Y5];refine zm (zm (Xh ?_));by_cases e2:y=y'
  ·subst e2
   simp only[decide_true,Xz,sY,if_false];refine za ?_;simp only[List.forIn_nil];refine za (za ?_);rw[decide_eq_false (nO _)]at h;exact h
  ·simp only[qw e2,Bool.not_false,if_true]
   refine zm ?_;show wpAny _ _ (oneLt' false (.str ⟨⟨y⟩⟩ u) (.str ⟨⟨y'⟩⟩ u')) _ _ s;rw[oneLt'_eq];simp only[sY,if_false];refine zm (PySem.P.lt_str (Zp (za (za (za ?_)))));rw[show decide (ltP (x,y) (x,y'))=decide (y<y') from decide_eq_decide.mpr ⟨fun z=>z.elim (fun z=>absurd z (List.lt_irrefl _)) (·.2),fun z=>.inr ⟨rfl,z⟩⟩]at h;exact h
 ·simp only[qw e,Bool.not_false,if_true]
  refine zm ?_;show wpAny _ _ (oneLt' true (.str ⟨⟨x⟩⟩ t) (.str ⟨⟨x'⟩⟩ t')) _ _ s;refine oneLt_str (za (za (za ?_)));rw[show decide (ltP (x,y) (x',y'))=decide (x<x') from decide_eq_decide.mpr ⟨fun z=>z.elim id fun z=>absurd z.1 e,.inl⟩]at h;exact h
theorem cmp_S{h:Heap}{os:OsState}{vs:List Value}{κ:Value->Int}{f:Value->Pt}(h2:2<=vs.length)(hv:∀v∈vs,∃p,v = .ref p/\TwoS h p (f v))(hk:∀u∈vs,∀v∈vs,(ltP (f u) (f v)↔κ u<κ v)):Cmp prog w A h os (tuples' true) κ vs where
 kind E s Q e q:=by
  subst e;exact ER (fun v m=>let ⟨p,a,b⟩:=hv v m;⟨p,_,a,b⟩) h2 q
 lt E s u v Q e mu mv q:=by
  subst e;obtain⟨p,rfl,b⟩:=hv u mu;obtain⟨p',rfl,b'⟩:=hv v mv;refine IE b b' ?_
  rwa [decide_eq_decide.mpr (hk _ mu _ mv)]
end
end Srt
section
variable{X:Cx}{pins:List (Addr × Obj)}{σ:St}{H:Hp}{s:Shared}
abbrev tP(e:Pt):List V:=[T e.1,T e.2]
abbrev kP(e:Pt):List Key:=[.inr ⟨⟨e.1⟩⟩,.inr ⟨⟨e.2⟩⟩]
theorem HS(e:Pt):(kP e).map kV=tP e:=rfl
theorem kJ(h:kP a=kP b):a=b:=by
 obtain⟨a1,a2⟩:=a;obtain⟨b1,b2⟩:=b;simp only[kP,List.cons.injEq,and_true]at h;obtain⟨h1,h2⟩:=h;injection h1 with h1;injection h1 with h1;injection h1 with h1
 injection h2 with h2;injection h2 with h2;injection h2 with h2
 rw[h1,h2]
theorem yU(h:tP a=tP b):a=b:=kJ (wf (by rw[HS,HS,h]))
abbrev KAt(H:Hp)(a:Addr)(e:Pt):Prop:=H a=some (.tup (tP e))
theorem HK(r:KT H kvs xs):∀ {ks:List Pt},kvs.map (·.1)=ks.map kP ->
 ∃ps:List (Addr × Pt),ps.map (·.2)=ks/\xs.map (fun x=>yy x.2.1)=ps.map (fun e=>yy e.1)/\(xs.map (·.1)=ks.map kP)/\∀e∈ps,KAt H e.1 e.2:=by
 induction r with
 |nil=>
  intro ks h;cases ks with
  |nil=>exact⟨[],rfl,rfl,rfl,fun _ m=>nomatch m⟩
  |cons=>simp at h
 | @cons p q ps qs h t ih=>
  intro ks e;cases ks with
  |nil=>simp at e
  |cons k ks=>
   rw[xx,xx]at e;injection e with e1 e2
   obtain⟨l,a1,a2,a3,a4⟩:=ih e2;obtain⟨h1,h2,_⟩:=h;rw[e1]at h1 h2;refine⟨(q.2.1,k)::l,by rw[xx,a1],by rw[xx,xx,a2],by rw[xx,xx,a3,h1],fun z m=>?_⟩;rcases zG.mp m with rfl|m
   ·exact h2
   ·exact a4 z m
def fOf(ps:List (Addr × Pt)):Value->Pt
 | .ref a=>((ps.find? fun e=>e.1==a).map (·.2)).getD ([],[])
 |_=>([],[])
theorem AZ(hp:∀e∈ps,KAt H e.1 e.2)(m:e∈ps):fOf ps (.ref e.1)=e.2:=by
 show((ps.find? fun z=>z.1==e.1).map (·.2)).getD ([],[])=e.2;cases f:ps.find? fun z=>z.1==e.1 with
 |none=>exact absurd (List.find?_eq_none.mp f e m) (by simp)
 |some z=>
  have e1:z.1=e.1:=by simpa using List.find?_some f
  have t1:=hp z (List.mem_of_find?_eq_some f);have t2:=hp e m;rw[e1]at t1;have t3:=t1.symm.trans t2;injection t3 with t3;injection t3 with t3
  exact yU t3
theorem D_(hp:∀e∈ps,KAt H e.1 e.2):∀ {out:List Value},(∀v∈out,v∈ps.map fun e=>yy e.1)->∃as:List Addr,Vals (as.map V.ref) out/\A2 (KAt H) as (out.map (fOf ps))
 | [],_=>⟨[],.nil,.nil⟩
 |v::out,h=>by
  obtain⟨as,a1,a2⟩:=D_ hp fun u m=>h u (vt _ m);obtain⟨e,m,rfl⟩:=yH.mp (h v (ZF ..));refine⟨e.1::as,.cons rfl a1,?_⟩;rw[xx,AZ hp m];exact .cons (hp e m) a2
theorem Inv.twoS(I:Inv X pins σ H s)(h:KAt H p e):Srt.TwoS s.heap p e:=by
 obtain⟨_,its,r0,o,ho,hc,n,hd⟩:=(show ObjOk X.prog X.w H s.heap p (.tup (tP e)) from I.hok p _ h);have r:Vals [T e.1,T e.2] its:=r0;clear r0;cases r with
 |cons r1 r=>
  cases r with
  |cons r2 r=>
   cases r;obtain⟨t,rfl⟩:=r1;obtain⟨u,rfl⟩:=r2;exact⟨o,t,u,n,ho,hc,hd⟩
theorem Srt.TwoS.keep(x:Srt.TwoS h p e)(k:∀b o,h.get? b=some o->h'.get? b=some o):Srt.TwoS h' p e:=by
 obtain⟨o,t,u,n,ho,r⟩:=x;exact⟨o,t,u,n,k _ _ ho,r⟩
def pQ:List V->Hp->VK->Prop
 | [.ref d],H,Q=>∃(kvs:List (List Key × V)) (ks:List Pt),H d=some (.dT kvs)/\kvs.map (·.1)=ks.map kP/\ks.length<64 /\
  ∀(out:List Pt) (as:List Addr),out.Perm ks->qV out->A2 (KAt H) as out->∀l,H l=none->Q (.ref l) (upd H l (.lst (as.map V.ref)))
 |_,_,_=>False
theorem xt(hc:X.calm=true):CallR X (.builtin "sorted") pQ:=by
 intro pins s σ H xs us Q I r h;unfold pQ at h;split at h
 ·rename_i d
  obtain⟨kvs,ks,hd,hks,h64,q⟩:=h;obtain⟨u,rfl,rx⟩:=eL r;cases (show u=yy d from rx);obtain⟨z,lo,xs,rel,o,es,ep,ho,ex,hdat,he,_,hn⟩:=DI I.hok hd;obtain⟨ps,p1,p2,p3,p4⟩:=HK rel hks;have ndk:ks.Nodup:=by
   rw[p3]at hn;exact(Yp.mp hn).imp fun h e=>h (by rw[e])
  have len:es.size=ks.length:=by
   rw[<- xO,he,zK,<- zK (f:=fun x=>yy x.2.1),p2,zK,<- zK (f:=(·.2)),p1]
  refine Xe kind_sorted plain_sorted entry_sorted (args_sorted1 _) ?_;unfold Builtin.«sorted»;refine zm (m:=checkCount "sorted" 1 1 _) (za ?_);refine zm (PySem.W.kdu_collect (ET lo ex hdat) (I.ok.hd hc) ho (by rw[len,uS];lia) fun h' tk acc kp it=>?_);have ea:acc.toList=ps.map fun e=>yy e.1:=by
   rw[<- p2];have ek:xs.map (fun x=>yy x.2.1)=es.toList.map (·.key):=by rw[he,ug];rfl
   rw[ek];refine List.ext_getElem? fun j=>?_;rw[List.getElem?_map,Array.getElem?_toList,Array.getElem?_toList];cases ej:acc[j]? with
   |none=>
    have:acc.size<=j:=Array.getElem?_eq_none_iff.mp ej;rw[it.1]at this;rw[Array.getElem?_eq_none this];rfl
   |some v=>
    obtain⟨e,g1,g2⟩:=it.2 j v ej;rw[g1,g2];rfl
  have inv:∀e∈ps,fOf ps (.ref e.1)=e.2:=fun e m=>AZ p4 m;have em:(ps.map fun e=>yy e.1).map (fOf ps)=ks:=by
   rw[ug,<- p1];exact rE fun e m=>inv e m
  have mk:∀v∈ps.map (fun e=>yy e.1),fOf ps v∈ks:=fun v m=>by rw[<- em];exact xF m
  have nd:((ps.map fun e=>yy e.1).map fun v=>(rnk ks (fOf ps v):Int)).Nodup:=by
   rw[show(ps.map fun e=>yy e.1).map (fun v=>(rnk ks (fOf ps v):Int))=((ps.map fun e=>yy e.1).map (fOf ps)).map (fun e=>(rnk ks e:Int)) by simp only[ug];rfl,em];refine Yp.mpr (YE (fun {a b} ma mb ne e=>?_) ndk);rcases pN a b with g|g|g
   ·have:=(fQ ma mb).mp g;lia
   ·exact ne g
   ·have:=(fQ mb ma).mp g;lia
  have lv:(ps.map fun e=>yy e.1).length<64:=by rw[zK,<- zK (f:=(·.2)),p1];exact h64
  rw[ea];refine zm (wpAny_newList ?_ (by rw[uS];lia));have hoL:(h'.push (seqObj "list" (ps.map fun e=>yy e.1).toArray 0)).get? h'.objs.size=some (seqObj "list" (ps.map fun e=>yy e.1).toArray 0):=Heap.get?_push_size _ rfl;have kL:∀b ob,s.heap.get? b=some ob->(((h'.push (seqObj "list" (ps.map fun e=>yy e.1).toArray 0)).update h'.objs.size (Zb fun _=>#[])).push (seqObj "tuple" (ps.map fun e=>yy e.1).toArray 0) |>.push (seqObj "list" #[] 0)).get? b=some ob:=fun b ob e=>by
   have l1:=yr (kp _ _ e);refine Heap.get?_push_of_some _ (Heap.get?_push_of_some _ ?_);rw[Heap.get?_update_ne _ _ _ _ (xK l1)];exact Heap.get?_push_of_some _ (kp _ _ e)
  refine zm (Ze (r6 slot_list_sort ⟨_,hoL,rfl⟩ entry_list_sort (Srt.sort_by (kd:=tuples' true) (κ:=fun v=>(rnk ks (fOf ps v):Int)) hoL lv nd (fun h2=>Srt.cmp_S (f:=fOf ps) h2 (fun v m=>?_) fun u mu v mv=>fQ (mk u mu) (mk v mv)) fun out pm sr=>⟨_,rfl,?_⟩) (args_list_sort _)))
  ·obtain⟨e,me,rfl⟩:=yH.mp m
   refine⟨e.1,rfl,?_⟩;rw[inv e me];exact(I.twoS (p4 e me)).keep kL
  ·refine za ⟨_,rfl,?_⟩
   obtain⟨c,el⟩:=sortedHeap_at (out:=out.toArray) hoL;have I1:Inv X pins σ H { s with heap:=h',toks:=tk }:=I.kept kp;have kp2:∀b o,h'.get? b=some o->(sortedHeap (h'.push (seqObj "list" (ps.map fun e=>yy e.1).toArray 0)) h'.objs.size (ps.map fun e=>yy e.1) out.toArray).get? b=some o:=fun b o e=>by
    have l1:=yr e;rw[sortedHeap_old (xK l1) (by rw[size_push'];exact Yq l1),Heap.get?_push_ne _ _ _ (xK l1)];exact e
   obtain⟨as,a1,a2⟩:=D_ p4 (out:=out) fun v m=>pm.mem_iff.mp m;have po:(out.map (fOf ps)).Perm ks:=by have:=pm.map (fOf ps);rwa [em]at this
   have so:qV (out.map (fOf ps)):=Yp.mpr (YE (fun {a b} ma mb l=>(fQ (mk a (pm.mem_iff.mp ma)) (mk b (pm.mem_iff.mp mb))).mpr l) sr);refine⟨.ref h'.objs.size,_,I1.laid (t':=tk) (a:=h'.objs.size) kp2 (z4 _) (show ObjOk X.prog X.w _ _ _ (.lst (as.map V.ref)) from⟨?_,out,c,a1,el⟩),rfl,q _ as po so a2 _ (I1.hok.fresh (z4 _))⟩;have:=a1.length;have:=pm.length_eq;rw[uS];lia
 ·exact h.elim
end
def CEl(J:It)(n:Nat)(g:TG)(ks:List Nat)(tt:TT)(te:TE)(σ:St)(H1:Hp)(Q:VK):Prop:=∀D,H1 D=none->∃W:Nat->Nat->List V->Hp->Prop,(∃m,W 0 m [] (upd H1 D (.lst []))) /\
 ∀i m ys H2,W i m ys H2->H2 D=some (.lst ys)/\((J.stop i H2/\Q (.ref D) H2)\/(J.go i H2/\∀x H3,J.yld i H2 x H3->∀zs:St,zs.length=n ->
  g x (zs++ks.map fun k=>(σ[k]?).join) H3 fun σ4 H4=>(∃zs4:St,zs4.length=n/\σ4=zs4++ks.map fun k=>(σ[k]?).join) /\
   tt σ4 H4 fun b H5=>if b=true then te σ4 H5 fun y H6=>H6 D=some (.lst ys)/\ys.length<sizeLine/\∃m',m'<m/\W (i+1) m' (ys++[y]) (upd H6 D (.lst (ys++[y])))
    else ∃m',m'<m/\W (i+1) m' ys H5))
theorem lD{K:W.Frag}{tl:TE}{n:Nat}{g:TG}{ks:List Nat}{tt:TT}{te:TE}{σ:St}{H:Hp}{Q:VK}(h:tl σ H fun x H1=>∃a,x = .ref a/\(∃xs,SqL K H1 a xs)/\CEl (Itl K a) n g ks tt te σ H1 Q):dh (mP K tl) n g ks tt te σ H Q:=h
theorem Ed{K:W.Frag}{n:Nat}{g:TG}{ks:List Nat}{tt:TT}{te:TE}{σ:St}{H1:Hp}{Q:VK}(a:Addr)(xs:List V)(P:Addr->Nat->List V->Hp->Prop)(hz:xs.length<sizeLine)
 (h0:∀D,H1 D=none->P D 0 [] (upd H1 D (.lst []))) (hD:∀D i ys H',P D i ys H'->H' D=some (.lst ys)/\SqL K H' a xs/\ys.length<=i)
 (hs:∀D i y ys H' (zs:St) (N1:VK) (N0:Hp->Prop),xs[i]? = some y->P D i ys H'->zs.length=n->(∀v H6,H6 D=some (.lst ys)->P D (i+1) (ys++[v]) (upd H6 D (.lst (ys++[v])))->N1 v H6)->(∀H6,P D (i+1) ys H6->N0 H6) ->
  g y (zs++ks.map fun k=>(σ[k]?).join) H' fun σ4 H4=>(∃zs4:St,zs4.length=n/\σ4=zs4++ks.map fun k=>(σ[k]?).join)/\tt σ4 H4 fun b H5=>if b=true then te σ4 H5 N1 else N0 H5)
 (hd:∀D ys H',P D xs.length ys H'->Q (.ref D) H'):CEl (Itl K a) n g ks tt te σ H1 Q:=by
 intro D hDn;refine⟨fun i m ys H'=>m=xs.length-i/\i<=xs.length/\P D i ys H',⟨_,rfl,ud _,h0 D hDn⟩,?_⟩;rintro i m ys H' ⟨rfl,hi,p⟩;obtain⟨d1,d2,d3⟩:=hD D i ys H' p;refine⟨d1,?_⟩;rcases Nat.lt_or_ge i xs.length with lt|ge
 ·refine .inr ⟨⟨xs,xs[i],d2,by simp[lt]⟩,?_⟩
  rintro x H3 ⟨rfl,hx⟩ zs hzs;exact hs D i x ys _ zs _ _ (hx xs d2) p hzs (fun v H6 h6 p6=>⟨h6,by lia,_,by lia,rfl,lt,p6⟩) fun H6 p6=>⟨_,by lia,rfl,lt,p6⟩
 ·obtain rfl:i=xs.length:=XU hi ge
  exact .inl ⟨⟨xs,d2,z4 _⟩,hd D ys H' p⟩
section
variable{X:Cx}{pos:Pos}
end
open Lean Meta Simp
def B5:List Name:=CP++[`L2.yW,`L2.rExtT,`L2.tPar3]
def CC:List Name:=BU++[`L2.pQ,`L2.gRp]
def Dd(e:Lean.Expr):MetaM (Option Lean.Expr):=do
 let .const n us:=e.getAppFn|return none
 let fr:=Gh n || B5.contains n
 unless fr || CC.contains n do return none
 let some (.defnInfo d):=(<- getEnv).find? n|return none
 let v:=d.value.instantiateLevelParams d.levelParams us
 if e.getAppNumArgs<v.getNumHeadLambdas then return none
 let b:=v.beta e.getAppArgs
 if fr then return some b
 match <- reduceMatcher? b with
 | .reduced r=>return some r
 | .notMatcher=>return some b
 |_=>return none
dsimproc_decl BG (_):=fun e=>do
 match <- Dd e with
 |some r=>return .visit r
 |none=>return .continue
end L2
namespace K19
open PySem L2
structure Row where
 pa:List Nat
 cu:List Nat
 am:Int
def sg(a s:Int)(k:Nat):Nat:=97+((a+s*k) % 26).toNat
def wd(a s:Int)(n:Nat):List Nat:=(Zj n).map fun k=>sg a s k
def yK(d:List (Pt × Int))(k:Pt)(v:Int):List (Pt × Int):=if (d.any fun e=>decide (e.1=k))=true then d.map (fun e=>if e.1=k then (e.1,v) else e) else d++[(k,v)]
def lV(d:List (Pt × Int))(k:Pt):Option Int:=(d.find? fun e=>decide (e.1=k)).map (·.2)
def eW(e:Pt × Int):List Key × V:=(kP e.1,.int e.2)
theorem Do(e:Pt × Int)(k:Pt):decide ((eW e).1=kP k)=decide (e.1=k):=decide_eq_decide.mpr ⟨fun h=>kJ h,fun h=>by show kP e.1=kP k;rw[h]⟩
theorem nj(d:List (Pt × Int))(k:Pt)(v:Int):cW (d.map eW) (kP k) (.int v)=(yK d k v).map eW:=by
 unfold cW yK;have e1:((d.map eW).any fun kv=>decide (kv.1=kP k))=d.any fun e=>decide (e.1=k):=by
  rw[List.any_map];exact congrArg (d.any ·) (funext fun e=>Do e k)
 rw[e1];split
 ·rw[ug,ug]
  apply rE;intro e _;show(if (eW e).1=kP k then ((eW e).1,V.int v) else eW e)=eW (if e.1=k then (e.1,v) else e);by_cases h:e.1=k
  ·rw[if_pos h,if_pos (by show kP e.1=kP k;rw[h])];rfl
  ·rw[if_neg h];exact if_neg fun z=>h (kJ z)
 ·rw[vd];rfl
theorem fM(k:Pt):∀d:List (Pt × Int),cU (d.map eW) (kP k)=(lV d k).map V.int
 | []=>rfl
 |e::r=>by
  have ih:=fM k r;by_cases h:e.1=k
  ·rw[xx,bO (by show kP e.1=kP k;rw[h])]
   simp[lV,h,eW]
  ·rw[xx,bG (fun z=>h (kJ z)),ih]
   simp[lV,h]
def stp(d:List (Pt × Int))(r:Row):List (Pt × Int):=yK d (r.pa,r.cu) ((lV d (r.pa,r.cu)).getD 0+r.am)
def dk(rs:List Row):List (Pt × Int):=rs.foldl stp []
theorem lZ(rs:List Row)(r:Row):dk (rs++[r])=stp (dk rs) r:=by unfold dk;rw[List.foldl_append];rfl
theorem yl(d:List (Pt × Int))(k:Pt)(v:Int):(yK d k v).map (·.1)=if k∈d.map (·.1) then d.map (·.1) else d.map (·.1)++[k]:=by
 unfold yK;have e:((d.any fun e=>decide (e.1=k))=true)↔k∈d.map (·.1):=by
  rw[List.any_eq_true];constructor
  ·rintro⟨x,hx,h⟩;exact yH.mpr ⟨x,hx,of_decide_eq_true h⟩
  ·intro h
   obtain⟨x,hx,h⟩:=yH.mp h;exact⟨x,hx,decide_eq_true h⟩
 by_cases h:k∈d.map (·.1)
 ·rw[if_pos (e.mpr h),if_pos h,ug]
  apply rE;intro x _;show(if x.1=k then (x.1,v) else x).1=x.1;split <;> rfl
 ·rw[if_neg fun z=>h (e.mp z),if_neg h,vd];rfl
theorem vR:(dk (rs++[r])).map (·.1)=if (r.pa,r.cu)∈(dk rs).map (·.1) then (dk rs).map (·.1) else (dk rs).map (·.1)++[(r.pa,r.cu)]:=by
 rw[lZ];exact yl _ _ _
theorem nA{α:Type}{P:List α->Prop}(h0:P [])(h1:∀l x,P l->P (l++[x]))(l:List α):P l:=by
 have:∀r:List α,P r.reverse:=by
  intro r
  induction r with
  |nil=>exact h0
  |cons x r ih=>rw[List.reverse_cons];exact h1 _ _ ih
 have h:=this l.reverse
 rwa [List.reverse_reverse]at h
theorem lF(rs:List Row):((dk rs).map (·.1)).Nodup/\(∀e∈(dk rs).map (·.1),∃r∈rs,e=(r.pa,r.cu))/\(dk rs).length<=rs.length:=by
 induction rs using nA with
 |h0=>exact⟨.nil,(fun _ m=>nomatch m),z4 _⟩
 |h1 l x ih=>
  obtain⟨i1,i2,i3⟩:=ih;rw[<- zK (f:=(·.1)) (as:=dk (l++[x])),vR];rw[<- zK (f:=(·.1))]at i3;by_cases h:(x.pa,x.cu)∈(dk l).map (·.1)
  ·rw[if_pos h]
   refine⟨i1,fun e m=>?_,by rw[yw];lia⟩;obtain⟨r,hr,g⟩:=i2 e m;exact⟨r,rV _ hr,g⟩
  ·rw[if_neg h]
   refine⟨List.nodup_append.mpr ⟨i1,Zd.mpr ⟨xz,List.nodup_nil⟩,fun a ha b hb=>by rw[zL.mp hb];rintro rfl;exact h ha⟩,fun e m=>?_,by rw[yw,yw,pM,pM];lia⟩;rcases y9.mp m with m|m
   ·obtain⟨r,hr,g⟩:=i2 e m
    exact⟨r,rV _ hr,g⟩
   ·exact⟨x,by simp,zL.mp m⟩
theorem kF{α:Type}[DecidableEq α]:∀ {l m:List α},l.Nodup->(∀x∈l,x∈m)->l.length<=m.length
 | [],m,_,_=>ud _
 |x::r,m,h,s=>by
  obtain⟨h1,h2⟩:=Zd.mp h;have hx:=s x (.head _);have:=kF (l:=r) (m:=m.erase x) h2 fun y hy=>(List.mem_erase_of_ne (by rintro rfl;exact h1 hy)).mpr (s y (.tail _ hy));rw[List.length_erase_of_mem hx]at this;have:0<m.length:=List.length_pos_of_mem hx;rw[uO];lia
theorem tS(cu:List (List Nat)):∀ps:List (List Nat),(ps.flatMap fun p=>cu.map fun c=>(p,c)).length=ps.length*cu.length
 | []=>by simp
 |p::r=>by rw[YM,yw,zK,tS cu r,uO,Nat.succ_mul,Nat.add_comm]
theorem FK{ps cu:List (List Nat)}(h:∀r∈rs,r.pa∈ps/\r.cu∈cu):(dk rs).length<=ps.length*cu.length:=by
 obtain⟨h1,h2,_⟩:=lF rs;rw[<- tS,<- zK (f:=(·.1))];refine kF h1 fun e m=>?_;obtain⟨r,hr,rfl⟩:=h2 e m;exact List.mem_flatMap.mpr ⟨r.pa,(h r hr).1,yH.mpr ⟨r.cu,(h r hr).2,rfl⟩⟩
theorem Bc(h:k∈d.map (·.1)):∃n,lV d k=some n:=by
 obtain⟨e,he,rfl⟩:=yH.mp h;unfold lV;cases f:d.find? fun x=>decide (x.1=e.1) with
 |none=>exact absurd (List.find?_eq_none.mp f e he) (by simp)
 |some z=>exact⟨z.2,rfl⟩
def val(rs:List Row)(k:Pt):Int:=(lV (dk rs) k).getD 0
def res(rs:List Row)(out:List Pt):List Row:=(out.filter fun k=>decide (val rs k≠0)).map fun k=>⟨k.1,k.2,val rs k⟩
theorem C0(rs:List Row)(out:List Pt):(res rs out).length<=out.length:=by unfold res;rw[zK];exact Zf _ _
theorem E0(h:k∈(dk rs).map (·.1)):lV (dk rs) k=some (val rs k):=by
 obtain⟨n,e⟩:=Bc h;unfold val;rw[e];rfl
theorem zz(rs:List Row)(out:List Pt)(k:Pt):res rs (out++[k])=res rs out++if val rs k≠0 then [⟨k.1,k.2,val rs k⟩] else []:=by
 unfold res;rw[Zl,vd]
 congr 1
 by_cases h:val rs k≠0
 ·rw[if_pos h];simp[h]
 ·rw[if_neg h];simp at h;simp[h]
end K19
namespace K3
def S(a:Int):Int:=
 if a<=0 then 0 else if a=1 then 31 else if a=2 then 59 else if a=3 then 90 else if a=4 then 120
 else if a=5 then 151 else if a=6 then 181 else if a=7 then 212 else if a=8 then 243 else if a=9 then 273
 else if a=10 then 304 else 334
def LD(y:Int):Int:=(y+3) / 4-(y+99) / 100+(y+399) / 400
def FD(m:Int):Int:=365*(m / 12)+(if m % 12 > 1 then LD (m / 12+1) else LD (m / 12))+S (m % 12)
def LG(y m:Int):Int:=
 if m=2 then (if (y % 4=0/\y % 100≠0)\/y % 400=0 then 29 else 28)
 else if m=4\/m=6\/m=9\/m=11 then 30 else 31
theorem vN(h:m=12*y+a)(h0:0<=a)(h1:a<12) :
 FD m=365*y+(if a > 1 then LD (y+1) else LD y)+S a:=by
 have e1:m / 12=y:=by lia
 have e2:m % 12=a:=by lia
 unfold FD;rw[e1,e2]
theorem q4(y:Int):(y+4) / 4=(y+3) / 4+if y % 4=0 then 1 else 0:=by split <;> lia
theorem Iv(y:Int):(y+100) / 100=(y+99) / 100+if y % 100=0 then 1 else 0:=by split <;> lia
theorem Iy(y:Int):(y+400) / 400=(y+399) / 400+if y % 400=0 then 1 else 0:=by split <;> lia
theorem wm(y:Int):LD (y+1)=LD y+(if (y % 4=0/\y % 100≠0)\/y % 400=0 then 1 else 0):=by
 unfold LD;rw[Int.add_assoc,Int.add_assoc,Int.add_assoc];show(y+4) / 4-(y+100) / 100+(y+400) / 400=_;rw[q4,Iv,Iy];generalize (y+3) / 4=A;generalize (y+99) / 100=B;generalize (y+399) / 400=C;by_cases a:y % 400=0
 ·have b:y % 100=0:=by lia
  have c:y % 4=0:=by clear b;lia
  rw[if_pos a,if_pos b,if_pos c,if_pos (.inr a)];clear a b c;lia
 ·by_cases b:y % 100=0
  ·have c:y % 4=0:=by clear a;lia
   rw[if_neg a,if_pos b,if_pos c,if_neg (fun z=>z.elim (fun w=>w.2 b) a)];clear a b c;lia
  ·by_cases c:y % 4=0
   ·rw[if_neg a,if_neg b,if_pos c,if_pos (.inl ⟨c,b⟩)]
    clear a b c;lia
   ·rw[if_neg a,if_neg b,if_neg c,if_neg (fun z=>z.elim (fun w=>c w.1) a)]
    clear a b c;lia
theorem Ey:∀a:Nat,a<11->a≠1->S (a+1)=S a+LG 1 (1+a):=by decide
theorem AB(y z m:Int)(h:m≠2):LG y m=LG z m:=by unfold LG;rw[if_neg h,if_neg h]
theorem Ax(y:Int):LG (2000+y) 2=28+(LD (y+1)-LD y):=by
 have h:(((2000+y) % 4=0/\(2000+y) % 100≠0)\/(2000+y) % 400=0)↔((y % 4=0/\y % 100≠0)\/y % 400=0):=by
  have e (k:Int) (d:2000=k*(2000 / k)):(2000+y) % k=y % k:=by rw[Int.add_comm,d,Int.add_mul_emod_self_left]
  rw[e 4 rfl,e 100 rfl,e 400 rfl]
 rw[wm,LG,if_pos rfl];by_cases c:(y % 4=0/\y % 100≠0)\/y % 400=0
 ·rw[if_pos c,if_pos (h.mpr c)];lia
 ·rw[if_neg c,if_neg (fun q=>c (h.mp q))];lia
theorem wC(m:Int):FD (m+1)=FD m+LG (2000+m / 12) (1+m % 12):=by
 have b0:0<=m % 12:=ZR _ (by decide);have b1:m % 12<12:=ZW _ (by decide);have e:m=12*(m / 12)+m % 12:=(Int.mul_ediv_add_emod m 12).symm;have a1:=vN e b0 b1;generalize m / 12=y at *;generalize m % 12=z at *;obtain⟨a,rfl⟩:=ZT b0;by_cases c:a=11
 ·subst c
  rw[a1,vN (m:=m+1) (y:=y+1) (a:=0) (by lia) (by decide) (by decide)];show _+LD (y+1)+0=_+LD (y+1)+334+31;lia
 ·have a2:=vN (m:=m+1) (y:=y) (a:=a+1) (by lia) (by lia) (by lia)
  by_cases c1:a=1
  ·subst c1
   rw[a1,a2];show _+LD (y+1)+59=_+LD y+31+LG (2000+y) 2;rw[Ax];lia
  ·have s:=Ey a (by lia) c1
   rw[a1,a2,AB _ 1 _ (by lia),s];by_cases c2:a=0
   ·subst c2;exact(Int.add_assoc _ _ _).symm
   ·rw[if_pos (by lia),if_pos (by lia)];lia
theorem Hf(y m:Int):28<=LG y m/\LG y m<=31:=by
 unfold LG;repeat' split
 all_goals lia
theorem G7(m:Int):FD m+28<=FD (m+1)/\FD (m+1)<=FD m+31:=by
 have h:=wC m;have g:=Hf (2000+m / 12) (1+m % 12);lia
theorem sA(m:Int)(k:Nat):FD m+28*k<=FD (m+k):=by
 induction k with
 |zero=>simp
 |succ k ih=>
  have h:=G7 (m+k);have e:m+((k+1:Nat):Int)=m+k+1:=by lia
  rw[e];lia
theorem wv(h:m<=n):FD m+28*(n-m)<=FD n:=by
 have g:=sA m (n-m).toNat;have e:m+((n-m).toNat:Int)=n:=by lia
 rw[e]at g;lia
theorem Hl:FD 0=0:=by decide
theorem y3:FD 4800=146097:=by decide
open Classical in
noncomputable def MO(d:Int):Int:=if h:∃m,FD m<=d/\d<FD (m+1) then Classical.choose h else 0
theorem HB(h1:FD m<=d)(h2:d<FD (m+1)):m=MO d:=by
 have h:∃m,FD m<=d/\d<FD (m+1):=⟨m,h1,h2⟩;have g:=Classical.choose_spec h;unfold MO;rw[dif_pos h];generalize Classical.choose h=n at g;obtain⟨g1,g2⟩:=g;by_cases c:m+1<=n
 ·have:=wv c;lia
 ·by_cases c2:n+1<=m
  ·have:=wv c2;lia
  ·lia
theorem AK(h1:FD m<=d)(h2:d<FD (m+1)):MO d=m:=(HB h1 h2).symm
theorem Ho(h0:0<=d)(h1:d<=146096):0<=MO d/\MO d<=4799/\FD (MO d)<=d/\d<FD (MO d+1):=by
 have ex:∀(n:Nat),FD n<=d\/∃k:Nat,k<n/\FD k<=d/\d<FD (k+1):=by
  intro n
  induction n with
  |zero=>left;show FD 0<=d;rw[Hl];exact h0
  |succ n ih=>
   rcases ih with h|⟨k,hk,h⟩
   ·by_cases c:FD ((n:Int)+1)<=d
    ·left;exact c
    ·right;exact⟨n,by lia,h,by lia⟩
   ·right;exact⟨k,by lia,h⟩
 rcases ex 4800 with h|⟨k,hk,h2,h3⟩
 ·have e:FD ((4800:Nat):Int)=146097:=y3
  rw[e]at h;lia
 ·have e:=AK h2 h3
  rw[e];exact⟨by lia,by lia,h2,h3⟩
def R10:List Int:=[31,30,31,30,31,31,30,31,30,31]
theorem Cr:∀a:Nat,a<10->(R10.take a).sum+59=S ((a:Int)+2):=by decide
theorem Gq:∀a:Nat,a<10->R10.getD a 0=LG 1 (1+((a:Int)+2)):=by decide
theorem Ia(m:Int):365*(m / 12)+LD (m / 12)+((31::(28+(LD (m / 12+1)-LD (m / 12)))::R10).take (m % 12).toNat).sum=FD m:=by
 have b0:0<=m % 12:=ZR _ (by decide);have b1:m % 12<12:=ZW _ (by decide);have a1:=vN (Int.mul_ediv_add_emod m 12).symm b0 b1;generalize m / 12=y at *;generalize m % 12=z at *;obtain⟨a,rfl⟩:=ZT b0;rw[a1]
 match a,b1 with
 |0,_=>rfl
 |1,_=>rfl
 |a+2,b1=>
  have s:=Cr a (by lia);rw[if_pos (by lia)];show _+_+(31+(_+(R10.take a).sum))=_+S ((a:Int)+2);rw[<- s];lia
theorem Im(m:Int):(31::(28+(LD (m / 12+1)-LD (m / 12)))::R10).getD (m % 12).toNat 0=LG (2000+m / 12) (1+m % 12):=by
 have b0:0<=m % 12:=ZR _ (by decide);have b1:m % 12<12:=ZW _ (by decide);generalize m / 12=y at *;generalize m % 12=z at *;obtain⟨a,rfl⟩:=ZT b0
 match a,b1 with
 |0,_=>rfl
 |1,_=>exact(Ax y).symm
 |a+2,b1=>
  rw[AB _ 1 _ (by lia)];exact Gq a (by lia)
end K3
namespace K22
open PySem L2 K19
def sm(rs:List Row)(k:Pt):Int:=match rs with
 | []=>0
 |r::q=>(if (r.pa,r.cu)=k then r.am else 0)+sm q k
theorem k4(k:Pt)(y:List Row):∀x:List Row,sm (x++y) k=sm x k+sm y k
 | []=>by rw[List.nil_append];simp[sm]
 |r::q=>by rw[ZC,sm,sm,k4 k y q];lia
theorem y_(k:Pt)(v:Int)(k':Pt)(d:List (Pt × Int)):lV (yK d k v) k'=if k'=k then some v else lV d k':=by
 have inj:∀ {x y:Option Int},x.map V.int=y.map V.int->x=y:=fun {x y} h=>by
  cases x <;> cases y <;> first|rfl|cases h
  rfl
 refine inj ?_;rw[<- fM,<- nj,rL];by_cases c:k'=k
 ·rw[if_pos c,if_pos (by rw[c])];rfl
 ·rw[if_neg c,if_neg (fun z=>c (kJ z)),fM]
theorem qJ(rs:List Row)(k:Pt):val rs k=sm rs k:=by
 unfold val
 induction rs using nA with
 |h0=>rfl
 |h1 l x ih=>
  rw[lZ,k4];unfold stp;rw[y_];by_cases c:k=(x.pa,x.cu)
  ·rw[if_pos c,<- c,<- ih];simp[sm,c]
  ·rw[if_neg c,ih,show sm [x] k=0 by simp only[sm];rw[if_neg fun z=>c z.symm];rfl];lia
theorem wl(h:∀r∈rs,(r.pa,r.cu)≠k):sm rs k=0:=by
 induction rs with
 |nil=>rfl
 |cons r q ih=>rw[sm,if_neg (h r (.head _)),ih fun x m=>h x (.tail _ m)];rfl
theorem BO:∀r∈rs,(r.pa,r.cu)∈(dk rs).map (·.1):=by
 induction rs using nA with
 |h0=>exact fun _ m=>nomatch m
 |h1 l x ih=>
  intro r m;rw[vR];rcases y9.mp m with m|m
  ·split
   ·exact ih r m
   ·exact rV _ (ih r m)
  ·rw[zL.mp m]
   split
   ·assumption
   ·exact uU _ (zL.mpr rfl)
theorem FV{out:List Pt}(po:out.Perm ((dk rs).map (·.1)))(h:k∉out):sm rs k=0:=
 wl fun r m e=>h (po.mem_iff.mpr (e ▸ BO r m))
def trn(rs:List Row):List Row:=rs.map fun r=>⟨r.pa,r.cu,-r.am⟩
theorem ceA{K:W.Frag}{β γ:Type}{n:Nat}{g:TG}{ks:List Nat}{tt:TT}{te:TE}{σ:St}{H:Hp}{Q:VK}{S:Hp->V->γ->Prop}(hS:∀(G G':Hp) (v:V) (c:γ),(∀t l,G t=some (.tup l)->G' t=some (.tup l))->S G v c->S G' v c)
 (a:Addr) (vs:List V) (R:List β) (Rel:V->β->Prop) (p:β->Bool) (f:β->γ) (ha:H a=some (.lst vs)) (hN:NoT H) (hR:A2 Rel vs R) (hz:vs.length<sizeLine)
 (hs:∀v b,b∈R->Rel v b->∀G (zs:St) (N1:VK) (N0:Hp->Prop),Same H G->NoT G->zs.length=n->(p b=true->∀u G',Same G G'->NoT G'->S G' u (f b)->N1 u G')->(p b=false->∀G',Same G G'->NoT G'->N0 G') ->
  g v (zs++ks.map fun k=>(σ[k]?).join) G fun σ4 H4=>(∃zs4:St,zs4.length=n/\σ4=zs4++ks.map fun k=>(σ[k]?).join)/\tt σ4 H4 fun b H5=>if b=true then te σ4 H5 N1 else N0 H5)
 (q:∀D ws G,H D=none->Same H G->NoT G->G D=some (.lst ws)->A2 (S G) ws ((R.filter p).map f)->Q (.ref D) G):CEl (Itl K a) n g ks tt te σ H Q:=by
 refine Ed a vs (fun D i ys G=>H D=none/\Same H G/\NoT G/\G D=some (.lst ys)/\ys.length<=i/\A2 (S G) ys (((R.take i).filter p).map f)) hz ?_ ?_ ?_ ?_
 ·exact fun D hD=>⟨hD,au _ hD,aA hN rfl,ad,z4 _,.nil⟩
 ·rintro D i ys G ⟨hD,sm,_,gd,ly,_⟩
  exact⟨gd,SqL.of (sm _ _ ha),ly⟩
 ·rintro D i y ys G zs N1 N0 hy ⟨hD,sm,nG,gd,ly,A⟩ hzs n1 n0
  obtain⟨b,hb,rb⟩:=hR.at_ hy;have mb:=xg hb;have et:R.take (i+1)=R.take i++[b]:=by rw[Yc,hb];rfl
  rw[et,Zl,vd]at n1 n0;refine hs y b mb rb G zs N1 N0 sm nG hzs (fun pb u G' s' nG' hu=>?_) fun pb G' s' nG'=>n0 G' ⟨hD,sm.trans s',nG',s' _ _ gd,ZV ly,?_⟩
  ·have gd':=s' _ _ gd
   have kt:∀t l,G' t=some (.tup l)->upd G' D (.lst (ys++[u])) t=some (.tup l):=fun t l e=>by
    rw[ah fun z=>by rw[z,gd']at e;cases e];exact e
   refine n1 _ _ gd' ⟨hD,fun c o e=>?_,aA nG' rfl,ad,by rw[yw];exact Xg ly,?_⟩
   ·rw[ah (aC e hD)];exact s' _ _ (sm _ _ e)
   ·rw[Zo pb,ZG]
    exact(A.imp fun _ _ _ _ h=>hS _ _ _ _ kt (hS _ _ _ _ (fun t l e=>s' _ _ e) h)).snoc (hS _ _ _ _ kt hu)
  ·rw[Zn (by rw[pb];decide),ZG,YO,Zh]
   exact A.imp fun _ _ _ _ h=>hS _ _ _ _ (fun t l e=>s' _ _ e) h
 ·rintro D ys G ⟨hD,sm,nG,gd,_,A⟩
  rw[hR.len,ZQ]at A;exact q D ys G hD sm nG gd A
end K22
namespace L2
open PySem PyProof.Rows
theorem s_(h:H a=some o):upd H a o=H:=by
 funext b;by_cases e:b=a
 ·subst e;rw[ad,h]
 ·rw[ah e]
def isD:HO->Bool
 | .dK _=>true
 | .dT _=>true
 |_=>false
def fN:HO->Nat
 | .dK kvs=>kvs.length
 | .dT kvs=>kvs.length
 |_=>0
def oO(H:Hp)(u:HO)(i:Nat)(x v:V):Prop:=match u with
 | .dK kvs=>∃k,kvs[i]? = some (k,v)/\x=kV k
 | .dT kvs=>∃k q,kvs[i]? = some (k,v)/\x = .ref q/\H q=some (.tup (k.map kV))
 |_=>False
theorem Dv(h:(bb P w).is k u=true):RelV (kV k) u:=by
 cases k with
 |inl i=>obtain⟨t,z⟩:=Value.isInt_shape h;exact⟨t,z⟩
 |inr x=>obtain⟨t,z⟩:=Xc h;exact⟨t,z⟩
theorem DE{α β:Type}{R:α->β->Prop}{xs:List α}{ys:List β}(h:Paired R xs ys):∀ {i:Nat} {y:β},ys[i]? = some y->∃x,xs[i]? = some x/\R x y:=by
 induction h with
 |nil=>intro i y e;simp at e
 |cons r _ ih=>
  intro i y e;cases i with
  |zero=>cases e;exact⟨_,rfl,r⟩
  |succ i=>exact ih (i:=i) (by simpa using e)
section
variable{X:Cx}{pins:List (Addr × Obj)}{σ:St}{H:Hp}{s:Shared}{a:Addr}
theorem wo(I:Inv X pins σ H s){u:HO}(hu:isD u=true)(x:ObjOk X.prog X.w H s.heap a u):∃(o:Obj) (es:Array Xj) (ep:Nat),s.heap.get? a=some o/\o.ExactDict/\o.data = .dict es ep/\(a==ZP)=false/\es.size=fN u /\
 ∀i e,es[i]? = some e->∃x v,oO H u i x v/\RelV x e.key/\RelV v e.val:=by
 cases u with
 |dK kvs=>
  obtain⟨z,lo,vs,rel,o,es,ep,ho,ex,hd,hk,hp,hn⟩:=x;have hl:es.size=vs.length:=by rw[<- hp.length];simp
  refine⟨o,es,ep,ho,ex,hd,lo,by rw[hl];exact rel.length.symm,fun i e he=>?_⟩;have hi:i<vs.length:=by rw[<- hl];exact(Array.getElem?_eq_some_iff.mp he).1
  obtain⟨p1,p2⟩:=hp.get? (e:=e) (k:=vs[i].1) (v:=vs[i].2) (by rw[Array.getElem?_toList];exact he) (by simp[hi]);obtain⟨⟨k,v⟩,hx,e1,e2⟩:=DE rel (y:=vs[i]) (List.getElem?_eq_getElem hi);have e1':k=vs[i].1:=e1;refine⟨kV k,v,⟨k,hx,rfl⟩,by rw[e1'];exact Dv p1,by rw[p2];exact e2⟩
 |dT kvs=>
  obtain⟨z,lo,xs,rel,o,es,ep,ho,ex,hd,he,hn⟩:=x;have hl:es.size=xs.length:=size_of_entries he;refine⟨o,es,ep,ho,ex,hd,lo,by rw[hl];exact(Paired.length rel).symm,fun i e h=>?_⟩;rw[entry_at he i]at h;obtain⟨q,hq,rfl⟩:=uE.mp h;obtain⟨⟨k,v⟩,hx,e1,e2,e3⟩:=DE rel hq;exact⟨.ref q.2.1,v,⟨k,q.2.1,hx,rfl,e2⟩,rfl,e3⟩
 |_=>cases hu
theorem Inv.freeze(I:Inv X pins σ H s)(hu:isD u=true)(e:Rd H a u):∃(o:Obj) (es:Array Xj) (ep:Nat),s.heap.get? a=some o/\o.ExactDict/\o.data = .dict es ep/\(a==ZP)=false/\es.size=fN u/\(H a=some u\/H a=some (.frz o u))/\Inv X pins σ (upd H a (.frz o u)) s:=by
 have x:=yQ I.hok e;obtain⟨o,es,ep,ho,ex,hd,lo,hz,_⟩:=wo I hu x;rcases e with e|⟨o',e⟩
 ·refine⟨o,es,ep,ho,ex,hd,lo,hz,.inl e,?_⟩
  have no:∀b w,H b=some w->isD w=false->b≠a:=fun b w q n z=>by rw[z,e]at q;cases q;rw[hu]at n;cases n
  exact I.write (x:=a) (e:=a) (t':=s.toks) (h':=s.heap) (by rw[e];cases u <;> first|exact Z2|cases hu) (.inl rfl) (fun _ _ _ q=>q) ⟨o,ho⟩ ⟨ho,x.stay (fun _ _ _ q=>q) (fun c z=>by rw[ah (no c _ z rfl)];exact z) fun c xs z=>by rw[ah (no c _ z rfl)];exact z⟩
 ·have h1:=(show ObjOk X.prog X.w H s.heap a (.frz o' u) from I.hok a _ e).1
  rw[ho]at h1;cases h1;refine⟨o,es,ep,ho,ex,hd,lo,hz,.inr e,?_⟩;rw[s_ e];exact I
theorem Inv.thaw(I:Inv X pins σ H s)(e:H a=some (.frz o u))(nf:∀o' u',X.H₀ a≠some (.frz o' u')):Inv X pins σ (upd H a u) s:=by
 have na:∀b,H b=none->b≠a:=fun b n z=>by rw[z,e]at n;cases n
 have no:∀b w,H b=some w->(∀o x,w ≠ .frz o x)->b≠a:=fun b w q n z=>by rw[z,e]at q;cases q;exact n _ _ rfl
 have own:∀ {d:Addr} c,H c=some (.own d)->upd H a u c=some (.own d):=fun c z=>by rw[ah (no c _ z (by intro _ _ y;cases y))];exact z
 have tup:∀c xs,H c=some (.tup xs)->upd H a u c=some (.tup xs):=fun c xs z=>by rw[ah (no c _ z (by intro _ _ y;cases y))];exact z
 refine⟨I.ok,I.os,I.bare,⟨I.base.keep,I.base.slot,fun b ob q n hx=>?_,I.base.there,fun b xs q=>tup b xs (I.base.tups b xs q),fun b ob x q=>?_,fun b ps q=>?_⟩,I.loc,I.cell,?_,fun x c ec=>?_,fun p hp=>?_,fun b ob q=>?_,I.len⟩
 ·have h:=I.base.free b ob q n hx
  rw[ah (na b h)];exact h
 ·have h:=I.base.frzs b ob x q
  by_cases eb:b=a
  ·subst eb;exact absurd q (nf _ _)
  ·rw[ah eb];exact h
 ·obtain⟨m,h⟩:=I.base.tbls b ps q
  exact⟨m,by rw[ah (no b _ h (by intro _ _ z;cases z))];exact h⟩
 ·rw[ah (na _ I.free)];exact I.free
 ·have h:=I.freeC x c ec
  rw[ah (na _ h)];exact h
 ·obtain⟨p1,p2,p3⟩:=I.pin p hp
  exact⟨p1,by rw[ah (na _ p2)];exact p2,p3⟩
 ·by_cases eb:b=a
  ·subst eb
   rw[ad]at q;cases q;exact(show ObjOk X.prog X.w H s.heap b (.frz o u) from I.hok _ _ e).2.stay (fun _ _ _ z=>z) own tup
  ·rw[ah eb]at q
   exact(I.hok b ob q).stay (fun _ _ _ z=>z) own tup
def Th(H H1:Hp)(P:Hp->Prop):Prop:=∃a o u,H1 a=some (.frz o u)/\((H a=some u/\isD u=true/\P (upd H1 a u))\/(H a=some (.frz o u)/\P H1))
theorem Inv.th(I:Inv X pins σ H s)(I1:Inv X pins σ1 H1 s1)(h:Th H H1 P):∃H2,Inv X pins σ1 H2 s1/\P H2:=by
 obtain⟨a,o,u,e1,⟨e2,hu,q⟩|⟨e2,q⟩⟩:=h
 ·exact⟨_,I1.thaw e1 (fun o' u' z=>by rw[I.base.frzs _ _ _ z]at e2;cases e2;cases hu),q⟩
 ·exact⟨_,I1,q⟩
def vP(te:TE):TE:=fun σ H Q=>te σ H fun v H1=>Th H H1 (Q v)
theorem qh(he:PE X e te):PE X e (vP te):=by
 intro pins s σ H Q I h;refine thn (he pins s σ H _ I h) fun u s1 ⟨v,H1,I1,r,q⟩=>?_;obtain⟨H2,I2,q2⟩:=I.th I1 q;exact⟨v,H2,I2,r,q2⟩
def zN(ts:TS):TS:=fun D σ H=>ts { nx:=fun σ' H1=>Th H H1 (D.nx σ'),rt:=fun v H1=>Th H H1 (D.rt v),bk:=fun σ' H1=>Th H H1 (D.bk σ'),ct:=fun σ' H1=>Th H H1 (D.ct σ') } σ H
theorem pP{st:Stmt}{ts:TS}(h:PS X st ts):PS X st (zN ts):=by
 intro pins s σ H D I q;refine thn (h pins s σ H _ I q) fun f s1 hf=>?_;cases f with
 |next=>
  obtain⟨σ',H',I',z⟩:=hf;obtain⟨H2,I2,q2⟩:=I.th I' z;exact⟨σ',H2,I2,q2⟩
 |brk=>
  obtain⟨σ',H',I',z⟩:=hf;obtain⟨H2,I2,q2⟩:=I.th I' z;exact⟨σ',H2,I2,q2⟩
 |cont=>
  obtain⟨σ',H',I',z⟩:=hf;obtain⟨H2,I2,q2⟩:=I.th I' z;exact⟨σ',H2,I2,q2⟩
 |ret u=>
  obtain⟨v,σ',H',I',r,z⟩:=hf;obtain⟨H2,I2,q2⟩:=I.th I' z;exact⟨v,σ',H2,I2,r,q2⟩
def Itk(a:Addr)(o:Obj)(u:HO):It:=
 ⟨fun i H=>i<fN u/\H a=some (.frz o u),fun i H x H'=>H'=H/\∃v,oO H u i x v,fun i H=>fN u<=i/\H a=some (.frz o u)⟩
theorem AW(I:Inv X pins σ H s)(hu:isD u=true)(hd:o.data = .dict es ep)(e:H a=some (.frz o u)):s.heap.get? a=some o/\es.size=fN u/\∀i e,es[i]? = some e->∃x v,oO H u i x v/\RelV x e.key/\RelV v e.val:=by
 obtain⟨ho,x⟩:=(show ObjOk X.prog X.w H s.heap a (.frz o u) from I.hok a _ e);obtain⟨o',es',ep',ho',ex,hd',lo,hz,h⟩:=wo I hu x;rw[ho]at ho';cases ho';rw[hd]at hd';injection hd' with h2 h3
 subst h2;exact⟨ho,hz,h⟩
theorem xp{P:Program}{w:World}{K:W.Frag}{tg:Expr}(a it:Addr)(o:Obj)(es:Array Xj)(ep:Nat)(u:HO)(hu:isD u=true)(hd:o.data = .dict es ep):tB P w K tg (Itk a o u) [it] it (fun i h=>h.IsKeyIter it a i es.size ep) where
 mem:=by simp
 obj:=fun i h st b hb=>by
  have e:b=it:=by simpa using hb
  subst e;obtain⟨o,e,c,d⟩:=st;exact⟨o,e,fun v z=>by rw[d]at z;cases z⟩
 keep:=fun i h h' st k=>st.at fun o e=>k it (by simp) o e
 item:=by
  intro X hP hw hK hc i pins s σ H E I hf st hg;subst hP hw hK;obtain⟨hi,hq⟩:=hg;obtain⟨ho,hz,hen⟩:=AW I hu hd hq;obtain⟨f0,f1,f2,f3,f4,f5⟩:=hf it (by simp);have hx:es[i]? = some es[i]:=by simp[show i<es.size by lia]
  obtain⟨x,v,en,rx,rv⟩:=hen i _ hx;refine vT st ho hd hx fun h' st' sb=>?_;have I1:Inv X pins σ H { s with heap:=h' }:=I.turned (t':=s.toks) (fun b o hb e=>(sb.2 b hb).trans e) f0 f1 f3 f4 f5;obtain⟨oi,e,c,d⟩:=id st';exact⟨_,rfl,lj (s:={ s with heap:=h' }) e c d (by decide) ⟨x,H,I1,rx,⟨rfl,v,en⟩,st',fun b hb=>(hf b hb).1⟩⟩
 done:=by
  intro X hP hw hK hc i pins s σ H E I hf st hg;subst hP hw hK;obtain⟨hi,hq⟩:=hg;obtain⟨ho,hz,hen⟩:=AW I hu hd hq;obtain⟨f0,f1,f2,f3,f4,f5⟩:=hf it (by simp);exact Al (I.ok.hd hc) st ho hd (by lia) fun h' eb=>⟨rfl,I.turned (t':=s.toks) (fun b o hb e=>eb b o hb e) f0 f1 f3 f4 f5⟩
 self:=fun _ _ _ _ _ st h=>wpAny_pyIter_keyiter st h
def ph(td:TE):TI:=fun σ H R=>td σ H fun x H1=>∃b u,x = .ref b/\isD u=true/\Rd H1 b u/\∀o,(H1 b=some u\/H1 b=some (.frz o u))->R (Itk b o u) (upd H1 b (.frz o u))
theorem iC{tg l:Expr}{td:TE}(hl:PE X l td):PI X tg l (ph td):=by
 intro pins s σ H R I h;refine thn (hl pins s σ H _ I h) fun v s1 ⟨x,H1,I1,rx,b,u,ex,hu,hr,q⟩=>?_;subst ex;cases (show v=yy b from rx);obtain⟨o,es,ep,ho,ex,hd,lo,hz,hor,I2⟩:=I1.freeze hu hr;refine wW lo ho ex hd ?_;refine⟨s1.heap.objs.size,[s1.heap.objs.size],_,Itk b o u,_,rfl,I2.kept (t':=s1.toks) (fun c ob e=>Heap.get?_push_of_some _ e),xp b _ o es ep u hu hd,⟨_,Heap.get?_push_size _ rfl,rfl,rfl⟩,fun c hc=>?_,q o hor⟩;rw[zL.mp hc];exact I2.fpOk (z4 _) (I2.hok.fresh (z4 _))
end
theorem Ei(h:td σ H fun x H1=>∃b u,x = .ref b/\isD u=true/\Rd H1 b u/\∀o,(H1 b=some u\/H1 b=some (.frz o u))->CEl (Itk b o u) n g ks tt te σ (upd H1 b (.frz o u)) fun v H2=>Th H H2 (Q v)):vP (dh (ph td) n g ks tt te) σ H Q:=h
theorem DC(b:Addr)(o:Obj)(u:HO)(P:Addr->Nat->List V->Hp->Prop)(hz:fN u<sizeLine)
 (h0:∀D,H1 D=none->P D 0 [] (upd H1 D (.lst []))) (hD:∀D i ys H',P D i ys H'->H' D=some (.lst ys)/\H' b=some (.frz o u)/\ys.length<=i)
 (hs:∀D i y v ys H' (zs:St) (N1:VK) (N0:Hp->Prop),i<fN u->oO H' u i y v->P D i ys H'->zs.length=n->(∀v H6,H6 D=some (.lst ys)->P D (i+1) (ys++[v]) (upd H6 D (.lst (ys++[v])))->N1 v H6)->(∀H6,P D (i+1) ys H6->N0 H6) ->
  g y (zs++ks.map fun k=>(σ[k]?).join) H' fun σ4 H4=>(∃zs4:St,zs4.length=n/\σ4=zs4++ks.map fun k=>(σ[k]?).join)/\tt σ4 H4 fun b H5=>if b=true then te σ4 H5 N1 else N0 H5)
 (hd:∀D ys H',P D (fN u) ys H'->Q (.ref D) H'):CEl (Itk b o u) n g ks tt te σ H1 Q:=by
 intro D hDn;refine⟨fun i m ys H'=>m=fN u-i/\i<=fN u/\P D i ys H',⟨_,rfl,ud _,h0 D hDn⟩,?_⟩;rintro i m ys H' ⟨rfl,hi,p⟩;obtain⟨d1,d2,d3⟩:=hD D i ys H' p;refine⟨d1,?_⟩;rcases Nat.lt_or_ge i (fN u) with lt|ge
 ·refine .inr ⟨⟨lt,d2⟩,?_⟩
  rintro x H3 ⟨rfl,v,hx⟩ zs hzs;exact hs D i x v ys _ zs _ _ lt hx p hzs (fun v H6 h6 p6=>⟨h6,by lia,_,by lia,rfl,lt,p6⟩) fun H6 p6=>⟨_,by lia,rfl,lt,p6⟩
 ·obtain rfl:i=fN u:=XU hi ge
  exact .inl ⟨⟨z4 _,d2⟩,hd D ys H' p⟩
theorem cmK(b:Addr)(kvs:List (Key × V))(p:V->Bool)(f:V->V)(hl:∀R:VK,R (.ref b) H->td σ H R)(hr:Rd H b (.dK kvs))(hz:kvs.length<sizeLine)
 (hp:∀x∈kvs.map (fun e=>kV e.1),∀D ys o (R:Bool->Hp->Prop),H D=none->D≠b->R (p x) (upd (upd H b (.frz o (.dK kvs))) D (.lst ys))->tt (some x::ks.map fun k=>(σ[k]?).join) (upd (upd H b (.frz o (.dK kvs))) D (.lst ys)) R)
 (hf:∀x∈kvs.map (fun e=>kV e.1),p x=true->∀D ys o (R:VK),H D=none->D≠b->R (f x) (upd (upd H b (.frz o (.dK kvs))) D (.lst ys))->te (some x::ks.map fun k=>(σ[k]?).join) (upd (upd H b (.frz o (.dK kvs))) D (.lst ys)) R)
 (q:∀D,H D=none->Q (.ref D) (upd H D (.lst (((kvs.map fun e=>kV e.1).filter p).map f)))):vP (dh (ph td) 1 (hZ 0) ks tt te) σ H Q:=by
 have hb:∃u,H b=some u:=by rcases hr with e|⟨o,e⟩ <;> exact⟨_,e⟩
 obtain⟨u,hb⟩:=hb;refine Ei (hl _ ⟨b,.dK kvs,rfl,rfl,hr,fun o hor=>DC b o (.dK kvs) (fun D i ys G=>G=upd (upd H b (.frz o (.dK kvs))) D (.lst ys)/\H D=none/\ys=(((kvs.map fun e=>kV e.1).take i).filter p).map f) hz (fun D hD=>⟨rfl,?_,by simp⟩) ?_ ?_ ?_⟩)
 ·have nb:D≠b:=fun z=>by rw[z,ad]at hD;cases hD
  rwa [ah nb]at hD
 ·rintro D i ys G ⟨rfl,hD,rfl⟩
  have nb:b≠D:=aC hb hD;refine⟨ad,(ah nb).trans ad,?_⟩;rw[zK];exact uM (Zf _ _) (by rw[qW];lia)
 ·rintro D i y vv ys G zs N1 N0 hi ⟨kk,hk,rfl⟩ ⟨rfl,hD,rfl⟩ hzs n1 n0
  have hy:(kvs.map fun e=>kV e.1)[i]? = some (kV kk):=by rw[List.getElem?_map,hk];rfl
  generalize kV kk=y at hy;obtain⟨z,rfl⟩:=ex1 hzs;have nb:D≠b:=Ne.symm (aC hb hD);have my:=xg hy;have et:(kvs.map fun e=>kV e.1).take (i+1)=(kvs.map fun e=>kV e.1).take i++[y]:=by rw[Yc,hy];rfl
  rw[et,Zl]at n1 n0;refine⟨⟨[some y],rfl,rfl⟩,hp y my D _ o _ hD nb ?_⟩;cases py:p y with
  |true=>
   rw[if_pos rfl];refine hf y my py D _ o _ hD nb (n1 _ _ ad ⟨jx,hD,?_⟩);rw[Zo py,vd];rfl
  |false=>
   rw[if_neg (by decide)];refine n0 _ ⟨rfl,hD,?_⟩;rw[Zn (by rw[py];decide),ZG,Zh]
 ·rintro D ys G ⟨rfl,hD,rfl⟩
  rw[show fN (.dK kvs)=kvs.length from rfl,Zc (by rw[zK];exact z4 _)];have nb:b≠D:=aC hb hD;have q1:=q D hD;refine⟨b,o,.dK kvs,(ah nb).trans ad,?_⟩;have e1:∀w z,upd (upd (upd H b w) D z) b u=upd H D z:=fun w z=>by
   funext c;by_cases h1:c=b
   ·subst h1;rw[ad,ah nb,hb]
   ·rw[ah h1]
    by_cases h2:c=D
    ·subst h2;rw[ad,ad]
    ·rw[ah h2,ah h1,ah h2]
  rcases hor with e|e
  ·refine .inl ⟨e,rfl,?_⟩
   rw[hb]at e;cases e;rw[e1];exact q1
  ·refine .inr ⟨e,?_⟩
   rw[s_ e];exact q1
section
variable{X:Cx}{pos:Pos}
def zk(K:W.Frag)(n:Nat)(t:TGs):TG:=fun v σ H Q=>∃a xs,v = .ref a/\SqL K H a xs/\xs.length=n/\t xs σ H Q
theorem vU(K:W.Frag)(hc:X.calm=true)(h:PGs X es t)(hK:X.K=K:=by rfl)
 (hn:(YH es X.env).length=n:=by rfl) (hst:(YH es X.env).findIdx? (·.1)=none:=by rfl):PG X (.Tuple es k pos) (zk K n t):=by
 subst hK;intro pins s σ H v u Q I r hw;obtain⟨a,xs,e1,hq,hl,hw⟩:=hw;subst e1;cases r;obtain⟨its,rv,pl,hz⟩:=I.list hq;have hl2:=rv.length;rw[PyProof.Rows.assign_Tuple];refine zm (Y7 ?_);have hs:(YH es X.env).length=its.toArray.size:=by rw[hn,yg];lia
 unfold unpack;rw[hs,hst];refine zm (Ze (PySem.W.kun_itemsOf (I.ok.hd hc) pl.isList fun h' hx=>?_));exact h pins _ σ H xs _ Q (I.kept (t':=s.toks) fun b o e=>hx b o (xK (yr e)) e) (by simpa using rv) hw
end
section
variable{X:Cx}
end
end L2
namespace L2
open PySem
theorem Be(h:td σ H fun x H1=>∃b u,x = .ref b/\isD u=true/\Rd H1 b u/\∀o,(H1 b=some u\/H1 b=some (.frz o u))->FE (Itk b o u) g tb { nx:=fun σ' H2=>Th H H2 (D.nx σ'),rt:=fun v H2=>Th H H2 (D.rt v),bk:=fun σ' H2=>Th H H2 (D.bk σ'),ct:=fun σ' H2=>Th H H2 (D.ct σ') } σ (upd H1 b (.frz o u))):zN (nV (ph td) g tb) D σ H:=h
theorem zi(Pv:Nat->St->Hp->Prop)(h0:Pv 0 σ H)(hl:∀i σ H,Pv i σ H->H b=some (.frz o u))
 (hs:∀i x v σ H,i<fN u->oO H u i x v->Pv i σ H->g x σ H fun σ2 H2=>tb { D with nx:=Pv (i+1),ct:=Pv (i+1),bk:=D.nx } σ2 H2) (hd:∀σ H,Pv (fN u) σ H->D.nx σ H):FE (Itk b o u) g tb D σ H:=by
 refine⟨fun i m σ H=>m=fN u-i/\i<=fN u/\Pv i σ H,⟨_,rfl,ud _,h0⟩,?_⟩;rintro i m σ H ⟨rfl,hi,p⟩;have q:=hl i σ H p;rcases Nat.lt_or_ge i (fN u) with lt|ge
 ·refine .inr ⟨⟨lt,q⟩,Pv (i+1),fun σ' H' p'=>⟨_,by lia,rfl,lt,p'⟩,?_⟩
  rintro y H' ⟨rfl,v,en⟩;exact hs i y v σ _ lt en p
 ·obtain rfl:i=fN u:=XU hi ge
  exact .inl ⟨⟨z4 _,q⟩,hd σ H p⟩
end L2
namespace L2
open PySem PyProof.Rows
section
variable{prog:Program}{w:World}{A:Around}{E:Value->Shared->Prop}{s:Shared}{it d:Addr}{i ep:Nat}{od:Obj}{es:Array Xj}
end
section
variable{X:Cx}{pins:List (Addr × Obj)}{σ:St}{H:Hp}{s:Shared}
end
section
variable{prog:Program}{w:World}{A:Around}{E:Value->Shared->Prop}{s:Shared}{d:Addr}
end
section
variable{X:Cx}{o e f:Expr}{apos cpos:Pos}{td ty tx:TE}
end
namespace Srt
section
variable{prog:Program}{w:World}{A:Around}{E:Value->Shared->Prop}{s:Shared}
end
end Srt
section
variable{X:Cx}{pins:List (Addr × Obj)}{σ:St}{H:Hp}{s:Shared}
end
section
variable{X:Cx}
end
section
variable{prog:Program}{w:World}{A:Around}{E:Value->Shared->Prop}{s:Shared}
end
section
variable{X:Cx}
end
open Lean Meta Simp
end L2
namespace L2
section
variable{κ:Type}[DecidableEq κ]
end
structure Qr where
 d:Int
 a:List Nat
 p:Int
 b:List Nat
 q:Int
abbrev Wt:=Int × Int
def hit(r:Qr)(x y:List Nat):Option Wt:=if r.a=x/\r.b=y then some (r.p,r.q) else if r.a=y/\r.b=x then some (r.q,r.p) else none
def Ip(r:Qr)(x y:List Nat)(D:Int)(o:Option Wt):Option Wt:=if r.d=D then (hit r x y).or o else o
def val(R:List Qr)(x y:List Nat)(D:Int):Option Wt:=R.foldl (fun o r=>Ip r x y D o) none
def nR(R:List Qr):Prop:=∀r∈R,r.a≠r.b
theorem Fq(h:vP (dh (ph td) n g ks tt te) σ H fun v H1=>D.nx (σ.set i (some v)) H1):zN (uZ (dh (ph td) n g ks tt te) (hZ i)) D σ H:=h
theorem BN{α:Type}[DecidableEq α]:∀ {l l':List α},l.Nodup->(∀x∈l,x∈l')->l.length<=l'.length
 | [],_,_,_=>ud _
 |x::r,l',nd,s=>by
  rw[Zd]at nd;have m:=s x (.head _);have ih:=BN (l:=r) (l':=l'.erase x) nd.2 fun y my=>(List.mem_erase_of_ne (fun e:y=x=>nd.1 (e ▸ my))).mpr (s y (.tail _ my));rw[List.length_erase_of_mem m]at ih;have:=List.length_pos_of_mem m;rw[uO];lia
end L2
namespace L2
open PySem PyProof.Rows
section
variable{X:Cx}{e c:Expr}{te:TE}{ts:TO}{pos p2:Pos}
end
section
variable{X:Cx}
end
open Lean Meta Simp
end L2
namespace L2
section
variable{N:Type}{A:N->N->Prop}{g:N}
def Wk(A:N->N->Prop)(g:N):Nat->N->Prop
 |0,x=>x=g
 |k+1,x=>∃y,Wk A g k y/\A y x
def Far(A:N->N->Prop)(g:N)(k:Nat)(x:N):Prop:=Wk A g k x/\∀j,j<k -> ¬ Wk A g j x
end
section
variable{A:List Nat->List Nat->Prop}{g:List Nat}
def Nx(A:List Nat->List Nat->Prop)(g x y:List Nat):Prop:=∃k,Far A g (k+1) x/\Far A g k y/\A x y/\∀z,Far A g k z->A x z -> ¬ z<y
def Chn(A:List Nat->List Nat->Prop)(g:List Nat):List (List Nat)->Prop
 | []=>False
 | [x]=>x=g
 |x::y::r=>Nx A g x y/\Chn A g (y::r)
end
section
variable{N:Type}{A:N->N->Prop}{g:N}
def Up(A:N->N->Prop)(g:N)(k:Nat)(F:List N)(x:N)(n:Nat):Prop:=(n<=k/\Far A g n x)\/(n=k+1/\x∈F)
end
def pr(r:Qr)(x y:List Nat):Prop:=(r.a=x/\r.b=y)\/(r.a=y/\r.b=x)
def Lk(R:List Qr)(d:Int)(x y:List Nat):Prop:=∃r∈R,r.d<=d/\pr r x y
def Cov(R:List Qr)(C:List (List Nat)):Prop:=∀r∈R,r.a∈C/\r.b∈C
structure SD(m:List (Key × V))(P:List Nat->Nat->Prop):Prop where
 nd:(m.map (·.1)).Nodup
 to:∀k v,(k,v)∈m->∃(x:List Nat) (n:Nat),k = .inr ⟨⟨x⟩⟩/\v = .int n/\P x n
 fr:∀x (n:Nat),P x n->((.inr ⟨⟨x⟩⟩:Key),V.int n)∈m
def Rows(R:List Qr)(C:List (List Nat)):Prop:=∀r∈R,(0<=r.d/\r.d<=146096)/\r.a∈C/\r.b∈C/\r.a≠r.b/\(1<=r.p/\r.p<=1000000000)/\1<=r.q/\r.q<=1000000000
end L2
namespace L2
open PySem PyProof.Rows
section
variable{P:Program}{w:World}{A:Around}{E:Value->Shared->Prop}{s:Shared}
abbrev skd(P:Program)(w:World):=PySem.strKind P w
def SetTx(P:Program)(w:World)(h:Heap)(a:Addr)(ls:List (List Nat))(ld:Bool):Prop:=∃o es ep t,h.get? a=some o/\o.ExactSet/\o.data = .set es ep t/\ElemsOf (skd P w) es.toList/\es.size<scanBound/\t.fits es.size=true/\t.led=ld/\(0<es.size->t.plain=false)/\(es.toList.map fun e=>fI e.2).Nodup/\∀l,l∈es.toList.map (fun e=>fI e.2)↔l∈ls
theorem De(t:SetTable)(es:Array (Int × Value))(n:Int)(x:Value):(layNew t es n x).2.1.led=t.led:=by
 unfold layNew;split
 ·rename_i q e
  show(XS _ _).led=_;unfold XS;split
  ·unfold SetTable.put;(try split) <;> rfl
  ·show(SetTable.standIn _ _).led=_
   unfold SetTable.put SetTable.standIn;(try split) <;> rfl
 ·rfl
theorem xZ(t:SetTable)(es:Array (Int × Value))(n:Int)(x:Value)(h:t.plain=false):(layNew t es n x).2.1.plain=false:=by
 unfold layNew;split
 ·rename_i q e
  show(XS _ _).plain=_;unfold XS;split
  ·unfold SetTable.put;(try split) <;> exact h
  ·rfl
 ·rfl
theorem yf(t:SetTable)(es:Array (Int × Value))(n:Nat):(relayAll t es n).2.1.led=t.led:=by
 unfold relayAll;split
 ·rename_i t' od e
  have:t'.led=t.led:=by
   unfold SetTable.relaid SetTable.laid at e;obtain⟨_,_,e2⟩:=Option.bind_eq_some_iff.mp e;cases e2;rfl
  dsimp only;split
  ·exact this
  ·rfl
 ·rfl
theorem tM(t:SetTable)(es:Array (Int × Value))(n:Nat)(h:t.plain=false):(relayAll t es n).2.1.plain=false:=by
 unfold relayAll;split
 ·rename_i t' od e
  have:t'.plain=t.plain:=by
   unfold SetTable.relaid SetTable.laid at e;obtain⟨_,_,e2⟩:=Option.bind_eq_some_iff.mp e;cases e2;rfl
  dsimp only;split
  ·rw[<- h];exact this
  ·rfl
 ·rfl
theorem zv{h:Heap}{o:Obj}(ho:h.get? a=some o)(hd:o.data = .set es ep t)(es':Array (Int × Value))(t':SetTable):(h.update a (Obj.putSet es' t')).get? a=some { o with data:=.set es' (ep+1) t' }:=by
 have q:=Heap.get?_update_self (Obj.putSet es' t') ho (by rw[putSet_of es' t' hd];rfl)
 rwa [putSet_of es' t' hd]at q
theorem zS{g:Bool->Sem Unit}(hg:∀(b:Bool) (s1:Shared) (Q1:Unit->Shared->Prop),Q1 () s1->wpAny (model P w) A (g b) Q1 E s1){a:Addr}{o:Obj}{es:Array (Int × Value)}{ep:Nat}{t:SetTable}(ho:s.heap.get? a=some o)(hd:o.data = .set es ep t)
 {es1:Array (Int × Value)} {t2:SetTable} (hb1:es1.size<scanBound) (hf2:t2.fits es1.size=true) {wd:Bool} {R:Option Bool->Shared->Prop}
 (fin:∀h' es' t' ep',Yx a s.heap h'->h'.get? a=some { o with data:=.set es' ep' t' }->es'.toList.Perm es1.toList->t'.fits es'.size=true->t'.led=t2.led->(t2.plain=false->t'.plain=false)->R (some true) { s with heap:=h' }) :
 wpAny (model P w) A (do
  storeSet a es1 t2
  if (!wd&&t2.tooFull)=true then do
   g (relayAll t2 es1 (Ye es1.size)).2.2
   storeSet a (relayAll t2 es1 (Ye es1.size)).1 (relayAll t2 es1 (Ye es1.size)).2.1
   pure (some true)
  else pure (some true)) R E s:=by
 refine zm (wpAny_storeSet_of ho hd ?_ (fits_of_scanBound hb1));have g1:=zv ho hd es1 t2;have k1:=Yx.update s.heap a (Obj.putSet es1 t2);split
 ·have pm:=relayAll_perm t2 es1 (Ye es1.size)
  have ft:=relayAll_fits t2 es1 (Ye es1.size);have ld:=yf t2 es1 (Ye es1.size);have pl:=tM t2 es1 (Ye es1.size);generalize relayAll t2 es1 (Ye es1.size)=Z at pm ft ld pl |-
  have z2:Z.1.size<scanBound:=by
   have:=pm.length_eq;rw[xO,xO]at this;lia
  refine zm (hg _ _ _ (zm (wpAny_storeSet_of g1 rfl ?_ (fits_of_scanBound z2))));exact za (fin _ _ _ _ (k1.trans (Yx.update _ a _)) (zv g1 rfl _ _) pm ft ld pl)
 ·exact za (fin _ _ _ _ k1 g1 (Xm _) hf2 rfl id)
theorem tz:(skd P w).is x v=true↔∃tk,v = .str x tk:=by
 constructor
 ·exact Xc
 ·rintro⟨tk,rfl⟩
  show XZ x (.str x tk)=true;simp[XZ]
theorem zO(h:ElemsOf (skd P w) es)(m:e∈es):∃x tk,e.2 = .str x tk:=by
 obtain⟨⟨k,hk,_⟩,_⟩:=h e m;obtain⟨tk,e2⟩:=tz.mp hk;exact⟨k,tk,e2⟩
theorem El(h:cs x=cs y):x=y:=by
 obtain⟨⟨l⟩⟩:=x;obtain⟨⟨r⟩⟩:=y;have:l=r:=h;rw[this]
theorem SetTx.size{h:Heap}{a:Addr}{ls:List (List Nat)}{ld:Bool}(hS:SetTx P w h a ls ld):∃o es ep t,h.get? a=some o/\o.data = .set es ep t/\es.size<=ls.length:=by
 obtain⟨o,es,ep,t,ho,hex,hd,hel,hb,hf,hld,hpl,hnd,hmem⟩:=hS;refine⟨o,es,ep,t,ho,hd,?_⟩;have:=BN hnd fun l m=>(hmem l).mp m
 rwa [zK,xO]at this
theorem GJ{a:Addr}{ls:List (List Nat)}{ld:Bool}{x:Str}{tk:Tok}{Q:Bool->Shared->Prop}(hS:SetTx P w s.heap a ls ld)(room:ls.length+1<scanBound)
 (h:∀b h',Yx a s.heap h'->SetTx P w h' a (ls++[cs x]) ld->Q b { s with heap:=h' }):wpAny (model P w) A (setAddHashed a (.str x tk) ((skd P w).hash x)) Q E s:=by
 obtain⟨o0,es0,ep0,t0,ho0,hd0,lz0⟩:=hS.size;obtain⟨o,es,ep,t,ho,hex,hd,hel,hb,hf,hld,hpl,hnd,hmem⟩:=hS;rw[ho0]at ho;cases ho;rw[hd0]at hd;cases hd;have lz:es0.size<=ls.length:=lz0;have hkey:(skd P w).is x (.str x tk)=true:=tz.mpr ⟨tk,rfl⟩;unfold setAddHashed setAddHashedIn;refine Ze (zm (Zg ho0 hd0 hf ?_));dsimp only;rw[byScan_of (knd:=skd P w) (x:=.str x tk) rfl hb hel];simp only[↓reduceIte];unfold setAddByScan;refine zm (zm (Yo (zm (wpAny_setScan_of hkey ho0 hd0 hf hel ?_))));cases hr:List.findIdx? (fun e=>(skd P w).is x e.2) es0.toList with
 |some j=>
  dsimp only;obtain⟨hj,pj,_⟩:=List.findIdx?_eq_some_iff_getElem.mp hr;obtain⟨tk',e2⟩:=tz.mp pj;have mx:cs x∈ls:=(hmem _).mp (yH.mpr ⟨_,YB hj,by rw[e2];rfl⟩);refine za (za ?_);have:=h false s.heap (Yx.refl a s.heap) ⟨o0,es0,ep0,t0,ho0,hex,hd0,hel,hb,hf,hld,hpl,hnd,fun l=>(hmem l).trans ⟨fun m=>rV _ m,fun m=>(y9.mp m).elim id fun m=>by rw[zL.mp m];exact mx⟩⟩;cases s;exact this
 |none=>
  dsimp only;have nx:∀e∈es0.toList,fI e.2≠cs x:=fun e me q=>by
   have z:=List.findIdx?_eq_none_iff.mp hr e me;obtain⟨y,ty,ey⟩:=zO hel me;rw[ey]at q z;have:y=x:=El q;subst this;rw[tz.mpr ⟨ty,rfl⟩]at z;cases z
  have gw:∀(b:Bool) {s1:Shared} {Q1:Unit->Shared->Prop},Q1 () s1->wpAny (model P w) A (match b with|true=>rule "set.scan.the-table-gave-way" | false=>pure ()) Q1 E s1:=fun b s1 Q1 q=>by
   cases b
   ·exact za q
   ·exact Yo q
  have pm:=layNew_perm t0 es0 ((skd P w).hash x) (.str x tk);have ft:=layNew_fits t0 es0 ((skd P w).hash x) (.str x tk);have ll:=De t0 es0 ((skd P w).hash x) (.str x tk);have lp:=xZ t0 es0 ((skd P w).hash x) (.str x tk);generalize layNew t0 es0 ((skd P w).hash x) (.str x tk)=Z at pm ft ll lp |-
  obtain⟨es1,t1,wd,gave⟩:=Z;dsimp only at pm ft ll lp |-
  rw[Array.toList_push]at pm;have s1:es1.size=es0.size+1:=by
   have:=pm.length_eq
   rwa [xO,yw,xO]at this
  have fin:∀(tt:SetTable),tt.led=t1.led->tt.plain=false->∀h' es' t' ep',Yx a s.heap h'->h'.get? a=some { o0 with data:=.set es' ep' t' }->es'.toList.Perm es1.toList->t'.fits es'.size=true->t'.led=tt.led->(tt.plain=false->t'.plain=false)->Q true { s with heap:=h' }:=fun tt tl tp h' es' t' ep' sb gh p1 f1 l1 pl1=>by
   have p2:=p1.trans pm;have sz:es'.size=es0.size+1:=by
    have:=p2.length_eq
    rwa [xO,yw,xO]at this
   have p3:(es'.toList.map fun e=>fI e.2).Perm (es0.toList.map (fun e=>fI e.2)++[cs x]):=by
    have:=p2.map fun e=>fI e.2
    rwa [vd]at this
   refine h true h' sb ⟨_,es',ep',t',gh,hex,rfl,(hel.push hkey rfl).perm p2,by lia,f1,by rw[l1,tl,ll];exact hld,fun _=>pl1 tp,p3.nodup_iff.mpr (List.nodup_append.mpr ⟨hnd,by simp,fun u mu v mv=>?_⟩),fun l=>?_⟩
   ·rw[zL.mp mv]
    obtain⟨e,me,rfl⟩:=yH.mp mu;exact nx e me
   ·rw[p3.mem_iff,y9,y9,hmem]
  refine zm (gw _ ?_);split
  ·refine zm ?_
   rw[hashByValue_scannable 8 (x:=.str x tk) rfl];refine za ?_;refine zS ?_ ho0 hd0 (by lia) ?_ ?_
   ·intro b s2 Q2 q;cases b <;> first|exact za q|exact Yo q
   ·split
    ·exact ft
    ·exact SetTable.fits_plain_off ft
   ·intro h' es' t' ep' sb gh p1 f1 l1 pl1
    dsimp only;exact za (fin { t1 with plain:=false } rfl rfl h' es' t' ep' sb gh p1 f1 l1 pl1)
  ·rename_i np
   have np':t1.plain=false:=by cases e:t1.plain with|true=>exact absurd e np|false=>rfl
   refine zm (za ?_);simp only[↓reduceIte];refine zS ?_ ho0 hd0 (by lia) ft ?_
   ·intro b s2 Q2 q;cases b <;> first|exact za q|exact Yo q
   ·intro h' es' t' ep' sb gh p1 f1 l1 pl1
    dsimp only;exact za (fin t1 rfl np' h' es' t' ep' sb gh p1 f1 l1 pl1)
end
section
variable{P:Program}{w:World}{A:Around}{E:Value->Shared->Prop}{s:Shared}
theorem SetTx.mv{h h':Heap}{a:Addr}{ls:List (List Nat)}{ld:Bool}(x:SetTx P w h a ls ld)(k:∀o,h.get? a=some o->h'.get? a=some o):SetTx P w h' a ls ld:=by
 obtain⟨o,es,ep,t,ho,r⟩:=x;exact⟨o,es,ep,t,k _ ho,r⟩
theorem Ht{R:Result->Shared->Prop}{I:Addr}{fp wr:List Addr}{G:Array GenState->Array GenState->Prop}{n:Nat}{Pv:Nat->Value->Prop}{St:Nat->Shared->Prop}{ld:Bool}
 (W:WalksS P w A.in1 I fp wr G n Pv St) (S:Addr) (nf:S∉fp) (val:Nat->List Nat) (hv:∀i v,Pv i v->∃x tk,v = .str x tk/\cs x=val i) (hb:n+1<scanBound) :
 ∀(k i:Nat) (s:Shared),n-i=k->i<=n->St i s->SetTx P w s.heap S ((Zj i).map val) ld->(∀s2,Moved (S::wr) G s s2->SetTx P w s2.heap S ((Zj n).map val) ld->R (.ok (.ret .none)) s2) ->
  codeAny (model P w) A (.builtin "set.update.loop" ⟨[.ref S,.ref I],[]⟩) R s:=by
 have nw:S∉wr:=fun z=>nf (W.sub _ z);have up:∀b∈wr,b∈S::wr:=fun b m=>vt _ m;intro k
 induction k with
 |zero=>
  intro i s hk hi st hS hR;obtain rfl:i=n:=by lia
  refine YU F.entry_set_update_loop ?_;rw[YI F.plain_set_update_loop _];show wpAny _ A.in1 (pyNext (.ref I) >>= _) _ _ s;refine zm (W.done s _ _ st fun s2 mv=>?_);show wpAny _ A.in1 (ret Zm) _ _ s2;exact za (hR s2 (mv.mono up) (hS.mv fun o e=>mv.heap S _ nw e))
 |succ k ih=>
  intro i s hk hi st hS hR;have lt:i<n:=by lia
  refine YU F.entry_set_update_loop ?_;rw[YI F.plain_set_update_loop _];show wpAny _ A.in1 (pyNext (.ref I) >>= _) _ _ s;refine zm (W.item i s _ _ lt st fun v s2 pv st2 mv=>?_);obtain⟨x,tk,rfl,ex⟩:=hv i v pv;have hS2:SetTx P w s2.heap S ((Zj i).map val) ld:=hS.mv fun o e=>mv.heap S _ nw e;show wpAny _ A.in1 (holding [Z9 x tk] (setAdd S (.str x tk)) >>= _) _ _ s2;refine zm (Ze ?_);unfold setAdd;refine Ze (zm ((skd P w).pyHash (k:=x) (tz.mpr ⟨tk,rfl⟩) ?_));refine GJ (s:={ s2 with toks:=s2.toks+1 }) hS2 (by rw[zK,Xv];lia) fun b h3 sb hS3=>?_;have hS4:SetTx P w h3 S ((Zj (i+1)).map val) ld:=by
   rw[List.range_succ,vd,List.map_singleton,<- ex];exact hS3
  refine za ⟨plainId_quiet F.plain_set_update_loop _,ih (i+1) _ (by lia) lt (W.frame _ s2 _ _ st2 (Z6 _) fun c mc o e=>?_) hS4 fun s5 mv5 hS5=>?_⟩
  ·rw[sb.2 c fun z=>nf (z ▸ mc)];exact e
  ·refine hR s5 (Moved.trans W.gtrans ((mv.mono up).then_heap (Z6 _) fun c o mc e=>?_) mv5) hS5
   rw[sb.2 c fun z=>mc (by rw[z];exact ZF)];exact e
def byT(w:World):Bool:=w.params.followText "set-order"
abbrev oJ(w:World):Obj:={ cls:=.type "set",dict:=none,data:=.set #[] 0 (.fresh 0 0 (!byT w)) }
theorem G_(l:Value)(h:Q1 (.ref s.heap.objs.size) { s with heap:=s.heap.push (oJ w) }) :
 codeAny (model P w) A (.call (.builtin "set.__new__") ⟨[.type "set",l],[]⟩) (wants Q1 E) s:=by
 refine codeAny_of_tree ?_;show wpAny _ A.in1 (do checkBuiltinCall "set.__new__" ⟨[.type "set",l],[]⟩;again (.builtin "set.__new__" ⟨[.type "set",l],[]⟩)) _ _ s;refine zm (wpAny_of_eq (PySem.F.newCall_set_1 l) (za ⟨plainId_quiet PySem.F.plain_set_new _,YU PySem.F.entry_set_new ?_⟩));rw[YI PySem.F.plain_set_new _];unfold Builtin.«set.__new__» Builtin.Frozenset.newClass;have sub:=sub_set_self;obtain⟨hp,g,d,tk,os⟩:=s;dsimp only
 wp_walk
 refine wpAny_askSetting (za ?_);dsimp only;simp only[newObj];refine zm (wpAny_alloc (za ?_));exact za h
theorem BR(e:h.get? a=some (oJ w)):SetTx P w h a [] (!byT w):=
 ⟨_,#[],0,_,e,by exact⟨rfl,rfl,rfl⟩,rfl,(fun _ z=>nomatch z),by decide,rfl,rfl,(fun z=>nomatch z),List.nodup_nil,fun l=>⟨(fun z=>nomatch z),fun z=>nomatch z⟩⟩
theorem EC(hh:A.handled=none)(hl:s.heap.IsList l its)(hv:its.toList.length=ls.length/\∀(i:Nat) (v:Value),its[i]? = some v->∃x tk,v = .str x tk/\cs x=ls.getD i [])(hb:its.size+1<scanBound)
 (h:∀(h':Heap) (tk:Nat),SetTx P w h' s.heap.objs.size ls (!byT w)->(∀c o,c<s.heap.objs.size->s.heap.get? c=some o->h'.get? c=some o)->Q (.ref s.heap.objs.size) { s with heap:=h',toks:=tk }) :
 wpAny (model P w) A (call (.type "set") [.ref l]) Q E s:=by
 have lr:(Zj its.size).map (fun i=>ls.getD i [])=ls:=by
  have e:=hv.1;rw[xO]at e;rw[e];apply List.ext_getElem?;intro i;rw[List.getElem?_map];by_cases hi:i<ls.length
  ·rw[List.getElem?_range hi];simp[hi]
  ·rw[List.getElem?_eq_none (by simp;lia),List.getElem?_eq_none (by lia)];rfl
 obtain⟨c,tl,hmro⟩:=PySem.F.called_set.mro;have made:=PySem.F.called_set.made;have sub:=PySem.F.called_set.sub;refine wpAny_call (codeAny_of_tree ?_);show wpAny _ _ (callAny (.type "set") _) _ _ _;refine za ⟨XO _ (by decide +kernel),YU PySem.F.entry_type_call ?_⟩;rw[Around.under_plain (weight_type_call_type "set" [.ref l] []) rfl];have nt:=PySem.F.called_set.notType;have cc:=PySem.F.called_set.canCreate;have ct:=PySem.F.typeCall_set_1 (.ref l)
 repeat (any_goals (first|assumption|wp_step))
 refine YR (G_ (.ref l) (E:=E) (Q1:=fun ob s1=>ob = .ref s.heap.objs.size/\s1 = { s with heap:=s.heap.push (oJ w) }) ⟨rfl,rfl⟩) fun r s1 hr=>?_;cases r with
 |error e=>exact hr
 |ok fl=>
  cases fl with
  |ret ob=>
   obtain⟨rfl,rfl⟩:=hr;have gS:(s.heap.push (oJ w)).get? s.heap.objs.size=some (oJ w):=Heap.get?_push_size _ rfl;have ty:Shared.TypeIs { s with heap:=s.heap.push (oJ w) } (.ref s.heap.objs.size) "set":=⟨_,gS,rfl⟩;have li:=PySem.F.called_set.init.lookup;have bi:=PySem.F.called_set.init.bind (.ref s.heap.objs.size)
   repeat (any_goals (first|assumption|wp_step))
   refine YR (Xl (R:=wants (fun r s2=>r = .none/\∃h' tk,s2 = { s with heap:=h',toks:=tk }/\SetTx P w h' s.heap.objs.size ls (!byT w)/\(∀c o,c<s.heap.objs.size->s.heap.get? c=some o->h'.get? c=some o)) E) PySem.F.called_set.init.plain PySem.F.entry_set_init (check_set_init_1 ty ?_)) fun r2 s2 hr2=>?_
   ·obtain⟨ol,hol,hcl,nl,hdl⟩:=hl
    obtain⟨ocls,odict,odata,oslots⟩:=ol;simp only at hcl hdl;subst hcl;subst hdl;have hol2:(s.heap.push (oJ w)).get? l=some { cls:=.type "list",dict:=odict,data:=.seq its nl,slots:=oslots }:=Heap.get?_push_of_some _ hol;have sl1:=PySem.F.sub_list_set;have sl2:=PySem.F.sub_list_frozenset;have nd:(Yz "list" == Yz "dict")=false:=by decide
    have hl1:(s.heap.push (oJ w)).IsList l its:=⟨_,hol2,rfl,nl,rfl⟩;unfold Builtin.«set.__init__» noKeywords Builtin.Frozenset.updateFrom;generalize hPI:pyIter=PI
    wp_walk
    subst hPI;refine Xy hl1 (zm (wpAny_runValue ?_));have ll:l<s.heap.objs.size:=yr hol;have hh3:A.in1.in1.in1.handled=none:=by simp[hh]
    have nI:l≠(s.heap.push (oJ w)).objs.size:=by rw[Zq];exact xK (Yq ll)
    have nf:s.heap.objs.size∉[(s.heap.push (oJ w)).objs.size,l]:=by
     rw[Zq];intro z;rcases zG.mp z with z|z
     ·exact absurd z (xK (Xf _))
     ·exact absurd (zL.mp z) (Nat.ne_of_gt ll)
    refine Ht ((Walks.list hh3 _ l nI its).toS) s.heap.objs.size nf (fun i=>ls.getD i []) hv.2 hb (its.size-0) 0 _ (by lia) (ud _) ⟨⟨_,Heap.get?_push_size _ rfl,rfl,rfl⟩,hl1.push _⟩ (BR (Heap.get?_push_of_some _ gS)) ?_;intro s5 mv hS5;rw[lr]at hS5;obtain⟨h5,g5,d5,tk5,os5⟩:=s5;have eg:g5=s.gens:=mv.gens;have ed:d5=s.drawn:=mv.drawn;have eo:os5=s.os:=mv.os;subst eg;subst ed;subst eo;show wpAny _ _ _ _ _ _;refine za ?_;show wpAny _ _ (ret Zm) _ _ _;refine za ⟨rfl,h5,tk5,rfl,hS5,fun c o lc e=>?_⟩;refine mv.heap c o (fun z=>?_) (Heap.get?_push_of_some _ (Heap.get?_push_of_some _ e));rw[Zq]at z;rcases zG.mp z with z|z
    ·exact absurd z (xK lc)
    ·exact absurd (zL.mp z) (xK (Yq lc))
   ·cases r2 with
    |error e=>exact hr2
    |ok fl2=>
     cases fl2 with
     |ret r=>
      obtain⟨rfl,h5,tk,rfl,hS5,hk5⟩:=hr2
      repeat (any_goals (first|assumption|wp_step))
      exact h _ _ hS5 hk5
     |_=>exact hr2.elim
  |_=>exact hr.elim
end
theorem dS:Slot "set_iterator" "__next__" "set_iterator.__next__":=
 Slot.of (owner:="set_iterator") (n:="__next__") (by rw[typeLookup_type,builtinLookup_eq_fast];kernel_rfl) (by decide +kernel) (by decide +kernel) (by decide +kernel) (by first|exact .inr (by decide +kernel)|exact .inl (by decide +kernel)) (by rw[isSubtype_type];kernel_rfl)
theorem jX:entryFor table "set_iterator.__next__" = some Builtin.«set_iterator.__next__»:=entryFor_of_tree (by kernel_rfl)
theorem rQ:Manifest.owners.lookup (String.ofList "set_iterator".toList.reverse.reverse)=some Manifest.sig_set_iterator:=by kernel_rfl
theorem mo(a:Value):argsOk "set_iterator.__next__" ⟨[a],[]⟩:=by
 unfold argsOk;rw[signature?_of (id:="set_iterator.__next__") (n:="__next__".toList.reverse) (o:="set_iterator".toList.reverse) (by kernel_rfl) rQ];kernel_rfl
theorem A5:entryFor table "set.__iter__" = some Builtin.«frozenset.__iter__»:=
 entryFor_alias (id':="frozenset.__iter__") (by kernel_rfl) (by first|rfl|decide +kernel|(unfold String.splitOn;simp +decide [String.splitOnAux])) (by decide +kernel) (by kernel_rfl)
section
variable{P:Program}{w:World}{A:Around}{E:Value->Shared->Prop}{s:Shared}{a I:Addr}{o:Obj}{es:Array (Int × Value)}{ep i n:Nat}{t:SetTable}
abbrev SIt(h:Heap)(I:Addr)(f:Value)(i:Nat)(a:Addr)(n ep:Nat):Prop:=h.get? I=some { cls:=.type "set_iterator",data:=.fields #[f,.int i 0,.ref a,.int n 0,.int ep 0] }
theorem wx(n:Nat):¬ ((((n:Nat):Int) != ((n:Nat):Int))=true):=by simp
theorem wy(hh:A.handled=none)(q:∀h',Heap.ExtBut I h1 h'->Q none { s with heap:=h' }) :
 wpAny (model P w) A.in1 (newExc (.type "StopIteration") [] >>= fun e=>raiseNew e) (fun fin s'=>∃v,fin=Fin.done (Flow.ret v)/\wpAny (model P w) A (pure (some v)) Q E s')
  (fun e s'=>wpAny (model P w) A (do let b <- isInstance e (.type "StopIteration");if b=true then pure none else throw e) Q E s') { s with heap:=h1 }:=by
 refine zm ?_;simp only[newExc,newTuple];refine zm (pL ?_ (by size_fits));refine zm (m:=Xn _ _) (wpAny_of_eq (a:=Zm) (by first|rfl|(simp only[Xn];rfl)) (pL ?_ (by size_fits)));simp only[raiseNew];refine zm (wpAny_handled ?_);rw[show A.in1.handled=none from hh];refine zm (za (wpAny_throw ?_));exact zm (Xi (T:="StopIteration") (b:=true) ⟨_,Heap.get?_push_size _ rfl,rfl⟩ isSubtype_stop (za (q _ fun c o _ z=>Heap.get?_push_of_some _ (Heap.get?_push_of_some _ z))))
theorem wF{slot nx:Nat}{x:Value}{Q:Option Value->Shared->Prop}(hi:SIt s.heap I (.int slot 0) i a es.size ep)(ho:s.heap.get? a=some o)(hd:o.data = .set es ep t)(hf:t.fits es.size=true)
 (hn:∀(B:Around) (E1:Value->Shared->Prop) (Q1:Option (Value × Nat)->Shared->Prop),Q1 (some (x,nx)) s->wpAny (model P w) B (setNext a slot i ep) Q1 E1 s)
 (q:∀h',SIt h' I (.int nx 0) (i+1) a es.size ep->Yx I s.heap h'->Q (some x) { s with heap:=h' }):wpAny (model P w) A (pyNext (.ref I)) Q E s:=by
 have ty:s.TypeIs (.ref I) "set_iterator":=⟨_,hi,rfl⟩;unfold pyNext;refine zm (Yj (wpAny_callSpecial?_slot (name:=zI "__next__") ty dS (r6 dS ty jX ?_ (mo _))));unfold Builtin.«set_iterator.__next__»;refine zm (za (zm (Yg hi rfl ?_)));dsimp only;unfold setEntries;refine zm (zm (Zg ho hd hf (za ?_)));rw[if_neg (wx _)];refine zm (hn _ _ _ ?_);dsimp only;refine zm (Za hi (by simp) fun h1 g1 b1=>?_);refine zm (Za (s:={ s with heap:=h1 }) g1 (by simp) fun h2 g2 b2=>?_);exact za ⟨_,rfl,za (q _ g2 (b1.trans b2))⟩
theorem uC{slot:Nat}{Q:Option Value->Shared->Prop}(hh:A.handled=none)(hi:SIt s.heap I (.int slot 0) i a es.size ep)(ho:s.heap.get? a=some o)(hd:o.data = .set es ep t)(hf:t.fits es.size=true)
 (hn:∀(B:Around) (E1:Value->Shared->Prop) (Q1:Option (Value × Nat)->Shared->Prop),Q1 none s->wpAny (model P w) B (setNext a slot i ep) Q1 E1 s)
 (q:∀h',Heap.ExtBut I s.heap h'->Q none { s with heap:=h' }):wpAny (model P w) A (pyNext (.ref I)) Q E s:=by
 have ty:s.TypeIs (.ref I) "set_iterator":=⟨_,hi,rfl⟩;unfold pyNext;refine zm (Yj (wpAny_callSpecial?_slot (name:=zI "__next__") ty dS (r6 dS ty jX ?_ (mo _))));unfold Builtin.«set_iterator.__next__»;refine zm (za (zm (Yg hi rfl ?_)));dsimp only;unfold setEntries;refine zm (zm (Zg ho hd hf (za ?_)));rw[if_neg (wx _)];refine zm (hn _ _ _ ?_);dsimp only;refine zm (Za hi (by simp) fun h1 g1 b1=>?_);exact wy hh fun h' e=>q h' fun c o' m z=>e c o' m ((b1.2 c m).trans z)
theorem ze{T:Addr}{oT:Obj}{pl:Array Value}{k p:Nat}{u:Tok}{e:Int × Value}{Q:Option Value->Shared->Prop}(hi:SIt s.heap I (.ref T) i a es.size ep)(ho:s.heap.get? a=some o)(hd:o.data = .set es ep t)(hf:t.fits es.size=true)
 (hT:s.heap.get? T=some oT) (hTd:oT.data = .seq pl k) (hp:pl[i]? = some (.int (p:Nat) u)) (he:es[p]? = some e)
 (q:∀h',SIt h' I (.ref T) (i+1) a es.size ep->Yx I s.heap h'->Q (some e.2) { s with heap:=h' }):wpAny (model P w) A (pyNext (.ref I)) Q E s:=by
 have ty:s.TypeIs (.ref I) "set_iterator":=⟨_,hi,rfl⟩;unfold pyNext;refine zm (Yj (wpAny_callSpecial?_slot (name:=zI "__next__") ty dS (r6 dS ty jX ?_ (mo _))));unfold Builtin.«set_iterator.__next__»;refine zm (za (zm (Yg hi rfl ?_)));dsimp only;unfold setEntries;refine zm (zm (Zg ho hd hf (za ?_)));rw[if_neg (wx _)];refine zm (Yw hT hTd ?_);dsimp only;rw[ZU,hp];dsimp only;unfold setNextDrawn;refine zm (zm (Zg ho hd hf ?_));dsimp only;rw[ZU,if_neg (by simp),ZU,he];refine za ?_;refine zm (Za hi (by simp) fun h1 g1 b1=>?_);exact za ⟨_,rfl,za (q _ g1 b1)⟩
theorem C1{T:Addr}{oT:Obj}{pl:Array Value}{k:Nat}{Q:Option Value->Shared->Prop}(hh:A.handled=none)(hi:SIt s.heap I (.ref T) i a es.size ep)(ho:s.heap.get? a=some o)(hd:o.data = .set es ep t)(hf:t.fits es.size=true)
 (hT:s.heap.get? T=some oT) (hTd:oT.data = .seq pl k) (hp:pl[i]? = none)
 (q:∀h',Heap.ExtBut I s.heap h'->Q none { s with heap:=h' }):wpAny (model P w) A (pyNext (.ref I)) Q E s:=by
 have ty:s.TypeIs (.ref I) "set_iterator":=⟨_,hi,rfl⟩;unfold pyNext;refine zm (Yj (wpAny_callSpecial?_slot (name:=zI "__next__") ty dS (r6 dS ty jX ?_ (mo _))));unfold Builtin.«set_iterator.__next__»;refine zm (za (zm (Yg hi rfl ?_)));dsimp only;unfold setEntries;refine zm (zm (Zg ho hd hf (za ?_)));rw[if_neg (wx _)];refine zm (Yw hT hTd ?_);dsimp only;rw[ZU,hp];dsimp only;refine zm (Za hi (by simp) fun h1 g1 b1=>?_);refine zm (Za (s:={ s with heap:=h1 }) g1 (by simp) fun h2 g2 b2=>?_);exact wy hh fun h' e=>q h' fun c o' m z=>e c o' m ((b2.2 c m).trans ((b1.2 c m).trans z))
end
theorem l0{α:Type}:∀(l:List α) (i:Nat) (x:α),l[i]? = some x->(x::l.eraseIdx i).Perm l
 | [],i,x,h=>by simp at h
 |y::r,0,x,h=>by cases h;exact Xm _
 |y::r,i+1,x,h=>((List.Perm.swap y x _)).trans ((l0 r i x h).cons y)
theorem AD{α:Type}(l:List α)(i:Nat)(x:α)(h:l[i]? = some x):(l.eraseIdx i).length+1=l.length:=(l0 l i x h).length_eq
theorem vY{α:Type}(nx:Nat->Nat):∀(n k:Nat) (l:List α) (out:Array α),l.length=n->(XN.go nx n k l out).toList.Perm (out.toList++l)
 |0,k,l,out,e=>by
  have:l=[]:=List.length_eq_zero_iff.mp e;subst this;rw[Zh];exact Xm _
 |n+1,k,l,out,e=>by
  have lt:nx k % l.length<l.length:=Nat.mod_lt _ (by lia);have g:l[nx k % l.length]? = some l[nx k % l.length]:=List.getElem?_eq_getElem lt;unfold XN.go;rw[g];dsimp only;refine(vY nx n (k+1) _ _ (by have:=AD _ _ _ g;lia)).trans ?_;rw[Array.toList_push,YL];exact(l0 _ _ _ g).append_left _
section
variable{P:Program}{w:World}{A:Around}{E:Value->Shared->Prop}{s:Shared}{a I:Addr}{o:Obj}{es:Array (Int × Value)}{ep i n:Nat}{t:SetTable}
theorem vC(hn:n≠0)(h:∀i dr,i<n->Q i { s with drawn:=dr }):wpAny (model P w) A (choose src n) Q E s:=fun Γ p hΓ=>by
 unfold choose;rw[Sem.wp];refine⟨hn,?_⟩;rw[Sem.wp];exact h _ _ (Nat.mod_lt _ (Nat.pos_of_ne_zero hn))
theorem v9{α:Type}:∀(n:Nat) (xs:List α) (s:Shared) (Q:List α->Shared->Prop),xs.length=n->(∀ys dr,ys.Perm xs->Q ys { s with drawn:=dr })->wpAny (model P w) A (drawOrder n xs) Q E s
 |0,xs,s,Q,e,q=>by
  have:xs=[]:=List.length_eq_zero_iff.mp e;subst this;exact za (q [] s.drawn (Xm _))
 |n+1,[],s,Q,e,q=>by simp at e
 |n+1,y::r,s,Q,e,q=>by
  unfold drawOrder;refine zm (vC (by rw[e];lia) fun i dr lt=>?_);have g:(y::r)[i]? = some (y::r)[i]:=List.getElem?_eq_getElem lt;rw[g];dsimp only;refine zm (v9 n _ _ _ (by have:=AD _ _ _ g;lia) fun ys dr2 p=>za (q _ _ ((p.cons _).trans (l0 _ _ _ g))))
theorem iw(q:Q (byT w) s):wpAny (model P w) A setsByText Q E s:=by
 unfold setsByText;exact zm (wpAny_askSetting (za q))
theorem wq(hb:byT w=true)(ho:s.heap.get? a=some o)(hd:o.data = .set es ep t)(hf:t.fits es.size=true)
 (q:Q ((XN (w.params.setOrder a ep) es)[i]?.map fun e=>(e.2,slot)) s):wpAny (model P w) A (setNext a slot i ep) Q E s:=by
 unfold setNext;refine zm (Zg ho hd hf ?_);dsimp only;refine zm (iw ?_);rw[hb,if_pos rfl,if_neg (by simp)];refine zm ?_;unfold setWalk;refine zm (Zg ho hd hf ?_);dsimp only;refine zm (iw ?_);rw[hb,if_pos rfl];refine zm (wpAny_askSetting (za ?_));exact za q
theorem vF(hb:byT w=false)(hl:t.led=true)(h1:es.size<=1)(ho:s.heap.get? a=some o)(hd:o.data = .set es ep t)(hf:t.fits es.size=true)
 (q:Q (match es[Yd t.place slot]?,t.place[Yd t.place slot]? with|some (_,x),some j=>some (x,j+1)|_,_=>none) s):wpAny (model P w) A (setNext a slot i ep) Q E s:=by
 unfold setNext;refine zm (Zg ho hd hf ?_);dsimp only;refine zm (iw ?_);rw[hb,if_neg xa];show wpAny _ _ (if (!t.plain&&decide (es.size > 1))=true then _ else _) _ _ _;rw[if_neg (by simp;lia)];show wpAny _ _ ((if (!t.led && !es.isEmpty)=true then unsupported "set:maker-not-led" else pure ()) >>= _) _ _ _;rw[if_neg (by simp[hl])];exact zm (za (za q))
theorem vc(h1:es.size=1)(hf:t.fits es.size=true):∃j,t.place[Yd t.place 0]? = some j/\Yd t.place 0=0/\Yd t.place (j+1)=1:=by
 simp only[SetTable.fits,Zi,beq_iff_eq,decide_eq_true_eq]at hf;obtain⟨j,e⟩:=Array.size_eq_one_iff.mp (show t.place.size=1 by rw[hf.1,h1]);rw[e];refine⟨j,?_,?_,?_⟩ <;> simp[Yd,Yd.go]
end
theorem rR:Slot "set_iterator" "__iter__" "set_iterator.__iter__":=
 Slot.of (owner:="set_iterator") (n:="__iter__") (by rw[typeLookup_type,builtinLookup_eq_fast];kernel_rfl) (by decide +kernel) (by decide +kernel) (by decide +kernel) (by first|exact .inr (by decide +kernel)|exact .inl (by decide +kernel)) (by rw[isSubtype_type];kernel_rfl)
theorem yx:entryFor table "set_iterator.__iter__" = some Builtin.«dict_keyiterator.__iter__»:=
 entryFor_alias (id':="dict_keyiterator.__iter__") (by kernel_rfl) (by first|rfl|decide +kernel|(unfold String.splitOn;simp +decide [String.splitOnAux])) (by decide +kernel) (by kernel_rfl)
theorem Ae(a:Value):argsOk "set_iterator.__iter__" ⟨[a],[]⟩:=by
 unfold argsOk;rw[signature?_of (id:="set_iterator.__iter__") (n:="__iter__".toList.reverse) (o:="set_iterator".toList.reverse) (by kernel_rfl) rQ];kernel_rfl
section
variable{P:Program}{w:World}{A:Around}{E:Value->Shared->Prop}{s:Shared}{a I:Addr}{o:Obj}{es:Array (Int × Value)}{ep i n:Nat}{t:SetTable}
theorem l6(hi:SIt s.heap I f i a n ep)(h:Q (.ref I) s):wpAny (model P w) A (pyIter (.ref I)) Q E s:=by
 have ty:s.TypeIs (.ref I) "set_iterator":=⟨_,hi,rfl⟩;refine wpAny_pyIter_slot ty rR (r6 rR ty yx ?_ (Ae _));show wpAny _ _ (ret (.ref I)) _ _ s;exact za ⟨_,rfl,"set_iterator",_,ty,dS.lookup,h⟩
theorem FM(hb:byT w=true)(hh:A.handled=none)(ne:a≠I)(hd:o.data = .set es ep t)(hf:t.fits es.size=true)(vs:List Value)(hv:vs=(XN (w.params.setOrder a ep) es).toList.map fun e=>e.2)(hn:vs.length=es.size) :
 Walks P w A I [I,a] [I] es.size (fun i v=>vs[i]? = some v) (fun i h=>SIt h I (.int (0:Nat) 0) i a es.size ep/\h.get? a=some o) where
 sub:=fun b hb=>by rw[zL.mp hb];exact .head _
 frame:=fun _ _ _ st hk=>⟨hk I (.head _) _ st.1,hk a (.tail _ (.head _)) _ st.2⟩
 item:=fun i s Q E hi st q=>by
  have lt:i<(XN (w.params.setOrder a ep) es).size:=by rw[hv,zK,xO]at hn;lia
  have g:(XN (w.params.setOrder a ep) es)[i]? = some (XN (w.params.setOrder a ep) es)[i]:=Array.getElem?_eq_getElem lt;refine wF (x:=(XN (w.params.setOrder a ep) es)[i].2) (nx:=0) st.1 st.2 hd hf (fun B E1 Q1 q1=>wq hb st.2 hd hf (by rw[g];exact q1)) fun h' g' b=>q _ h' s.toks ?_ ⟨g',(b.2 a ne).trans st.2⟩ fun c o hc z=>(b.2 c fun y=>hc (by rw[y];exact .head _)).trans z;rw[hv,List.getElem?_map,Array.getElem?_toList,g];rfl
 done:=fun s Q E st q=>by
  have g:(XN (w.params.setOrder a ep) es)[es.size]? = none:=Array.getElem?_eq_none (by rw[hv,zK,xO]at hn;lia);exact uC hh st.1 st.2 hd hf (fun B E1 Q1 q1=>wq hb st.2 hd hf (by rw[g];exact q1)) fun h' b=>q h' s.toks fun c o hc z=>b c o (fun y=>hc (by rw[y];exact .head _)) z
 self:=fun _ _ _ _ st q=>l6 st.1 q
theorem Gg{T:Addr}{oT:Obj}{pl:Array Value}{k:Nat}(hh:A.handled=none)(ne:a≠I)(nT:T≠I)(hd:o.data = .set es ep t)(hf:t.fits es.size=true)(hTd:oT.data = .seq pl k)(ps:List Nat)(hp:pl=(ps.map fun(i:Nat)=>rawInt i).toArray)(hn:ps.length=es.size)(hm:∀p∈ps,p<es.size) :
 Walks P w A I [I,T,a] [I] es.size (fun i v=>(ps.map fun p=>(es.getD p (0,.none)).2)[i]? = some v) (fun i h=>SIt h I (.ref T) i a es.size ep/\h.get? T=some oT/\h.get? a=some o) where
 sub:=fun b hb=>by rw[zL.mp hb];exact .head _
 frame:=fun _ _ _ st hk=>⟨hk I (.head _) _ st.1,hk T (.tail _ (.head _)) _ st.2.1,hk a (.tail _ (.tail _ (.head _))) _ st.2.2⟩
 item:=fun i s Q E hi st q=>by
  have g:ps[i]? = some (ps[i]'(by lia)):=List.getElem?_eq_getElem _;have lt:=hm _ (YB (l:=ps) (n:=i) (by lia));have g2:es[ps[i]'(by lia)]? = some (es[ps[i]'(by lia)]):=Array.getElem?_eq_getElem lt;refine ze st.1 st.2.2 hd hf st.2.1 hTd (p:=ps[i]'(by lia)) (u:=0) (by rw[hp,List.getElem?_toArray,List.getElem?_map,g];rfl) g2 fun h' g' b=>q _ h' s.toks ?_ ⟨g',(b.2 T nT).trans st.2.1,(b.2 a ne).trans st.2.2⟩ fun c o hc z=>(b.2 c fun y=>hc (by rw[y];exact .head _)).trans z;rw[List.getElem?_map,g];simp[Array.getD,lt]
 done:=fun s Q E st q=>C1 hh st.1 st.2.2 hd hf st.2.1 hTd (by rw[hp,List.getElem?_toArray,List.getElem?_eq_none (by rw[zK];lia)]) fun h' b=>q h' s.toks fun c o hc z=>b c o (fun y=>hc (by rw[y];exact .head _)) z
 self:=fun _ _ _ _ st q=>l6 st.1 q
theorem F4(hb:byT w=false)(hl:t.led=true)(h1:es.size<=1)(hh:A.handled=none)(ne:a≠I)(hd:o.data = .set es ep t)(hf:t.fits es.size=true) :
 ∃g:Nat->Nat,g 0=0/\Walks P w A I [I,a] [I] es.size (fun i v=>(es.toList.map fun e=>e.2)[i]? = some v) (fun i h=>SIt h I (.int (g i) 0) i a es.size ep/\h.get? a=some o):=by
 by_cases h0:es.size=0
 ·refine⟨fun _=>0,rfl,?_,?_,?_,?_,?_⟩
  ·exact fun b hb=>by rw[zL.mp hb];exact .head _
  ·exact fun _ _ _ st hk=>⟨hk I (.head _) _ st.1,hk a (.tail _ (.head _)) _ st.2⟩
  ·exact fun i s Q E hi=>by lia
  ·intro s Q E st q
   refine uC hh st.1 st.2 hd hf (fun B E1 Q1 q1=>vF hb hl h1 st.2 hd hf ?_) fun h' b=>q h' s.toks fun c o hc z=>b c o (fun y=>hc (by rw[y];exact .head _)) z;rw[Array.getElem?_eq_none (by lia)];exact q1
  ·exact fun _ _ _ _ st q=>l6 st.1 q
 ·have e1:es.size=1:=by lia
  obtain⟨j,gj,b0,b1⟩:=vc e1 hf;obtain⟨x,ex⟩:=Array.size_eq_one_iff.mp e1;refine⟨fun i=>if i=0 then 0 else j+1,rfl,?_,?_,?_,?_,?_⟩
  ·exact fun b hb=>by rw[zL.mp hb];exact .head _
  ·exact fun _ _ _ st hk=>⟨hk I (.head _) _ st.1,hk a (.tail _ (.head _)) _ st.2⟩
  ·intro i s Q E hi st q
   obtain rfl:i=0:=by lia
   refine wF (x:=x.2) (nx:=j+1) st.1 st.2 hd hf (fun B E1 Q1 q1=>vF hb hl h1 st.2 hd hf ?_) fun h' g' b=>q _ h' s.toks ?_ ⟨g',(b.2 a ne).trans st.2⟩ fun c o hc z=>(b.2 c fun y=>hc (by rw[y];exact .head _)).trans z
   ·show Q1 (match es[Yd t.place 0]?,t.place[Yd t.place 0]? with|some (_,x),some j=>some (x,j+1)|_,_=>none) s
    rw[gj,b0,ex];exact q1
   ·rw[ex];rfl
  ·intro s Q E st q
   rw[e1]at st;refine uC (slot:=j+1) (i:=1) hh (by rw[e1];exact st.1) st.2 hd hf (fun B E1 Q1 q1=>vF hb hl h1 st.2 hd hf ?_) fun h' b=>q h' s.toks fun c o hc z=>b c o (fun y=>hc (by rw[y];exact .head _)) z;rw[b1,Array.getElem?_eq_none (by lia)];exact q1
  ·exact fun _ _ _ _ st q=>l6 st.1 q
end
theorem B3{α:Type}(d:α)(es:Array α):((Zj es.size).map fun p=>es.getD p d)=es.toList:=by
 apply List.ext_getElem?;intro i;rw[List.getElem?_map];by_cases h:i<es.size
 ·rw[List.getElem?_range h,List.getElem?_eq_getElem (by rw[xO];exact h)];simp[Array.getD,h]
 ·rw[List.getElem?_eq_none (by simp;lia),List.getElem?_eq_none (by rw[xO];lia)];rfl
section
variable{P:Program}{w:World}{A:Around}{E:Value->Shared->Prop}{s:Shared}{a:Addr}{ls:List (List Nat)}
def Seen(ls:List (List Nat))(vs:List Value):Prop:=(∀v∈vs,IsS v)/\(vs.map fI).Nodup/\(∀l,l∈vs.map fI↔l∈ls)/\vs.length<scanBound
theorem Seen.of{vs:List Value}{es:Array (Int × Value)}(p:vs.Perm (es.toList.map fun e=>e.2))(hel:ElemsOf (skd P w) es.toList)(hb:es.size<scanBound)(nd:(es.toList.map fun e=>fI e.2).Nodup)(hm:∀l,l∈es.toList.map (fun e=>fI e.2)↔l∈ls):Seen ls vs:=by
 have pm:(vs.map fI).Perm (es.toList.map fun e=>fI e.2):=by
  have:=p.map fI
  rwa [ug]at this
 refine⟨fun v m=>?_,pm.nodup_iff.mpr nd,fun l=>pm.mem_iff.trans (hm l),?_⟩
 ·obtain⟨e,me,rfl⟩:=yH.mp (p.mem_iff.mp m)
  exact zO hel me
 ·rw[p.length_eq,zK,xO];exact hb
theorem Ep(hh:A.handled=none)(x:SetTx P w s.heap a ls (!byT w))
 (q:∀(h':Heap) dr (I:Addr) (fp:List Addr) (n:Nat) (vs:List Value) (St:Nat->Heap->Prop),s.heap.objs.size<=I->(∀b∈fp,b=a\/s.heap.objs.size<=b)->(∀b o,s.heap.get? b=some o->h'.get? b=some o)->Walks P w A I fp [I] n (fun i v=>vs[i]? = some v) St->St 0 h'->vs.length=n->Seen ls vs->Q (.ref I) { s with heap:=h',drawn:=dr }) :
 wpAny (model P w) A (pyIter (.ref a)) Q E s:=by
 obtain⟨o,es,ep,t,ho,hex,hd,hel,hb,hf,hld,hpl,hnd,hmem⟩:=x;have ty:s.TypeIs (.ref a) "set":=⟨o,ho,hex.1⟩;have la:=yr ho;refine wpAny_pyIter_slot ty F.slot_set_iter (r6 F.slot_set_iter ty A5 ?_ (F.args_set_iter_1 _));unfold Builtin.«frozenset.__iter__»;refine zm ?_;show wpAny _ _ (pure a) _ _ _;refine za ?_;unfold Builtin.Frozenset.sizeOf setEntries setEpoch;refine zm (zm (zm (Zg ho hd hf (za (za ?_)))));unfold setDrawn;refine zm (zm (Zg ho hd hf ?_));dsimp only;refine zm (iw (za ?_));show wpAny _ _ (if (!byT w&&(!t.plain&&decide (es.size > 1)))=true then _ else _) _ _ _;by_cases c:(!byT w&&(!t.plain&&decide (es.size > 1)))=true
 ·rw[if_pos c]
  refine zm (v9 _ _ _ _ Xv fun ps dr pm=>zm (wpAny_newTuple ?_ (by rw[zK,pm.length_eq,Xv];exact fits_of_scanBound hb)));refine zm (zm (Zg (Heap.get?_push_of_some _ ho) hd hf (za ?_)));refine zm (pL (za ⟨_,rfl,"set_iterator",_,⟨_,Heap.get?_push_size _ rfl,rfl⟩,dS.lookup,?_⟩));have len:ps.length=es.size:=by rw[pm.length_eq,Xv]
  refine q _ dr _ _ es.size _ _ (by rw[Zq];exact Z6 _) (fun b m=>?_) (fun b o' e=>Heap.get?_push_of_some _ (Heap.get?_push_of_some _ e)) (Gg hh (xK (by rw[Zq];exact Yq la)) (T:=s.heap.objs.size) (xK (by rw[Zq];exact Xf _)) hd hf rfl ps rfl len fun p m=>List.mem_range.mp (pm.mem_iff.mp m)) ⟨Heap.get?_push_size _ rfl,Heap.get?_push_of_some _ (Heap.get?_push_size _ rfl),Heap.get?_push_of_some _ (Heap.get?_push_of_some _ ho)⟩ (by rw[zK];exact len) (Seen.of ?_ hel hb hnd hmem)
  ·rcases zG.mp m with e|m
   ·rw[e,Zq];exact .inr (Z6 _)
   ·rcases zG.mp m with e|m
    ·rw[e];exact .inr (z4 _)
    ·exact .inl (zL.mp m)
  ·have:=(pm.map fun p=>(es.getD p (0,Zm))).map fun e:Int × Value=>e.2
   rw[B3,ug]at this;exact this
 ·rw[if_neg c]
  refine zm (za ?_);refine zm (zm (Zg ho hd hf (za ?_)));refine zm (pL (za ⟨_,rfl,"set_iterator",_,⟨_,Heap.get?_push_size _ rfl,rfl⟩,dS.lookup,?_⟩));have mm:∀b∈[s.heap.objs.size,a],b=a\/s.heap.objs.size<=b:=fun b m=>by
   rcases zG.mp m with e|m
   ·rw[e];exact .inr (z4 _)
   ·exact .inl (zL.mp m)
  cases cb:byT w with
  |true=>
   have pm:((XN (w.params.setOrder a ep) es).toList.map fun e=>e.2).Perm (es.toList.map fun e=>e.2):=(vY _ _ 0 _ #[] (xO)).map fun e:Int × Value=>e.2;have len:((XN (w.params.setOrder a ep) es).toList.map fun e=>e.2).length=es.size:=by rw[pm.length_eq,zK,xO]
   exact q _ s.drawn _ _ es.size _ _ (z4 _) mm (fun b o' e=>Heap.get?_push_of_some _ e) (FM cb hh (xK la) hd hf _ rfl len) ⟨Heap.get?_push_size _ rfl,Heap.get?_push_of_some _ ho⟩ len (Seen.of pm hel hb hnd hmem)
  |false=>
   rw[cb]at hld c;have h1:es.size<=1:=by
    by_cases z:es.size<=1
    ·exact z
    ·exact absurd (by rw[hpl (by lia)];simp;lia) c
   obtain⟨g,g0,W⟩:=F4 (A:=A) (I:=s.heap.objs.size) (P:=P) (a:=a) (o:=o) cb hld h1 hh (xK la) hd hf;exact q _ s.drawn _ _ es.size _ _ (z4 _) mm (fun b o' e=>Heap.get?_push_of_some _ e) W ⟨by rw[g0];exact Heap.get?_push_size _ rfl,Heap.get?_push_of_some _ ho⟩ (by rw[zK,xO]) (Seen.of (Xm _) hel hb hnd hmem)
end
section
variable{P:Program}{w:World}{A:Around}{E:Value->Shared->Prop}{s:Shared}{a:Addr}{ls:List (List Nat)}
theorem EQ(ty:s.TypeIs (.ref a) "set")(q:Q false s):wpAny (model P w) A (Builtin.List.listLengthHint (.ref a)) Q E s:=by
 unfold Builtin.List.listLengthHint;refine zm (wpAny_specialOf ty F.slot_set_len.lookup ?_);generalize z:("set.__len__":String)=nm
 wp_delta
 rw[show splitId nm=some ("set","__len__") from by subst z;decide +kernel];subst z;refine zm (Xi (T:="set") (b:=true) ty (by rw[isSubtype_type];kernel_rfl) ?_);refine wpAny_ite_split (fun y=>absurd y (by decide)) fun _=>?_;refine wpAny_ite_split (fun _=>?_) fun y=>absurd (by decide +kernel) y;exact zm (wpAny_typeOf ty (za q))
theorem H_{R:Result->Shared->Prop}{S:Addr}{res:Value}{c:Nat}(hh:A.handled=none)(x:SetTx P w s.heap a ls (!byT w))(ne:S≠a)(hS:s.heap.get? S=some { cls:=.type "list",data:=.seq #[] c })
 (q:∀h' dr tk acc' c',(∀b o,b≠S->s.heap.get? b=some o->h'.get? b=some o)->h'.get? S=some { cls:=.type "list",dict:=none,data:=.seq acc' c',slots:=#[] }->Seen ls acc'.toList->R (.ok (.ret res)) { s with heap:=h',drawn:=dr,toks:=tk }) :
 wpAny (model P w) A.in1 (Xr (.ref S) (.ref a) res) (fun fin s'=>match fin with | .done f=>R (.ok f) s' | .again c'=>c'.quiet=true/\codeAny (model P w) A c' R s') (fun e s'=>R (.error e) s') s:=by
 have lS:=yr hS;have ty:∀(s2:Shared),(∀b o,s.heap.get? b=some o->s2.heap.get? b=some o)->s2.TypeIs (.ref a) "set":=fun s2 k=>by
  obtain⟨o,es,ep,t,ho,hex,_⟩:=x;exact⟨o,k _ _ ho,hex.1⟩
 unfold Xr;refine zm (wpAny_typeOf (T:="set") (ty s fun _ _ e=>e) ?_);have e1:Builtin.List.listSameRef (.ref S) (.ref a)=false:=by simp[Builtin.List.listSameRef,ne]
 have e2:(Yz "set" == Yz "list")=false:=by decide
 have e3:(Yz "set" == Yz "tuple")=false:=by decide
 simp only[e1,e2,e3,Bool.or_false,sY,if_false];refine zm (Ep (A:=A.in1) hh x fun h1 dr I fp n vs St lI hfp kp W st hn sn=>?_);have nS:S∉fp:=fun m=>by
  rcases hfp S m with e|e
  ·exact ne e
  ·exact absurd lS (Nat.not_lt.mpr e)
 have hn2:n<=sizeLine:=by rw[<- hn];exact fits_of_scanBound sn.2.2.2
 have fin:∀(h:Heap) (c1 tk:Nat),St 0 h->(∀b o,b≠S->s.heap.get? b=some o->h.get? b=some o)->h.get? S=some { cls:=.type "list",data:=.seq #[] c1 } ->
  codeAny (model P w) A (.builtin "list.extend.loop" ⟨[.ref S,.ref I,res],[]⟩) R { s with heap:=h,drawn:=dr,toks:=tk }:=fun h c1 tk st1 k1 g1=>by
  refine codeAny_extend_loopS W.toS hn2 S nS res n 0 _ #[] c1 rfl (ud _) st1 g1 (ItemsOf.nil _) fun s' acc c' mv g2 it=>?_;rw[Moved.eq_with mv];have ev:acc.toList=vs:=by
   apply List.ext_getElem?;intro i;by_cases hi:i<n
   ·have y:acc.toList[i]? = some (acc.toList[i]'(by rw[xO];have:=it.1;lia)):=List.getElem?_eq_getElem _
    rw[y];exact(it.2 i _ (by rw[<- Array.getElem?_toList];exact y)).symm
   ·rw[List.getElem?_eq_none (by rw[xO,it.1];lia),List.getElem?_eq_none (by lia)]
  refine q s'.heap dr s'.toks acc c' (fun b o hb e=>mv.heap b o (fun m=>?_) (k1 b o hb e)) g2 (by rw[ev];exact sn);rcases zG.mp m with m|m
  ·exact hb m
  ·have:=yr e
   rw[zL.mp m]at this;exact absurd this (Nat.not_lt.mpr lI)
 have g1:=kp _ _ hS;refine zm (Ze (EQ (ty _ kp) ?_));refine wpAny_ite_split (fun _=>?_) fun _=>za ⟨plainId_quiet PySem.F.plain_extend_loop _,fin _ c _ st (fun b o _ e=>kp b o e) g1⟩;refine zm (Yo (zm ?_));show wpAny _ _ (updateSeq S (·.push .none) >>= fun _=>updateSeq S (·.pop)) _ _ _;refine zm (wpAny_updateSeq g1 rfl ?_);have g2:=Heap.get?_update_self (Zb (·.push Zm)) g1 rfl;refine wpAny_updateSeq (hz:=by seq_fits) g2 rfl ?_;have g3:=Heap.get?_update_self (Zb (·.pop)) g2 rfl;have ot:∀b o,b≠S->h1.get? b=some o->((h1.update S (Zb (·.push Zm))).update S (Zb (·.pop))).get? b=some o:=fun b o hb e=>(Heap.get?_update_other _ _ (Ne.symm hb)).trans ((Heap.get?_update_other _ _ (Ne.symm hb)).trans e);exact za ⟨plainId_quiet PySem.F.plain_extend_loop _,fin _ _ _ (W.frame 0 _ _ st fun b hb o e=>ot b o (fun y=>nS (y ▸ hb)) e) (fun b o hb e=>ot b o hb (kp b o e)) g3⟩
theorem GY{R:List Value->Shared->Prop}(hh:A.handled=none)(x:SetTx P w s.heap a ls (!byT w))
 (q:∀(h':Heap) dr (tk:Nat) (vs:List Value),(∀b o,s.heap.get? b=some o->h'.get? b=some o)->Seen ls vs->R vs { s with heap:=h',drawn:=dr,toks:=tk }) :
 wpAny (model P w) A (collect (.ref a)) R E s:=by
 have la:a<s.heap.objs.size:=by obtain⟨o,_,_,_,ho,_⟩:=x;exact yr ho
 unfold collect;refine zm (wpAny_runValue (YU entry_proto_collect' ?_));rw[YI PySem.F.plain_proto_collect _];show wpAny _ A.in1 (newList [] >>= fun l=>again (.builtin "list.__iadd__" ⟨[l,.ref a],[]⟩)) _ _ s;refine zm (pL (za ⟨plainId_quiet PySem.F.plain_list_iadd _,YU entry_list_iadd' ?_⟩));rw[YI PySem.F.plain_list_iadd _];show wpAny _ A.in1 (Xr (.ref s.heap.objs.size) (.ref a) (.ref s.heap.objs.size)) _ _ _;refine qN (H_ (A:=A) (c:=0) (s:={ s with heap:=s.heap.push { cls:=.type "list",data:=.seq ([]:List Value).toArray } })
  (R:=fun(r:Result) (s':Shared)=>∃h' dr tk acc c',r = .ok (.ret (.ref s.heap.objs.size))/\s' = { s with heap:=h',drawn:=dr,toks:=tk }/\(∀b o,s.heap.get? b=some o->h'.get? b=some o)/\h'.get? s.heap.objs.size=some { cls:=.type "list",dict:=none,data:=.seq acc c',slots:=#[] }/\Seen ls acc.toList)
  (S:=s.heap.objs.size) (res:=.ref s.heap.objs.size) hh (x.mv fun o e=>Heap.get?_push_of_some _ e) (Nat.ne_of_gt la) (Heap.get?_push_size _ rfl) fun h' dr tk acc c' k g sn=>⟨h',dr,tk,acc,c',rfl,rfl,fun b o e=>k b o (xK (yr e)) (Heap.get?_push_of_some _ e),g,sn⟩) (fun fin s' y=>?_) fun e s' y=>?_
 ·cases fin with
  |done f=>
   obtain⟨h',dr,tk,acc,c',e,rfl,k,g,sn⟩:=y;cases e;exact zm (wpAny_load g (za (q h' dr tk acc.toList k sn)))
  |again c1=>
   refine⟨y.1,YR y.2 fun r s2 z=>?_⟩;obtain⟨h',dr,tk,acc,c',rfl,rfl,k,g,sn⟩:=z;exact zm (wpAny_load g (za (q h' dr tk acc.toList k sn)))
 ·obtain⟨_,_,_,_,_,z,_⟩:=y
  cases z
end
end L2
namespace L2
open PySem PySem.Spec PyProof.Rows
section
variable{X:Cx}{x y:Str}{p p2 pos pos2:Pos}{e:Expr}{te:TE}{pins:List (Addr × Obj)}{σ:St}{H:Hp}{s:Shared}
theorem Inv.drw{dr}(I:Inv X pins σ H s):Inv X pins σ H { s with drawn:=dr }:=⟨I.ok,I.os,I.bare,I.base,I.loc,I.cell,I.free,I.freeC,I.pin,I.hok,I.len⟩
def Gz(K:W.Frag)(v:V)(H:Hp)(Q:VK):Prop:=∃(p:Addr) (ls:List (List Nat)),v = .ref p/\SqL K H p (ls.map T)/\ls.length<4000/\(∀ds:List (List Nat),ds.Nodup->(∀l∈ds,l∈ls)->ds.length<64)/\∀out:List (List Nat),InO out->out.Nodup->(∀l,l∈out↔l∈ls)->∀l,H l=none->Q (.ref l) (upd H l (.lst (out.map T)))
def Gx(K:W.Frag)(te:TE):TE:=fun σ H Q=>te σ H fun v H1=>Gz K v H1 Q
theorem tT:∀ {ls:List (List Nat)} {its:List Value},Vals (ls.map T) its->∀(i:Nat) (v:Value),its[i]? = some v->∃x tk,v = .str x tk/\cs x=ls.getD i []
 | [],[],_,i,v,e=>by simp at e
 |l::ls,u::us,.cons r r2,0,v,e=>by
  cases e;obtain⟨tk,z⟩:=r;exact⟨_,tk,z,rfl⟩
 |l::ls,u::us,.cons r r2,i+1,v,e=>tT r2 i v e
theorem u9(K:W.Frag)(hc:X.calm=true)(hg:Gl X x)(hm:X.mg x=none)(hv:qK x=some (.builtin "sorted"))(hg2:Gl X y)(hm2:X.mg y=none)(hv2:qK y=some (.type "set"))(he:PE X e te)
 (hn:x ≠ "__name__":=by decide) (hdb:(x==("__debug__":Str))=false:=by decide) (hn2:y ≠ "__name__":=by decide) (hdb2:(y==("__debug__":Str))=false:=by decide) (hK:X.K=K:=by rfl)
 (hs:starEach [e] X.env=[(false,eval e X.env)]:=by rfl) (hs2:starEach [.Call (.Name y p2) [e] [] pos2] X.env=[(false,eval (.Call (.Name y p2) [e] [] pos2) X.env)]:=by rfl) :
 PE X (.Call (.Name x p) [.Call (.Name y p2) [e] [] pos2] [] pos) (Gx K te):=by
 subst hK;intro pins s σ H Q I h;refine Yy (gU I hg hm hv ?_ hn hdb);rw[hs2];refine PySem.Calls.callWith_builtin rfl (ZB (ZE ?_));refine Yy (gU I hg2 hm2 hv2 ?_ hn2 hdb2);rw[hs];refine PySem.callWith_type rfl (ZB (ZE (thn (he pins s σ H _ I h) fun u s1 ⟨v,H1,I1,r1,q1⟩=>YK ?_)));obtain⟨p,ls,rfl,hq,h4,h64,q⟩:=q1;cases (show u=yy p from r1);obtain⟨its,r',pl,hz⟩:=I1.list hq;have hd:X.A.handled=none:=I1.ok.hd hc;have ln:its.length=ls.length:=by have:=r'.length;rw[zK]at this;lia
 refine EC (its:=its.toArray) (ls:=ls) hd pl.isList ⟨ln,fun i v e=>tT r' i v (by simpa using e)⟩ (by rw[yg,ln];exact Nat.lt_trans (Nat.succ_lt_succ h4) (by decide)) fun h1 tk hS kp=>?_;have I2:Inv X pins σ H1 { s1 with heap:=h1,toks:=tk }:=I1.kept fun b o e=>kp b o (yr e) e;refine YK ?_;refine Xe kind_sorted plain_sorted entry_sorted (args_sorted1 _) ?_;unfold Builtin.«sorted»;refine zm (m:=checkCount "sorted" 1 1 _) (za ?_);refine zm (GY (A:=X.A.in1) hd hS fun h2 dr tk2 vs kp2 sn=>?_);obtain⟨hv,nd,mm,sb⟩:=sn;obtain⟨ss,hSs⟩:=tU hv;have len2:vs.length<64:=by have:=h64 (vs.map fI) nd fun l m=>(mm l).mp m;rwa [zK]at this
 refine zm (wpAny_newList ?_);have hoL:(h2.push (seqObj "list" vs.toArray 0)).get? h2.objs.size=some (seqObj "list" vs.toArray 0):=Heap.get?_push_size _ rfl;refine zm (Ze (r6 slot_list_sort ⟨_,hoL,rfl⟩ entry_list_sort (list_sort_treeK strKind_oneLt hoL hSs.keysOf (fun v₁ v₂ rest e=>keyKind_strs (by rw[<- e];exact hSs)) len2 fun st' hp hs=>⟨_,rfl,?_⟩) (args_list_sort _)));refine za ⟨_,rfl,?_⟩;obtain⟨p1,o1⟩:=C8 hv hp hs;generalize hout:(arrOf st').map (·.2)=out at p1 o1;obtain⟨c,ea⟩:=sortedHeap_at (out:=out) hoL;have I3:Inv X pins σ H1 { s1 with heap:=h2,toks:=tk2,drawn:=dr }:=(I2.drw (dr:=dr)).kept kp2;have kp3:∀b o,h2.get? b=some o->(sortedHeap (h2.push (seqObj "list" vs.toArray 0)) h2.objs.size vs out).get? b=some o:=fun b o e=>by
  have l1:=yr e;rw[sortedHeap_old (xK l1) (by rw[size_push'];exact Yq l1),Heap.get?_push_ne _ _ _ (xK l1)];exact e
 have hv2:∀v∈out.toList,IsS v:=fun v m=>hv v (p1.mem_iff.mp m);have pm:(out.toList.map fI).Perm (vs.map fI):=p1.map fI;refine⟨.ref h2.objs.size,_,I3.laid (t':=tk2) (a:=h2.objs.size) kp3 (z4 _) (show ObjOk X.prog X.w _ _ _ (.lst ((out.toList.map fI).map T)) from⟨?_,out.toList,c,rG hv2,by rw[Array.toArray_toList];exact ea⟩),rfl,q _ o1 (pm.nodup_iff.mpr nd) (fun l=>pm.mem_iff.trans (mm l)) _ (I3.hok.fresh (z4 _))⟩;rw[zK,pm.length_eq,zK,uS];lia
end
section
variable{prog:Program}{w:World}{A:Around}{E:Value->Shared->Prop}{s:Shared}
end
section
variable{X:Cx}{tg:Expr}
end
section
variable{X:Cx}{CX:CXT}{k:Nat}{f e:Addr}{fd:FuncData}{ps:List Str}{sp:Sp}{dvs:List V}{ds:List Value}{E:XKs}{x:Str}{p pos:Pos}{e1:Expr}{es:List Expr}{t:TA}
end
abbrev oF:List Value:=[.type "ValueError",.type "Exception",.type "BaseException",.type "object"]
def okTail:List Value->Bool
 | .ref _::r=>okTail r
 |l=>l==oF
theorem okTail.has:∀ {l:List Value},okTail l=true->l.contains (.type "object")=true/\l.isEmpty=false/\∀self:Value,refuseLoop self "__setattr__" l=pure ()
 | [],e=>by cases e
 | .ref c::r,e=>by
  obtain⟨h1,_,h3⟩:=okTail.has (l:=r) e;exact⟨by rw[List.contains_cons,h1,Bool.or_true],rfl,fun self=>(refuseLoop_ref self _ c r).trans (h3 self)⟩
 | .type n::r,e=>by
  have e2:Yz n::r=oF:=beq_iff_eq.mp e;rw[e2];exact⟨by decide,rfl,fun self=>PySem.F.store_ValueError.passes self⟩
 | .none::r,e=>absurd (beq_iff_eq.mp (show(Zm::r==oF)=true from e)) (by simp)
 | .bool b::r,e=>absurd (beq_iff_eq.mp (show(Value.bool b::r==oF)=true from e)) (by simp)
 | .int i t::r,e=>absurd (beq_iff_eq.mp (show(Value.int i t::r==oF)=true from e)) (by simp)
 | .str i t::r,e=>absurd (beq_iff_eq.mp (show(Z9 i t::r==oF)=true from e)) (by simp)
 | .builtin i::r,e=>absurd (beq_iff_eq.mp (show(XY i::r==oF)=true from e)) (by simp)
section
variable{prog:Program}{w:World}{A:Around}{E:Value->Shared->Prop}{s:Shared}{K:W.Frag}{x C:Addr}{name:Str}{v:Value}
def rh(K:W.Frag)(C:Addr):Bool:=(PySem.W.clsIn K C).any fun cd=>okTail cd.mro
open Builtin Builtin.ObjectAttr
theorem Cj(X:K.In s.heap)(J:PySem.W.InstAt s.heap x ox C none)(hp:rh K C=true)(ht:u7 K (.ref C) name=some none)
 (h:wpAny (model prog w) A.in1 (storeInOwnDict (.ref x) (.ref C) (.str name tk) name v false)
  (fun fin s'=>match fin with | .done f=>R (.ok f) s' | .again c'=>c'.quiet=true/\codeAny (model prog w) A c' R s') (fun e s'=>R (.error e) s') s) :
 codeAny (model prog w) A (.call (.builtin "object.__setattr__") ⟨[.ref x,.str name tk,v],[]⟩) R s:=by
 obtain⟨cd,hc,ok⟩:=PySem.W.any_some hp;obtain⟨o1,o2,o3⟩:=okTail.has ok;have e1:YG K C (.type "object")=some true:=by unfold YG;rw[hc];show(if _ then _ else _)=_;rw[o2,o1];rfl
 have mro:PySem.W.Looks (model prog w) s.heap (mroOf (.ref C)) cd.mro:=(PySem.W.looks_clsIn X hc).andThen .now;have L3:PySem.W.Looks (model prog w) s.heap (storeTaker? none) none:=.now;have F:=PySem.F.store_object;refine Xl F.slot.plain F.entry (@PySem.W.check_slot (model prog w) _ _ s _ _ _ (.ref x) [.str name tk,v] [] _ F.kind F.split (J.type.andThen (PySem.W.looks_mroIn X e1)) (F.args (.ref x) (.str name tk) v) ?_);rw[PySem.W.osa_eq,refuse_eq];refine zm (zm (J.type.here (zm (mro.here ?_))));rw[o3];exact za (zm (J.type.here (zm ((PySem.W.looks_findIn X ht).here (zm (L3.here h))))))
theorem C3(X:K.In s.heap)(hx:s.heap.get? x=some ⟨.ref C,none,.fields vs,sl⟩)
 (hs:u7 K (.ref C) "__setattr__" = some (some (.builtin "object.__setattr__"))) (hp:rh K C=true) (ht:u7 K (.ref C) name=some none) (hh:Xw K C=true)
 (h:∀h' d t',s.heap.get? d=none->h'.get? x=some ⟨.ref C,some d,.fields vs,sl⟩->(∀b o,b≠x->s.heap.get? b=some o->h'.get? b=some o)->Q () { s with heap:=h',toks:=t' }) :
 wpAny (model prog w) A (setAttr (.ref x) name v) Q E s:=by
 have J:PySem.W.InstAt s.heap x ⟨.ref C,none,.fields vs,sl⟩ C none:=⟨hx,rfl,rfl,trivial⟩;refine PySem.W.set_plain X J hs (Cj (s:={ s with toks:=s.toks+1 }) X J hp ht ?_);obtain⟨cd,hc,hd⟩:=PySem.W.any_some hh;refine zm (za (zm (zm (wpAny_loadPart hx (zm (PySem.W.Looks.here (s:={ s with toks:=s.toks+1 }) (PySem.W.looks_clsIn X hc) ?_))))));rw[hd];have hx1:(s.heap.push { cls:=.type "dict",data:=.dict #[] }).get? x=some ⟨.ref C,none,.fields vs,sl⟩:=Heap.get?_push_of_some _ hx;have ne:x≠s.heap.objs.size:=xK (yr hx);refine zm (wpAny_alloc' (zm (wpAny_update' hx1 (za ?_))));obtain⟨G,eG⟩:∃G:Heap,G=(s.heap.push { cls:=.type "dict",data:=.dict #[] }).update x fun o=>{ cls:=o.cls,dict:=some s.heap.objs.size,data:=o.data,slots:=o.slots }:=⟨_,rfl⟩;have g1:G.get? s.heap.objs.size=some { cls:=.type "dict",data:=.dict #[] }:=by rw[eG];exact(Heap.get?_update_ne _ _ _ _ (Ne.symm ne)).trans (Heap.get?_push_at rfl rfl)
 have g2:G.get? x=some ⟨.ref C,some s.heap.objs.size,.fields vs,sl⟩:=by rw[eG];exact Heap.get?_update_self _ hx1 rfl
 have g3:∀b o,b≠x->s.heap.get? b=some o->G.get? b=some o:=fun b o hb e=>by rw[eG];exact(Heap.get?_update_ne _ _ _ _ hb).trans (Heap.get?_push_of_some _ e)
 have hn:G.Ns s.heap.objs.size fun _=>none:=⟨_,#[],_,g1,rfl,(fun e he=>absurd he (by simp)),fun _=>rfl⟩;rw[<- eG];clear eG;show wpAny _ _ (storeInDict s.heap.objs.size (.str name s.toks) name v) _ _ _;refine zm (za (zm (wpAny_nsSet1 (Heap.Ns1.of_empty hn) fun h' n1 sb=>?_)));obtain⟨od,es,ep,e1,e2,e3⟩:=n1.count (Within.cons name v Within.nil);refine zm (wpAny_lookBehind e1 (by rw[e2];exact pastItsLine_dict (uM e3 (by rw[uO,Y4,uS];decide))) (za ?_));exact h h' s.heap.objs.size _ (Heap.get?_none_of_le (z4 _)) ((sb.2 x ne).trans g2) fun b o hb e=>(sb.2 b (xK (yr e))).trans (g3 b o hb e)
end
section
variable{K:W.Frag}{h:Heap}{C f:Addr}
theorem vg(X:K.In h)(G:h.Ns N mg)(e:PySem.W.nsIn K N n=some (some v)):mg n=some v:=by
 obtain⟨o,es,ep,ho,hd,_,hf⟩:=G;unfold PySem.W.nsIn at e;split at e
 ·rename_i q
  have z:=X _ _ q;rw[ho]at z;cases z;cases hd;rw[<- hf];unfold nsFind findBy;rw[<- Array.find?_toList];split at e
  ·rename_i he
   rw[he];cases e;rfl
  ·split at e <;> cases e
 ·cases e
def jn(K:W.Frag)(C f:Addr):Bool:=match K.lookup C with
 |some ⟨.type "type",_,.cls cd,sl⟩=>(match cd.mro,sl.toList with
  | .ref C'::bm,[_,_,_,_,some (.builtin n),_]=>(C'==C&&n == "ValueError.__new__" && !cd.hasDel)&&(PySem.W.tailIn K oF bm&&PySem.W.nsOkIn K cd.ns&&PySem.W.nsIn K cd.ns "__init__" == some (some (.ref f)))
  |_,_=>false)
 |_=>false
theorem Ao(X:K.In h)(q:jn K C f=true) :
 ∃bm N nm qn bs hdct sn sub ab col dd k0 k1 k2 k3 k5 mN,h.get? C=some (Xp nm qn C N bs bm hdct sn sub ab col dd k0 k1 k2 k3 k5 "ValueError.__new__")/\h.Ns N mN/\mN "__init__" = some (.ref f)/\OwnTail h oF bm:=by
 unfold jn at q;split at q
 ·rename_i dd cd sl ho
  split at q
  ·rename_i C' bm k0 k1 k2 k3 n k5 hm hs
   simp only[Zi,beq_iff_eq,Xu]at q;obtain⟨⟨⟨rfl,rfl⟩,hdel⟩,⟨ht,hok⟩,hni⟩:=q;obtain⟨nm,bs,mro,ns,qn,hd,sn,sub,ab,col,del⟩:=cd;dsimp only at hm hdel hok hni;subst hm hdel;obtain⟨l⟩:=sl;cases hs;have G:h.Ns ns _:=.of_isNs (PySem.W.isNs_of_in X hok);exact⟨bm,ns,nm,qn,bs,hd,sn,sub,ab,col,dd,k0,k1,k2,k3,k5,_,X _ _ ho,G,vg X G hni,PySem.W.tail_of_in X ht⟩
  ·cases q
 ·cases q
end
section
variable{prog:Program}{w:World}{A:Around}{E:Value->Shared->Prop}{h:Heap}{g:Array GenState}{d:Drawn}{t:Nat}{os:OsState}
variable{nm q:Str}{C N:Addr}{bs bm bmB:List Value}{hdct:Bool}{sn:List Str}{sub:List Value}{ab:Bool}{col:Option Bool}{dd:Option Addr}{k0 k1 k2 k3 k5:Option Value}{B newId initId:String}
def nwEx(h:Heap)(C:Addr)(rest:List Value):Heap:=(h.push { cls:=.type "tuple",data:=.seq rest.toArray }).push { cls:=.ref C,data:=.fields #[.ref h.objs.size,.none,.none,.none,.bool false,.none] }
theorem nwEx.at_{rest:List Value}:(nwEx h C rest).get? (h.objs.size+1)=some { cls:=.ref C,data:=.fields #[.ref h.objs.size,.none,.none,.none,.bool false,.none] }:=by unfold nwEx;heap_get
theorem nwEx.keep{rest:List Value}{b:Addr}{o:Obj}(e:h.get? b=some o):(nwEx h C rest).get? b=some o:=Heap.get?_push_of_some _ (Heap.get?_push_of_some _ e)
theorem nY(F:ExcBaseFacts B newId initId bmB)(T:OwnTail h bmB bm){rest:List Value}{o:Obj}
 (hC:h.get? C=some (Xp nm q C N bs bm hdct sn sub ab col dd k0 k1 k2 k3 k5 newId)) (hn:h.Ns N mN) (hi:mN "__init__" = some (.ref f)) (hf:h.get? f=some o) (ho:o.cls = .type "function")
 (hq:wpAny (model prog w) A (call (.ref f) (.ref (h.objs.size+1)::rest)) (fun r s'=>r = .none/\Q (.done (.ret (.ref (h.objs.size+1)))) s') E ⟨nwEx h C rest,g,d,t,os⟩) (hz:rest.length<=sizeLine) :
 wpAny (model prog w) A (Builtin.«type.__call__» ⟨.ref C::rest,[]⟩) Q E ⟨h,g,d,t,os⟩:=by
 have cC:(yy C::bm).contains (.ref C)=true:=by simp
 have cN:(nwEx h C rest).get? C=_:=nwEx.keep hC;have eN:=nwEx.at_ (h:=h) (C:=C) (rest:=rest);have nN:(nwEx h C rest).Ns N mN:=hn.keeps fun b o e=>nwEx.keep e;have tN:OwnTail (nwEx h C rest) bmB bm:=T.keeps fun b o e=>nwEx.keep e
 repeat (first|with_reducible refine Xx hC ?_|with_reducible refine wpAny_madeBy_exc hC ?_|wp_step)
 refine codeAny_call_builtin_code (XO _ F.quiet) (wpAny_check_new_subT F T hC (codeAny_exc_new_subT F T hC ?_ hz));show wpAny _ _ _ _ _ ⟨nwEx h C rest,g,d,t,os⟩;unfold isInstance
 repeat (first|with_reducible refine Xx eN ?_|(with_reducible refine wpAny_isSubtype_exc cN ?_;rw[cC])|wp_step)
 show wpAny _ _ (typeLookup (.ref C) _) _ _ _;refine wpAny_typeLookup_tail cN nN tN F.mroIs F.init.lookup ?_;rw[hi];refine Ze (zm ?_);unfold bindSpecial;refine zm (wpAny_typeOf (T:="function") ⟨_,nwEx.keep hf,ho⟩ ?_);rw[if_pos (by decide)];refine za (zm (qN hq (fun r s' hr=>?_) fun _ _ x=>x));obtain⟨rfl,z⟩:=hr
 wp_walk
 exact z
end
section
variable{prog:Program}{w:World}{A:Around}{E:Value->Shared->Prop}{h:Heap}{g:Array GenState}{d:Drawn}{t:Nat}{os:OsState}
variable{nm q:Str}{C N:Addr}{bs bm bmB:List Value}{hdct:Bool}{sn:List Str}{sub:List Value}{ab:Bool}{col:Option Bool}{dd:Option Addr}{k0 k1 k2 k3 k5:Option Value}{B newId initId:String}
theorem yF(F:ExcBaseFacts B newId initId bmB)(T:OwnTail h bmB bm){rest:List Value}{o:Obj}
 (hC:h.get? C=some (Xp nm q C N bs bm hdct sn sub ab col dd k0 k1 k2 k3 k5 newId)) (hn:h.Ns N mN) (hi:mN "__init__" = some (.ref f)) (hf:h.get? f=some o) (ho:o.cls = .type "function")
 (hq:wpAny (model prog w) (A.under (.builtin "type.__call__" ⟨.ref C::rest,[]⟩)) (call (.ref f) (.ref (h.objs.size+1)::rest)) (fun r s'=>r = .none/\Q (.ref (h.objs.size+1)) s') E ⟨nwEx h C rest,g,d,t,os⟩) (hz:rest.length<=sizeLine) :
 wpAny (model prog w) A (call (.ref C) rest) Q E ⟨h,g,d,t,os⟩:=by
 have a1:=tc_lookup;have a2:=tc_bind (.ref C);have hT:(⟨h,g,d,t,os⟩:Shared).TypeIs (.ref C) "type":=⟨_,hC,rfl⟩;refine wpAny_call (codeAny_of_tree ?_);show wpAny _ _ (callAny (.ref C) _) _ _ _
 repeat (any_goals (first|assumption|with_reducible refine Xx hC ?_|wp_step))
 exact⟨rfl,codeAny_call_builtin_at (XO _ (by decide +kernel)) entry_typeCall (wpAny_check_type_call_sub hC (nY F T hC hn hi hf ho hq hz))⟩
theorem vm(hb:bm.contains (.type "BaseException")=true)(hh:A.handled=none)
 (hx:wpAny M A x (fun v s1=>∃e od a0 sl,v = .ref e/\s1.heap.get? C=some (Xp nm q C N bs bm hdct sn sub ab col dd k0 k1 k2 k3 k5 newId)/\s1.heap.get? e=some ⟨.ref C,od,.fields #[a0,.none,.none,.none,.bool false,.none],sl⟩/\E (.ref e) s1) E s) :
 wpAny M A (raiseStmt env (some x) none) Q E s:=by
 have cB:(yy C::bm).contains (.type "BaseException")=true:=by rw[List.contains_cons,hb,Bool.or_true]
 unfold raiseStmt;refine zm (qN hx (fun v s1 z=>?_) fun _ _ z=>z);obtain⟨e,od,a0,sl,rfl,hC,he,hE⟩:=z;obtain⟨hp,g,d,tk,os⟩:=s1
 repeat (first|with_reducible refine Xx he ?_|with_reducible refine Xx hC ?_|(with_reducible refine wpAny_isSubtype_exc hC ?_;rw[cB])|wp_step)
 exact wpAny_raiseNew_none hh hE
theorem vA(F:ExcBaseFacts B newId initId bmB)
 (hb:bm.contains (.type "BaseException")=true) (hh:A.handled=none) (hpl:(backTo cpos (starEach args env)).any (·.1)=false) (hi:mN "__init__" = some (.ref f)) (ho:o.cls = .type "function")
 (h:wpAny (model prog w) A (eval (.Name x np) env) (fun v s1=>v = .ref C/\wpAny (model prog w) A (evalArgs (.ref C) true (backTo cpos (starEach args env)) [])
  (fun a s2=>a.kw=[]/\a.pos.length<=sizeLine/\s2.heap.get? C=some (Xp nm q C N bs bm hdct sn sub ab col dd k0 k1 k2 k3 k5 newId)/\s2.heap.Ns N mN/\OwnTail s2.heap bmB bm/\s2.heap.get? f=some o /\
   wpAny (model prog w) (A.under (.builtin "type.__call__" ⟨.ref C::a.pos,[]⟩)) (call (.ref f) (.ref (s2.heap.objs.size+1)::a.pos)) (fun r s'=>r = .none/\∃od a0 sl,s'.heap.get? C=some (Xp nm q C N bs bm hdct sn sub ab col dd k0 k1 k2 k3 k5 newId)/\s'.heap.get? (s2.heap.objs.size+1)=some ⟨.ref C,od,.fields #[a0,.none,.none,.none,.bool false,.none],sl⟩/\E (.ref (s2.heap.objs.size+1)) s') E { s2 with heap:=nwEx s2.heap C a.pos }) E s1) E s) :
 wpAny (model prog w) A (exec (.Raise (some (.Call (.Name x np) args [] cpos)) none pos) env) Q E s:=by
 rw[arm_exec_Raise];have hR:wpAny (model prog w) A (do let v <- eval (.Call (.Name x np) args [] cpos) env;standAt pos;pure v) (fun v s1=>∃e od a0 sl,v = .ref e/\s1.heap.get? C=some (Xp nm q C N bs bm hdct sn sub ab col dd k0 k1 k2 k3 k5 newId)/\s1.heap.get? e=some ⟨.ref C,od,.fields #[a0,.none,.none,.none,.bool false,.none],sl⟩/\E (.ref e) s1) E s:=by
  refine zm (qN (wpAny_Call_ofName (qN h (fun v s1 z=>?_) fun _ _ z=>z)) (fun v s3 z=>zm (Y7 (za z))) fun _ _ z=>z);obtain⟨rfl,z⟩:=z;unfold callWith;refine zm (Ze (qN z (fun a s2 z2=>zm (Y7 ?_)) fun _ _ z=>z));obtain⟨ap,ak⟩:=a;obtain⟨hk,hl,hC,hn,T,hf,z2⟩:=z2;obtain rfl:ak=[]:=hk;obtain⟨hp,g,d,tk,os⟩:=s2;simp only[hpl];refine zm (wpAny_keeperOf_exc hC (zm (yF F T hC hn hi hf ho (qN z2 (fun r s' z3=>?_) fun _ _ z=>z) hl)));obtain⟨rfl,od,a0,sl,b1,b2,b4⟩:=z3;exact⟨rfl,zm (Ze (wpAny_point (za ⟨_,od,a0,sl,rfl,b1,b2,b4⟩)))⟩
 exact zm (Y7 (vm (C:=C) (nm:=nm) (q:=q) (N:=N) (bs:=bs) (bm:=bm) (hdct:=hdct) (sn:=sn) (sub:=sub) (ab:=ab) (col:=col) (dd:=dd) (k0:=k0) (k1:=k1) (k2:=k2) (k3:=k3) (k5:=k5) (newId:=newId) hb hh hR))
end
section
variable{P:Program}{w:World}{K:W.Frag}{mg:Str->Option Value}{base:Heap}{N:List Str}{qual:Str}{scope:Scope}{f:Addr}{cd:Value}{A:Around}{outer:List Env}{s₀:Shared}{H₀:Hp}{E:XK}
abbrev CY(a0:Value):Array Value:=#[a0,.none,.none,.none,.bool false,.none]
theorem sF
 (I:Inv (bW (XE P w) P w K mg base N qual scope f cd A outer s₀ H₀ E) pins σ H s) (he:s.heap.get? e=some ⟨.ref C,od,.fields (CY a0),sl⟩) (ne:H e=none) (n0:s₀.heap.get? e=none) (q:E (.ref C) none H) :
 (bW (XE P w) P w K mg base N qual scope f cd A outer s₀ H₀ E).xe (.ref e) s:=by
 show wpAny (model P w) (A.deeper (envOfC qual scope s₀.heap.objs.size f cd)) (leaving (envOfC qual scope s₀.heap.objs.size f cd) (.ref e)) (fun _ s''=>XE P w outer H₀ s₀ E (.ref e) s'') (fun e' s''=>XE P w outer H₀ s₀ E e' s'') s;have hst:s.heap.FunFrames base (envOfC qual scope s₀.heap.objs.size f cd::outer):=I.stack;have e0:(hid s.heap (envOfC qual scope s₀.heap.objs.size f cd::outer) [e]).get? e=none:=jf (.head _);refine dD (e:=e) (jj _ _) ⟨_,_,he,rfl,rfl⟩ (wpAny_leaving_firstW (base:=hid s.heap (envOfC qual scope s₀.heap.objs.size f cd::outer) [e]) (a0:=a0) I.ok.frames (fK hst) rfl he (fun b o z=>mM z) e0 rfl rfl rfl fun h' hL g2=>?_);obtain⟨k1,⟨_,_,f3⟩,⟨oe,vs,T,oT,ts,he',hc,hd,h1,hnT,hTe,hT,hdT,h3⟩,up⟩:=hL;have nT:s.heap.get? T=none:=(pX hst up hnT hT hdT).elim id fun z=>absurd (zL.mp z) hTe;have stay:∀b o,s.heap.get? b=some o->b∉frs (envOfC qual scope s₀.heap.objs.size f cd::outer)->b∉[e,T]->h'.get? b=some o:=fun b o z hb n=>k1 b o (iM z hb fun y=>n (by rw[zL.mp y];exact .head _));have n1:∀b∈[e,T],s₀.heap.get? b=none:=fun b hb=>by
  rcases zG.mp hb with r|r
  ·rw[r];exact n0
  ·rw[zL.mp r];exact I.s0_none rfl nT
 have n2:∀b∈[e,T],H b=none:=fun b hb=>by
  rcases zG.mp hb with r|r
  ·rw[r];exact ne
  ·rw[zL.mp r];exact I.hok.none_of nT
 refine⟨e,.ref C,[e,T],H,rfl,I.os,I.bare,I.noteUn rfl n1 stay up,I.noteOk n2 stay,fun b hb=>⟨n1 b hb,n2 b hb⟩,⟨.head _,a0,?_,g2⟩,q⟩;exact⟨fun b o z=>mM z,jf (.head _),fK f3,oe,vs,T,oT,ts,he',hc,hd,h1,jf (.tail _ (.head _)),hTe,hT,hdT,h3⟩
def qZ(X:Cx)(E:XKs):Prop:=∀(pins:List (Addr × Obj)) (σ:St) (H:Hp) (s:Shared) (e C:Addr) (od:Option Addr) (a0:Value) (sl:Array (Option Value)),Inv X pins σ H s->s.heap.get? e=some ⟨.ref C,od,.fields (CY a0),sl⟩->H e=none->X.s₀.heap.get? e=none->E σ (.ref C) none H->X.xe (.ref e) s
theorem B1:qZ (bW (XE P w) P w K mg base N qual scope f cd A outer s₀ H₀ E) (fun _=>E):=fun _ _ _ _ _ _ _ _ _ I he ne n0 q=>sF I he ne n0 q
end
def ExN(C e:Addr):HO:=.ext fun h=>∃a0,h.get? e=some ⟨.ref C,none,.fields (CY a0),#[]⟩
def ExD(C e:Addr):HO:=.ext fun h=>∃od a0,h.get? e=some ⟨.ref C,od,.fields (CY a0),#[]⟩
section
variable{X:Cx}{e o value:Expr}{f:Str}{ta tv:TE}{pos pos':Pos}
structure Hi(K:W.Frag)(C:Addr)(f:Str):Prop where
 sa:u7 K (.ref C) "__setattr__" = some (some (.builtin "object.__setattr__"))
 ov:rh K C=true
 no:u7 K (.ref C) f=some none
 hd:Xw K C=true
def wX(C:Addr):V->Hp->(Hp->Prop)->Prop
 | .ref p,H,Q=>H p=some (ExN C p)/\Q (upd H p (ExD C p))
 |_,_,_=>False
def Ah(C:Addr)(ta tv:TE):TS:=fun D σ H=>tv σ H fun _ H1=>ta σ H1 fun x H2=>wX C x H2 fun H3=>D.nx σ H3
theorem Dg(W:Hi X.K C f)(ha:PE X o ta)(hv:PE X value tv)(hs:swapsWith value (some (.Attribute o f pos')) pos.line X.env=pure false:=by rfl):PS X (.Assign [.Attribute o f pos'] value pos) (Ah C ta tv):=by
 intro pins s σ H D I h;refine plainObj_wpAny_Assign_Attribute (thn (hv pins s σ H _ I h) fun u s1 ⟨y,H1,I1,ry,q⟩=>thn (ha pins s1 σ H1 _ I1 q) fun ov s2 ⟨x,H2,I2,rx,q2⟩=>?_) hs;dsimp only at q2;unfold wX at q2;split at q2
 ·rename_i a
  obtain⟨ea,q2⟩:=q2;obtain rfl:ov=yy a:=rx;obtain⟨⟨a0,hx⟩,_,_⟩:=I2.hok a _ ea;refine C3 I2.kIn hx W.sa W.ov W.no W.hd fun h' d t' _ e1 e2=>⟨σ,_,I2.write (x:=a) (e:=a) (o:=ExD C a) (by rw[ea];exact Z2) (.inl rfl) e2 ⟨_,e1⟩ ⟨⟨_,_,e1⟩,⟨_,e1⟩,fun h1 h2 ⟨od,a1,z⟩ k=>⟨od,a1,k _ z⟩⟩,q2⟩
 ·exact q2.elim
end
theorem Ga{K:W.Frag}(h:PySem.W.isFn K (.ref f)=true):∃o,K.lookup f=some o/\o.cls = .type "function":=by
 obtain⟨o,e,c⟩:=uE.mp (beq_iff_eq.mp h);exact⟨o,e,c⟩
section
variable{X:Cx}{CX:CXT}{k:Nat}{f C:Addr}{fd:FuncData}{ps:List Str}{sp:Sp}{dvs:List V}{ds:List Value}{E:XKs}{x:Str}{np cpos pos:Pos}{e:Expr}{es:List Expr}{t:TA}
def lX(C:Addr)(sp:Sp)(dvs:List V)(E:XKs)(t:TA):TS:=fun _ σ H=>t σ H fun vs H1=>vs.length<=sizeLine/\NoT H1/\∀p,H1 p=none->sp (.ref p::(vs++dvs)) (upd H1 p (ExN C p)) (fun v H2=>v = .non/\H2 p=some (ExD C p)/\Same H1 H2/\E σ (.ref C) none H1) (E σ)
theorem w_(O:jn X.K C f=true)(fn:PySem.W.isFn X.K (.ref f)=true)(F:hU X.prog X.w X.K X.mg X.base CX k f fd ps sp)(hr:Room (k+1) X.A)(hb:Binds X.K fd ps ds)(hd:Vals dvs ds)(hp:bK CX X E)(hx:qZ X E)
 (hc:X.calm=true) (hg:Gl X x) (hm:X.mg x=some (.ref C)) (ha:PA X (e::es) t) (hex:X.ex=[]:=by rfl) (hdb:(x==("__debug__":Str))=false:=by decide)
 (he:starEach (e::es) X.env=(false,eval e X.env)::starEach es X.env:=by rfl) (hpl:(backTo cpos (starEach es X.env)).any (·.1)=false:=by rfl) :
 PS X (.Raise (some (.Call (.Name x np) (e::es) [] cpos)) none pos) (lX C sp dvs E t):=by
 intro pins s σ H D I h;obtain⟨tl,N,nm,q,bs,hdct,sn,sub,ab,col,dd,k0,k1,k2,k3,k5,mN,hC,hN,hi,T⟩:=Ao I.mod.kin O;obtain⟨fo,fl,fc⟩:=Ga fn;refine vA (C:=C) (nm:=nm) (q:=q) (N:=N) (bs:=bs) (bm:=tl) (hdct:=hdct) (sn:=sn) (sub:=sub) (ab:=ab) (col:=col) (dd:=dd) (k0:=k0) (k1:=k1) (k2:=k2) (k3:=k3) (k5:=k5)
  PySem.F.excBase_ValueError (mN:=mN) (T.hasType PySem.F.excBase_ValueError.hasBase) (I.ok.hd hc) (by rw[he];show(false || (backTo cpos (starEach es X.env)).any (·.1))=false;rw[hpl];rfl) hi fc (gO I hg hm ⟨rfl,?_⟩ hdb)
 have hA:=ha cpos pins s σ H _ I h;rw[he]at hA |-
 refine ZB (thn hA fun us s1 ⟨vs,H1,I1,r,hz,hT,q1⟩=>⟨rfl,by rw[<- r.length];exact hz,I1.bk _ _ hC,hN.keeps I1.bk,T.keeps I1.bk,I1.kIn _ _ fl,?_⟩);have nf:s1.heap.get? (s1.heap.objs.size+1)=none:=Heap.get?_none_of_le (Z6 _);have hq:=q1 (s1.heap.objs.size+1) (I1.hok.fresh (Z6 _));have I2:Inv X pins σ (upd H1 (s1.heap.objs.size+1) (ExN C (s1.heap.objs.size+1))) { s1 with heap:=nwEx s1.heap C us }:=I1.laid (t':=s1.toks) (fun b o z=>nwEx.keep z) (Z6 _) ⟨⟨_,nwEx.at_⟩,⟨_,nwEx.at_⟩,fun h1 h2 ⟨a1,z⟩ kk=>⟨a1,kk _ z⟩⟩;have r2:Vals (V.ref (s1.heap.objs.size+1)::(vs++dvs)) (yy (s1.heap.objs.size+1)::(us++ds)):=.cons rfl (r.append hd);have hl:(yy (s1.heap.objs.size+1)::us++ds).length=ps.length:=by
  have z:=r2.length;rw[F.len _ _ _ _ hq]at z;exact z.symm
 refine wpAny_call (YR (F.run _ X.stack _ _ ⟨yy (s1.heap.objs.size+1)::us,[]⟩ (yy (s1.heap.objs.size+1)::(us++ds)) _ _ (E σ) (hr.make C us []) (I2.env0.make C us []) (hb _ (yy (s1.heap.objs.size+1)::us) I2.kIn hl) r2 hq) fun r' s' hq'=>?_);cases r' with
 |error e'=>exact hp pins σ _ _ e' s' I2 hq'
 |ok fw=>
  cases fw with
  |ret u=>
   obtain⟨v,H',I3,rv,ev,g1,g2,g3⟩:=I2.after hq';subst ev;obtain⟨⟨od,a0,z⟩,_,_⟩:=I3.hok _ _ g1;exact⟨rv,od,a0,#[],I3.bk _ _ hC,z,hx pins σ H1 s' _ C od a0 #[] (I1.gc hT I3 (Gc.none g2)) z (I1.hok.fresh (Z6 _)) (I1.s0_none hex nf) g3⟩
  |next=>exact Z3 hq'
  |brk=>exact Z3 hq'
  |cont=>exact Z3 hq'
end
def Tp(H:Hp)(xs:List V)(Q:VK):Prop:=∀p H',H' p=some (.tup xs)->Same H H'->(NoT H->NoT H')->Q (.ref p) H'
def wU:R2
 | .ref x,.ref y,H,Q=>∃xs ys,H x=some (.tup xs)/\H y=some (.tup ys)/\xs.length+ys.length<=sizeLine/\Tp H (xs++ys) Q
 |_,_,_,_=>False
def GQ:V->Option Int->Option Int->Hp->VK->Prop
 | .ref x,lo,hi,H,Q=>∃xs,H x=some (.tup xs)/\Tp H (h_ xs lo hi) Q
 |_,_,_,_,_=>False
theorem Tp.new(h:Tp H xs Q)(hp:H p=none):Q (.ref p) (upd H p (.tup xs)):=h p _ ad (au _ hp) fun n=>aA n rfl
theorem Tp.old(h:Tp H xs Q)(hp:H p=some (.tup xs)):Q (.ref p) H:=h p _ hp (fun _ _ e=>e) id
section
variable{prog:Program}{w:World}{A:Around}{E:Value->Shared->Prop}{s:Shared}
theorem B8{ws:List Value}(ht:IsTup s.heap t (#[]:Array Value))(hb:IsTup s.heap b ws.toArray)(h:Q (.ref b) s):wpAny (model prog w) A (binaryOp .Add (.ref t) (.ref b)) Q E s:=by
 obtain⟨⟨cls,dd,data,sl⟩,ho,hc,n,hd⟩:=id ht;obtain⟨⟨cls2,dd2,data2,sl2⟩,ho2,hc2,n2,hd2⟩:=id hb;simp only at hc hd hc2 hd2;subst hc hd hc2 hd2;exact concat_meets ⟨_,ho,rfl⟩ ⟨_,ho2,rfl⟩ noFill_tuple_add seq_tuple_add PySem.F.slot_tuple_add XJ (XX _ _)
  (tuple_addW0 t b #[] ws.toArray n n2 dd dd2 sl sl2 rfl) ⟨ho,ho2,h⟩
end
section
variable{X:Cx}
theorem CU:OpR X (binaryOp .Add) wU:=by
 intro pins s σ H x y v u Q I rx ry h;unfold wU at h;split at h
 ·rename_i x y
  obtain⟨xs,ys,h1,h2,h3,q⟩:=h;by_cases hx:xs=[]
  ·subst hx
   cases rx;cases ry;obtain⟨its,r1,p1,_⟩:=I.tuple (SqT.of h1);obtain⟨its2,r2,p2,_⟩:=I.tuple (SqT.of h2);cases r1;exact B8 p1 p2 ⟨.ref y,H,I,rfl,q.old h2⟩
  ·exact Cb pins s σ H _ _ v u Q I rx ry ⟨_,_,xs,ys,rfl,rfl,SqT.of h1,SqT.of h2,hx,h3,fun z=>by subst z;rw[Zh]at q;exact q.old h1,fun _ p hp=>q.new hp⟩
 ·exact h.elim
end
end L2
namespace L2
open PySem PyProof.Rows
section
variable{X:Cx}
end
end L2
namespace L2
open PySem
def kI:Key->Int
 | .inl i=>i
 | .inr _=>0
def vI:V->Int
 | .int i=>i
 |_=>0
def sE(P:Int->Bool):List (Key × V)->Int
 | []=>0
 |e::m=>(if P (kI e.1)=true then vI e.2 else 0)+sE P m
def gM(m:List (Key × V))(d:Int):Int:=match cU m (.inl d) with
 |some v=>vI v
 |none=>0
def Ih(m:List (Key × V)):Prop:=∀k v,(k,v)∈m->∃D a,k = .inl D/\v = .int a
abbrev PR:=Int × List Nat × List Nat × Int
def sR(x y:List Nat)(P:Int->Bool):List PR->Int
 | []=>0
 |z::R=>(if z.2.1=x/\z.2.2.1=y/\P z.1=true then z.2.2.2 else 0)+sR x y P R
structure MM(m:List (Key × V))(x y:List Nat)(R:List PR):Prop where
 nd:(m.map (·.1)).Nodup
 it:Ih m
 sm:∀P,sE P m=sR x y P R
section
variable{X:Cx}
end
theorem Ib{K:W.Frag}{n:Nat}{g:TG}{ks:List Nat}{tt:TT}{te:TE}{σ:St}{H1:Hp}{Q:VK}(a:Addr)(xs:List V)(P:Addr->Nat->List V->Hp->Prop)(hz:xs.length<sizeLine)
 (h0:∀D,H1 D=none->P D 0 [] (upd H1 D (.lst []))) (hD:∀D i ys H',P D i ys H'->H' D=some (.lst ys)/\SqT K H' a xs/\ys.length<=i)
 (hs:∀D i y ys H' (zs:St) (N1:VK) (N0:Hp->Prop),xs[i]? = some y->P D i ys H'->zs.length=n->(∀v H6,H6 D=some (.lst ys)->P D (i+1) (ys++[v]) (upd H6 D (.lst (ys++[v])))->N1 v H6)->(∀H6,P D (i+1) ys H6->N0 H6) ->
  g y (zs++ks.map fun k=>(σ[k]?).join) H' fun σ4 H4=>(∃zs4:St,zs4.length=n/\σ4=zs4++ks.map fun k=>(σ[k]?).join)/\tt σ4 H4 fun b H5=>if b=true then te σ4 H5 N1 else N0 H5)
 (hd:∀D ys H',P D xs.length ys H'->Q (.ref D) H'):CEl (Itt K a) n g ks tt te σ H1 Q:=by
 intro D hDn;refine⟨fun i m ys H'=>m=xs.length-i/\i<=xs.length/\P D i ys H',⟨_,rfl,ud _,h0 D hDn⟩,?_⟩;rintro i m ys H' ⟨rfl,hi,p⟩;obtain⟨d1,d2,d3⟩:=hD D i ys H' p;refine⟨d1,?_⟩;rcases Nat.lt_or_ge i xs.length with lt|ge
 ·refine .inr ⟨⟨xs,xs[i],d2,by simp[lt]⟩,?_⟩
  rintro x H3 ⟨rfl,hx⟩ zs hzs;exact hs D i x ys _ zs _ _ (hx xs d2) p hzs (fun v H6 h6 p6=>⟨h6,by lia,_,by lia,rfl,lt,p6⟩) fun H6 p6=>⟨_,by lia,rfl,lt,p6⟩
 ·obtain rfl:i=xs.length:=XU hi ge
  exact .inl ⟨⟨xs,d2,z4 _⟩,hd D ys H' p⟩
def IK{β:Type}(mk:β->List V)(H:Hp)(v:V)(b:β):Prop:=∃t,v = .ref t/\H t=some (.tup (mk b))
end L2
namespace K22
open PySem L2 K19
theorem wG(h:tl σ H fun x H1=>∃a,x = .ref a/\(∃xs,SqT K H1 a xs)/\CEl (Itt K a) n g ks tt te σ H1 Q):dh (w6 K tl) n g ks tt te σ H Q:=h
theorem Cv{K:W.Frag}{β γ:Type}{n:Nat}{g:TG}{ks:List Nat}{tt:TT}{te:TE}{σ:St}{H:Hp}{Q:VK}{S:Hp->V->γ->Prop}(hS:∀(G G':Hp) (v:V) (c:γ),(∀t l,G t=some (.tup l)->G' t=some (.tup l))->S G v c->S G' v c)
 (a:Addr) (vs:List V) (R:List β) (Rel:V->β->Prop) (p:β->Bool) (f:β->γ) (ha:H a=some (.tup vs)) (hN:NoT H) (hR:A2 Rel vs R) (hz:vs.length<sizeLine)
 (hs:∀v b,b∈R->Rel v b->∀G (zs:St) (N1:VK) (N0:Hp->Prop),Same H G->NoT G->zs.length=n->(p b=true->∀u G',Same G G'->NoT G'->S G' u (f b)->N1 u G')->(p b=false->∀G',Same G G'->NoT G'->N0 G') ->
  g v (zs++ks.map fun k=>(σ[k]?).join) G fun σ4 H4=>(∃zs4:St,zs4.length=n/\σ4=zs4++ks.map fun k=>(σ[k]?).join)/\tt σ4 H4 fun b H5=>if b=true then te σ4 H5 N1 else N0 H5)
 (q:∀D ws G,H D=none->Same H G->NoT G->G D=some (.lst ws)->A2 (S G) ws ((R.filter p).map f)->Q (.ref D) G):CEl (Itt K a) n g ks tt te σ H Q:=by
 refine Ib a vs (fun D i ys G=>H D=none/\Same H G/\NoT G/\G D=some (.lst ys)/\ys.length<=i/\A2 (S G) ys (((R.take i).filter p).map f)) hz ?_ ?_ ?_ ?_
 ·exact fun D hD=>⟨hD,au _ hD,aA hN rfl,ad,z4 _,.nil⟩
 ·rintro D i ys G ⟨hD,sm,_,gd,ly,_⟩
  exact⟨gd,SqT.of (sm _ _ ha),ly⟩
 ·rintro D i y ys G zs N1 N0 hy ⟨hD,sm,nG,gd,ly,A⟩ hzs n1 n0
  obtain⟨b,hb,rb⟩:=hR.at_ hy;have mb:=xg hb;have et:R.take (i+1)=R.take i++[b]:=by rw[Yc,hb];rfl
  rw[et,Zl,vd]at n1 n0;refine hs y b mb rb G zs N1 N0 sm nG hzs (fun pb u G' s' nG' hu=>?_) fun pb G' s' nG'=>n0 G' ⟨hD,sm.trans s',nG',s' _ _ gd,ZV ly,?_⟩
  ·have gd':=s' _ _ gd
   have kt:∀t l,G' t=some (.tup l)->upd G' D (.lst (ys++[u])) t=some (.tup l):=fun t l e=>by
    rw[ah fun z=>by rw[z,gd']at e;cases e];exact e
   refine n1 _ _ gd' ⟨hD,fun c o e=>?_,aA nG' rfl,ad,by rw[yw];exact Xg ly,?_⟩
   ·rw[ah (aC e hD)];exact s' _ _ (sm _ _ e)
   ·rw[Zo pb,ZG]
    exact(A.imp fun _ _ _ _ h=>hS _ _ _ _ kt (hS _ _ _ _ (fun t l e=>s' _ _ e) h)).snoc (hS _ _ _ _ kt hu)
  ·rw[Zn (by rw[pb];decide),ZG,YO,Zh]
   exact A.imp fun _ _ _ _ h=>hS _ _ _ _ (fun t l e=>s' _ _ e) h
 ·rintro D ys G ⟨hD,sm,nG,gd,_,A⟩
  rw[hR.len,ZQ]at A;exact q D ys G hD sm nG gd A
end K22
namespace L2
open PySem PyProof.Rows
def DfN(K:W.Frag)(mg:Str->Option Value)(x:Str)(st:Stmt):Prop:=∃f fd,mg x=some (.ref f)/\Fun K x x st f fd
def DfM(K:W.Frag)(C:Addr)(m q:Str)(st:Stmt):Prop:=∃f fd,zd K C m f/\Fun K m q st f fd
def Fo(P:Program)(w:World)(K:W.Frag)(mg:Str->Option Value)(base:Heap)(x:Str)(k:Nat)(sp:Sp):Prop:=
 ∃f fd ps,mg x=some (.ref f)/\Yu K (.ref f)=true/\Binds K fd ps []/\hU P w K mg base (XE P w) k f fd ps sp
def Mo(P:Program)(w:World)(K:W.Frag)(mg:Str->Option Value)(base:Heap)(C:Addr)(m:Str)(k:Nat)(sp:Sp):Prop:=
 ∃f fd ps,zd K C m f/\Binds K fd ps []/\hU P w K mg base (XE P w) k f fd ps sp
def MkC(K:W.Frag)(C:Addr):Prop:=PySem.W.makesIn K C=true/\Yu K (.ref C)=true
section
variable{P:Program}{w:World}{K:W.Frag}{mg:Str->Option Value}{base:Heap}{x m qual:Str}{st:Stmt}{C:Addr}{N:List Str}{n k:Nat}{sp:Sp}
def gv(x qual:Str)(st:Stmt)(ps:List Str):Prop:=∀(kV doc pm:Value) (an:Option Addr) (cdv ct:Value) (us:List Value),us.length=ps.length->bindArgs (YQ x qual (aB st) (aq st) (ae st) .none kV doc pm an cdv ct) ⟨us,[]⟩=pure (ps.zip us)
def DW(P:Program)(w:World)(K:W.Frag)(mg:Str->Option Value)(base:Heap)(N:List Str)(qual:Str)(st:Stmt)(k:Nat)(sp:Sp):Prop:=
 ∀(f:Addr) (cdv:Value) (A:Around) (outer:List Env) (s:Shared) (H:Hp) (vs:List V) (Q:VK) (E:XK),N.Nodup->(A.deeper (envOfC qual (ae st) s.heap.objs.size f cdv)).units+100<cLine->Room k (A.deeper (envOfC qual (ae st) s.heap.objs.size f cdv))->sp vs H Q E ->
  NoT H/\∃t,PSs (bW (XE P w) P w K mg base N qual (ae st) f cdv A outer s H (gcE H E)) (aq st) t/\t { nx:=fun _ H'=>∃G,Gc H G H'/\Q .non G,rt:=fun v H'=>∃G,Gc H G H'/\Q v G } (eU N vs) H
def D8(P:Program)(w:World)(K:W.Frag)(mg:Str->Option Value)(base:Heap)(N:List Str)(qual:Str)(st:Stmt)(k:Nat)(sp:Sp):Prop:=
 ∀(f:Addr) (cdv:Value) (A:Around) (outer:List Env) (s:Shared) (H:Hp) (vs:List V) (Q:VK) (E:XK),N.Nodup->(A.deeper (envOfC qual (ae st) s.heap.objs.size f cdv)).units+100<cLine->Room k (A.deeper (envOfC qual (ae st) s.heap.objs.size f cdv))->sp vs H Q E ->
  ∃t,PSs (bW (XE P w) P w K mg base N qual (ae st) f cdv A outer s H E) (aq st) t/\t { nx:=fun _ H'=>Q .non H',rt:=Q } (eU N vs) H
theorem DfN.okG(F:DfN K mg x st)(N:List Str)(n:Nat)(S:bd N (N.take n) (ae st))(b:gv x x st (N.take n))(len:∀vs H Q E,sp vs H Q E->vs.length=(N.take n).length)
 (h:DW P w K mg base N x st k sp):Fo P w K mg base x (k+1) sp:=by
 obtain⟨f,fd,m,F⟩:=F;exact⟨f,fd,_,m,F.kp,F.binds b,F.okG S len fun cdv A outer s H vs Q E hr hs=>h f cdv A outer s H vs Q E S.nd (bV hr) hr hs⟩
theorem DfN.okX(F:DfN K mg x st)(N:List Str)(n:Nat)(S:bd N (N.take n) (ae st))(b:gv x x st (N.take n))(len:∀vs H Q E,sp vs H Q E->vs.length=(N.take n).length)
 (h:D8 P w K mg base N x st k sp):Fo P w K mg base x (k+1) sp:=by
 obtain⟨f,fd,m,F⟩:=F;exact⟨f,fd,_,m,F.kp,F.binds b,F.okX S len fun cdv A outer s H vs Q E hr hs=>h f cdv A outer s H vs Q E S.nd (bV hr) hr hs⟩
theorem DfM.okG(F:DfM K C m qual st)(N:List Str)(n:Nat)(S:bd N (N.take n) (ae st))(b:gv m qual st (N.take n))(len:∀vs H Q E,sp vs H Q E->vs.length=(N.take n).length)
 (h:DW P w K mg base N qual st k sp):Mo P w K mg base C m (k+1) sp:=by
 obtain⟨f,fd,m,F⟩:=F;exact⟨f,fd,_,m,F.binds b,F.okG S len fun cdv A outer s H vs Q E hr hs=>h f cdv A outer s H vs Q E S.nd (bV hr) hr hs⟩
theorem DfM.okX(F:DfM K C m qual st)(N:List Str)(n:Nat)(S:bd N (N.take n) (ae st))(b:gv m qual st (N.take n))(len:∀vs H Q E,sp vs H Q E->vs.length=(N.take n).length)
 (h:D8 P w K mg base N qual st k sp):Mo P w K mg base C m (k+1) sp:=by
 obtain⟨f,fd,m,F⟩:=F;exact⟨f,fd,_,m,F.binds b,F.okX S len fun cdv A outer s H vs Q E hr hs=>h f cdv A outer s H vs Q E S.nd (bV hr) hr hs⟩
end
section
variable{X:Cx}{k:Nat}{C:Addr}{sp:Sp}{E:XKs}{x m:Str}{p pos apos:Pos}{e o:Expr}{es:List Expr}{ta:TE}{t:TA}
theorem Hz(F:Fo X.prog X.w X.K X.mg X.base x k sp)(hr:Room k X.A)(hg:Gl X x)(hx:bK (XE X.prog X.w) X E)
 (ha:PA X (e::es) t) (hdb:(x==("__debug__":Str))=false:=by decide) (he:starEach (e::es) X.env=(false,eval e X.env)::starEach es X.env:=by rfl) (hpl:(backTo pos (starEach es X.env)).any (·.1)=false:=by rfl) :
 PE X (.Call (.Name x p) (e::es) [] pos) (pW sp [] E t):=by
 obtain⟨f,fd,ps,m,kp,b,F⟩:=F;exact Ab F hr hg m kp b .nil hx ha hdb he hpl
theorem cj{pl:Sem Bool}(he:PE X o ta)(c:Cls X.K C)(F:Mo X.prog X.w X.K X.mg X.base C m k sp)(hr:Room k X.A)(hx:bK (XE X.prog X.w) X E)(ha:PA X (e::es) t)
 (hst:starEach (e::es) X.env=(false,eval e X.env)::starEach es X.env:=by rfl) (hpl:(backTo pos (starEach es X.env)).any (·.1)=false:=by rfl)
 (ht:eval (.Call (.Attribute o m apos) (e::es) [] pos) X.env=(do
  let ov <- eval o X.env
  standAt apos.atName
  let (f,first) <- holding [ov] (getMethod ov m pl)
  callWith pos f first (backTo pos (starEach (e::es) X.env)) (backToKw pos (Xq [] X.env))):=by rfl) :
 PE X (.Call (.Attribute o m apos) (e::es) [] pos) (mU C m sp [] E ta t):=by
 obtain⟨f,fd,ps,mm,b,F⟩:=F;exact AU he c mm F hr b .nil hx ha hst hpl ht
theorem ko{pl:Sem Bool}(he:PE X o ta)(c:Cls X.K C)(F:Mo X.prog X.w X.K X.mg X.base C m k sp)(hr:Room k X.A)(hx:bK (XE X.prog X.w) X E)
 (ht:eval (.Call (.Attribute o m apos) [] [] pos) X.env=(do
  let ov <- eval o X.env
  standAt apos.atName
  let (f,first) <- holding [ov] (getMethod ov m pl)
  callWith pos f first (backTo pos (starEach [] X.env)) (backToKw pos (Xq [] X.env))):=by rfl) :
 PE X (.Call (.Attribute o m apos) [] [] pos) (mU C m sp [] E ta jP):=by
 obtain⟨f,fd,ps,mm,b,F⟩:=F;exact xM he c mm F hr b .nil hx ht
theorem Eh(M:MkC X.K C)(F:Mo X.prog X.w X.K X.mg X.base C "__init__" k sp)(hr:Room (k+1) X.A)(hg:Gl X x)(hm:X.mg x=some (.ref C))(hx:bK (XE X.prog X.w) X E)
 (ha:PA X (e::es) t) (hdb:(x==("__debug__":Str))=false:=by decide) (he:starEach (e::es) X.env=(false,eval e X.env)::starEach es X.env:=by rfl) (hpl:(backTo pos (starEach es X.env)).any (·.1)=false:=by rfl) :
 PE X (.Call (.Name x p) (e::es) [] pos) (m8 C sp [] E t):=by
 obtain⟨f,fd,ps,mm,b,F⟩:=F;exact At ⟨M.1,mm.at_,mm.fn,M.2⟩ F hr hg hm b .nil hx ha hdb he hpl
theorem vK(M:MkC X.K C)(F:Mo X.prog X.w X.K X.mg X.base C "__init__" k sp)(hr:Room (k+1) X.A)(hg:Gl X x)(hm:X.mg x=some (.ref C))(hx:bK (XE X.prog X.w) X E)
 (hdb:(x==("__debug__":Str))=false:=by decide):PE X (.Call (.Name x p) [] [] pos) (m8 C sp [] E jP):=by
 obtain⟨f,fd,ps,mm,b,F⟩:=F;exact xX ⟨M.1,mm.at_,mm.fn,M.2⟩ F hr hg hm b .nil hx hdb
theorem GO{np cpos pos:Pos}(O:∀f,u7 X.K (.ref C) "__init__" = some (some (.ref f))->jn X.K C f=true)(F:Mo X.prog X.w X.K X.mg X.base C "__init__" k sp)(hr:Room (k+1) X.A)(hp:bK (XE X.prog X.w) X E)(hx:qZ X E)
 (hc:X.calm=true) (hg:Gl X x) (hm:X.mg x=some (.ref C)) (ha:PA X (e::es) t) (hex:X.ex=[]:=by rfl) (hdb:(x==("__debug__":Str))=false:=by decide)
 (he:starEach (e::es) X.env=(false,eval e X.env)::starEach es X.env:=by rfl) (hpl:(backTo cpos (starEach es X.env)).any (·.1)=false:=by rfl) :
 PS X (.Raise (some (.Call (.Name x np) (e::es) [] cpos)) none pos) (lX C sp [] E t):=by
 obtain⟨f,fd,ps,mm,b,F⟩:=F;exact w_ (O f mm.at_) mm.fn F hr b .nil hp hx hc hg hm ha hex hdb he hpl
end
section
variable{X:Cx}{k j i:Nat}{C:Addr}{sp:Sp}{E:XKs}{x m:Str}{p pos pos' apos:Pos}{e o a b:Expr}{es:List Expr}{ta tb te:TE}{t:TA}
theorem aN(F:Fo X.prog X.w X.K X.mg X.base x k sp)(hr:Room j X.A)(hx:bK (XE X.prog X.w) X E)(ha:PA X (e::es) t)(hk:k<=j:=by decide)(hg:Gl X x:=by rfl)(hdb:(x==("__debug__":Str))=false:=by decide)(he:starEach (e::es) X.env=(false,eval e X.env)::starEach es X.env:=by rfl)(hpl:(backTo pos (starEach es X.env)).any (·.1)=false:=by rfl):PE X (.Call (.Name x p) (e::es) [] pos) (pW sp [] E t):=Hz F (hr.mono hk) hg hx ha hdb he hpl
theorem aS(i:Nat){e:Expr}(hN:X.N.Nodup)(he:PE X e te)(hi:X.N[i]? = some x:=by rfl)(hx:Loc X.env.scope x:=by first|exact Or.inl rfl|exact Or.inr rfl)(hs:swapsWith e (some (.Name x pos')) pos.line X.env=pure false:=by rfl)(hf:X.fn x=true\/X.env.scope.names.lookup x=some .local:=by first|exact .inl rfl|exact .inr rfl|assumption):PS X (.Assign [.Name x pos'] e pos) (uZ te (hZ i)):=Es hN hi hx he hs hf
theorem az(K:W.Frag)(ha:PE X a ta)(hb:PE X b tb)(hs:qF b:=by exact fun _ _=>rfl)(hK:X.K=K:=by rfl):PE X (.Subscript a b pos) (tOp (gIx K) ta tb):=Hs (Cq K hK) ha hb hs
theorem aO{op:CmpOp}{r:R2}(ho:OpR X (rB op) r)(ha:PE X a ta)(hb:PE X b tb)(hm:Yi op b=false:=by exact gm _):PT X (.Compare a [op] [b] pos) (m5 (tOp r ta tb)):=jk ho ha hb hm
theorem fa1{e0:Expr}{t0:TE}(h0:PE X e0 t0)(n0:bI e0=true:=by rfl):PA X [e0] (cg t0 jP):=FA.pa (aY h0 di n0)
theorem fa2{e0 e1:Expr}{t0 t1:TE}(h0:PE X e0 t0)(h1:PE X e1 t1)(n0:bI e0=true:=by rfl)(n1:bI e1=true:=by rfl):PA X [e0,e1] (cg t0 (cg t1 jP)):=FA.pa (aY h0 (aY h1 di n1) n0)
theorem fa3{e0 e1 e2:Expr}{t0 t1 t2:TE}(h0:PE X e0 t0)(h1:PE X e1 t1)(h2:PE X e2 t2)(n0:bI e0=true:=by rfl)(n1:bI e1=true:=by rfl)(n2:bI e2=true:=by rfl):PA X [e0,e1,e2] (cg t0 (cg t1 (cg t2 jP))):=FA.pa (aY h0 (aY h1 (aY h2 di n2) n1) n0)
theorem fa4{e0 e1 e2 e3:Expr}{t0 t1 t2 t3:TE}(h0:PE X e0 t0)(h1:PE X e1 t1)(h2:PE X e2 t2)(h3:PE X e3 t3)(n0:bI e0=true:=by rfl)(n1:bI e1=true:=by rfl)(n2:bI e2=true:=by rfl)(n3:bI e3=true:=by rfl):PA X [e0,e1,e2,e3] (cg t0 (cg t1 (cg t2 (cg t3 jP)))):=FA.pa (aY h0 (aY h1 (aY h2 (aY h3 di n3) n2) n1) n0)
theorem fa5{e0 e1 e2 e3 e4:Expr}{t0 t1 t2 t3 t4:TE}(h0:PE X e0 t0)(h1:PE X e1 t1)(h2:PE X e2 t2)(h3:PE X e3 t3)(h4:PE X e4 t4)(n0:bI e0=true:=by rfl)(n1:bI e1=true:=by rfl)(n2:bI e2=true:=by rfl)(n3:bI e3=true:=by rfl)(n4:bI e4=true:=by rfl):PA X [e0,e1,e2,e3,e4] (cg t0 (cg t1 (cg t2 (cg t3 (cg t4 jP))))):=FA.pa (aY h0 (aY h1 (aY h2 (aY h3 (aY h4 di n4) n3) n2) n1) n0)
theorem fa6{e0 e1 e2 e3 e4 e5:Expr}{t0 t1 t2 t3 t4 t5:TE}(h0:PE X e0 t0)(h1:PE X e1 t1)(h2:PE X e2 t2)(h3:PE X e3 t3)(h4:PE X e4 t4)(h5:PE X e5 t5)(n0:bI e0=true:=by rfl)(n1:bI e1=true:=by rfl)(n2:bI e2=true:=by rfl)(n3:bI e3=true:=by rfl)(n4:bI e4=true:=by rfl)(n5:bI e5=true:=by rfl):PA X [e0,e1,e2,e3,e4,e5] (cg t0 (cg t1 (cg t2 (cg t3 (cg t4 (cg t5 jP)))))):=FA.pa (aY h0 (aY h1 (aY h2 (aY h3 (aY h4 (aY h5 di n5) n4) n3) n2) n1) n0)
theorem bU{E:XKs}{msg:Str}{j1}{p1 np cpos:Pos}(O:PySem.W.excIn X.K C oF "ValueError.__new__" = true)(hm:X.mg x=some (.ref C))(hx:uj X E)(hc:X.calm=true:=by rfl)(hg:Gl X x:=by rfl)(hdb:(x==("__debug__":Str))=false:=by decide):PS X (.Raise (some (.Call (.Name x np) [.Constant (.str msg) j1 p1] [] cpos)) none pos) (uK C E (cg (tC (.str msg)) jP)):=zC O PySem.F.excBase_ValueError hc hg hm hx (fa1 Bm) hdb
end
def BdG(P:Program)(w:World)(K:W.Frag)(mg:Str->Option Value)(base:Heap)(N:List Str)(qual:Str)(st:Stmt)(k:Nat)(vs:List V)(r:Hp->VK->XK->Prop):Prop:=∀(fA:Addr) (cdv:Value) (A:Around) (outer:List Env) (s:Shared) (H:Hp) (Q:VK) (E:XK),N.Nodup->(A.deeper (envOfC qual (ae st) s.heap.objs.size fA cdv)).units+100<cLine->Room k (A.deeper (envOfC qual (ae st) s.heap.objs.size fA cdv))->r H Q E->NoT H/\∃t,PSs (bW (XE P w) P w K mg base N qual (ae st) fA cdv A outer s H (gcE H E)) (aq st) t/\t { nx:=fun _ H'=>∃G,Gc H G H'/\Q .non G,rt:=fun v H'=>∃G,Gc H G H'/\Q v G } (eU N vs) H
def BdX(P:Program)(w:World)(K:W.Frag)(mg:Str->Option Value)(base:Heap)(N:List Str)(qual:Str)(st:Stmt)(k:Nat)(vs:List V)(r:Hp->VK->XK->Prop):Prop:=∀(fA:Addr) (cdv:Value) (A:Around) (outer:List Env) (s:Shared) (H:Hp) (Q:VK) (E:XK),N.Nodup->(A.deeper (envOfC qual (ae st) s.heap.objs.size fA cdv)).units+100<cLine->Room k (A.deeper (envOfC qual (ae st) s.heap.objs.size fA cdv))->r H Q E->∃t,PSs (bW (XE P w) P w K mg base N qual (ae st) fA cdv A outer s H E) (aq st) t/\t { nx:=fun _ H'=>Q .non H',rt:=Q } (eU N vs) H
section
variable{P:Program}{w:World}{K:W.Frag}{mg:Str->Option Value}{base:Heap}{x m qual:Str}{st:Stmt}{C:Addr}{k:Nat}
theorem DfN.g1{f:V->Hp->VK->XK->Prop}(F:DfN K mg x st)(N:List Str)(h:∀x0,BdG P w K mg base N x st k [x0] (f x0))(S:bd N (N.take 1) (ae st):=by exact⟨rfl,rfl,rfl,by decide +kernel,rfl,by decide +kernel,by decide +kernel⟩)(b:gv x x st (N.take 1):=by intro _ _ _ _ _ _ us hl;obtain⟨_,e⟩:=ex1 hl;subst e;rfl)(l:(N.take 1).length=1:=by rfl):Fo P w K mg base x (k+1) (sp1 f):=
 F.okG N 1 S b (fun vs H Q E h=>(sp1.len h).trans l.symm) fun fA cdv A outer s H vs Q E ND HU hr hs=>by obtain⟨x0,rfl,hs⟩:=sp1.inv hs;exact h x0 fA cdv A outer s H Q E ND HU hr hs
theorem DfN.x1{f:V->Hp->VK->XK->Prop}(F:DfN K mg x st)(N:List Str)(h:∀x0,BdX P w K mg base N x st k [x0] (f x0))(S:bd N (N.take 1) (ae st):=by exact⟨rfl,rfl,rfl,by decide +kernel,rfl,by decide +kernel,by decide +kernel⟩)(b:gv x x st (N.take 1):=by intro _ _ _ _ _ _ us hl;obtain⟨_,e⟩:=ex1 hl;subst e;rfl)(l:(N.take 1).length=1:=by rfl):Fo P w K mg base x (k+1) (sp1 f):=
 F.okX N 1 S b (fun vs H Q E h=>(sp1.len h).trans l.symm) fun fA cdv A outer s H vs Q E ND HU hr hs=>by obtain⟨x0,rfl,hs⟩:=sp1.inv hs;exact h x0 fA cdv A outer s H Q E ND HU hr hs
theorem DfM.g1{f:V->Hp->VK->XK->Prop}(F:DfM K C m qual st)(N:List Str)(h:∀x0,BdG P w K mg base N qual st k [x0] (f x0))(S:bd N (N.take 1) (ae st):=by exact⟨rfl,rfl,rfl,by decide +kernel,rfl,by decide +kernel,by decide +kernel⟩)(b:gv m qual st (N.take 1):=by intro _ _ _ _ _ _ us hl;obtain⟨_,e⟩:=ex1 hl;subst e;rfl)(l:(N.take 1).length=1:=by rfl):Mo P w K mg base C m (k+1) (sp1 f):=
 F.okG N 1 S b (fun vs H Q E h=>(sp1.len h).trans l.symm) fun fA cdv A outer s H vs Q E ND HU hr hs=>by obtain⟨x0,rfl,hs⟩:=sp1.inv hs;exact h x0 fA cdv A outer s H Q E ND HU hr hs
theorem DfM.x1{f:V->Hp->VK->XK->Prop}(F:DfM K C m qual st)(N:List Str)(h:∀x0,BdX P w K mg base N qual st k [x0] (f x0))(S:bd N (N.take 1) (ae st):=by exact⟨rfl,rfl,rfl,by decide +kernel,rfl,by decide +kernel,by decide +kernel⟩)(b:gv m qual st (N.take 1):=by intro _ _ _ _ _ _ us hl;obtain⟨_,e⟩:=ex1 hl;subst e;rfl)(l:(N.take 1).length=1:=by rfl):Mo P w K mg base C m (k+1) (sp1 f):=
 F.okX N 1 S b (fun vs H Q E h=>(sp1.len h).trans l.symm) fun fA cdv A outer s H vs Q E ND HU hr hs=>by obtain⟨x0,rfl,hs⟩:=sp1.inv hs;exact h x0 fA cdv A outer s H Q E ND HU hr hs
theorem DfN.x2{f:V->V->Hp->VK->XK->Prop}(F:DfN K mg x st)(N:List Str)(h:∀x0 x1,BdX P w K mg base N x st k [x0,x1] (f x0 x1))(S:bd N (N.take 2) (ae st):=by exact⟨rfl,rfl,rfl,by decide +kernel,rfl,by decide +kernel,by decide +kernel⟩)(b:gv x x st (N.take 2):=by intro _ _ _ _ _ _ us hl;obtain⟨_,_,e⟩:=ex2 hl;subst e;rfl)(l:(N.take 2).length=2:=by rfl):Fo P w K mg base x (k+1) (sp2 f):=
 F.okX N 2 S b (fun vs H Q E h=>(sp2.len h).trans l.symm) fun fA cdv A outer s H vs Q E ND HU hr hs=>by obtain⟨x0,x1,rfl,hs⟩:=sp2.inv hs;exact h x0 x1 fA cdv A outer s H Q E ND HU hr hs
theorem DfM.g2{f:V->V->Hp->VK->XK->Prop}(F:DfM K C m qual st)(N:List Str)(h:∀x0 x1,BdG P w K mg base N qual st k [x0,x1] (f x0 x1))(S:bd N (N.take 2) (ae st):=by exact⟨rfl,rfl,rfl,by decide +kernel,rfl,by decide +kernel,by decide +kernel⟩)(b:gv m qual st (N.take 2):=by intro _ _ _ _ _ _ us hl;obtain⟨_,_,e⟩:=ex2 hl;subst e;rfl)(l:(N.take 2).length=2:=by rfl):Mo P w K mg base C m (k+1) (sp2 f):=
 F.okG N 2 S b (fun vs H Q E h=>(sp2.len h).trans l.symm) fun fA cdv A outer s H vs Q E ND HU hr hs=>by obtain⟨x0,x1,rfl,hs⟩:=sp2.inv hs;exact h x0 x1 fA cdv A outer s H Q E ND HU hr hs
theorem DfM.x2{f:V->V->Hp->VK->XK->Prop}(F:DfM K C m qual st)(N:List Str)(h:∀x0 x1,BdX P w K mg base N qual st k [x0,x1] (f x0 x1))(S:bd N (N.take 2) (ae st):=by exact⟨rfl,rfl,rfl,by decide +kernel,rfl,by decide +kernel,by decide +kernel⟩)(b:gv m qual st (N.take 2):=by intro _ _ _ _ _ _ us hl;obtain⟨_,_,e⟩:=ex2 hl;subst e;rfl)(l:(N.take 2).length=2:=by rfl):Mo P w K mg base C m (k+1) (sp2 f):=
 F.okX N 2 S b (fun vs H Q E h=>(sp2.len h).trans l.symm) fun fA cdv A outer s H vs Q E ND HU hr hs=>by obtain⟨x0,x1,rfl,hs⟩:=sp2.inv hs;exact h x0 x1 fA cdv A outer s H Q E ND HU hr hs
theorem DfN.g3{f:V->V->V->Hp->VK->XK->Prop}(F:DfN K mg x st)(N:List Str)(h:∀x0 x1 x2,BdG P w K mg base N x st k [x0,x1,x2] (f x0 x1 x2))(S:bd N (N.take 3) (ae st):=by exact⟨rfl,rfl,rfl,by decide +kernel,rfl,by decide +kernel,by decide +kernel⟩)(b:gv x x st (N.take 3):=by intro _ _ _ _ _ _ us hl;obtain⟨_,_,_,e⟩:=ex3 hl;subst e;rfl)(l:(N.take 3).length=3:=by rfl):Fo P w K mg base x (k+1) (sp3 f):=
 F.okG N 3 S b (fun vs H Q E h=>(sp3.len h).trans l.symm) fun fA cdv A outer s H vs Q E ND HU hr hs=>by obtain⟨x0,x1,x2,rfl,hs⟩:=sp3.inv hs;exact h x0 x1 x2 fA cdv A outer s H Q E ND HU hr hs
theorem DfN.x3{f:V->V->V->Hp->VK->XK->Prop}(F:DfN K mg x st)(N:List Str)(h:∀x0 x1 x2,BdX P w K mg base N x st k [x0,x1,x2] (f x0 x1 x2))(S:bd N (N.take 3) (ae st):=by exact⟨rfl,rfl,rfl,by decide +kernel,rfl,by decide +kernel,by decide +kernel⟩)(b:gv x x st (N.take 3):=by intro _ _ _ _ _ _ us hl;obtain⟨_,_,_,e⟩:=ex3 hl;subst e;rfl)(l:(N.take 3).length=3:=by rfl):Fo P w K mg base x (k+1) (sp3 f):=
 F.okX N 3 S b (fun vs H Q E h=>(sp3.len h).trans l.symm) fun fA cdv A outer s H vs Q E ND HU hr hs=>by obtain⟨x0,x1,x2,rfl,hs⟩:=sp3.inv hs;exact h x0 x1 x2 fA cdv A outer s H Q E ND HU hr hs
theorem DfM.g3{f:V->V->V->Hp->VK->XK->Prop}(F:DfM K C m qual st)(N:List Str)(h:∀x0 x1 x2,BdG P w K mg base N qual st k [x0,x1,x2] (f x0 x1 x2))(S:bd N (N.take 3) (ae st):=by exact⟨rfl,rfl,rfl,by decide +kernel,rfl,by decide +kernel,by decide +kernel⟩)(b:gv m qual st (N.take 3):=by intro _ _ _ _ _ _ us hl;obtain⟨_,_,_,e⟩:=ex3 hl;subst e;rfl)(l:(N.take 3).length=3:=by rfl):Mo P w K mg base C m (k+1) (sp3 f):=
 F.okG N 3 S b (fun vs H Q E h=>(sp3.len h).trans l.symm) fun fA cdv A outer s H vs Q E ND HU hr hs=>by obtain⟨x0,x1,x2,rfl,hs⟩:=sp3.inv hs;exact h x0 x1 x2 fA cdv A outer s H Q E ND HU hr hs
theorem DfM.x3{f:V->V->V->Hp->VK->XK->Prop}(F:DfM K C m qual st)(N:List Str)(h:∀x0 x1 x2,BdX P w K mg base N qual st k [x0,x1,x2] (f x0 x1 x2))(S:bd N (N.take 3) (ae st):=by exact⟨rfl,rfl,rfl,by decide +kernel,rfl,by decide +kernel,by decide +kernel⟩)(b:gv m qual st (N.take 3):=by intro _ _ _ _ _ _ us hl;obtain⟨_,_,_,e⟩:=ex3 hl;subst e;rfl)(l:(N.take 3).length=3:=by rfl):Mo P w K mg base C m (k+1) (sp3 f):=
 F.okX N 3 S b (fun vs H Q E h=>(sp3.len h).trans l.symm) fun fA cdv A outer s H vs Q E ND HU hr hs=>by obtain⟨x0,x1,x2,rfl,hs⟩:=sp3.inv hs;exact h x0 x1 x2 fA cdv A outer s H Q E ND HU hr hs
theorem DfN.g4{f:V->V->V->V->Hp->VK->XK->Prop}(F:DfN K mg x st)(N:List Str)(h:∀x0 x1 x2 x3,BdG P w K mg base N x st k [x0,x1,x2,x3] (f x0 x1 x2 x3))(S:bd N (N.take 4) (ae st):=by exact⟨rfl,rfl,rfl,by decide +kernel,rfl,by decide +kernel,by decide +kernel⟩)(b:gv x x st (N.take 4):=by intro _ _ _ _ _ _ us hl;obtain⟨_,_,_,_,e⟩:=ex4 hl;subst e;rfl)(l:(N.take 4).length=4:=by rfl):Fo P w K mg base x (k+1) (sp4 f):=
 F.okG N 4 S b (fun vs H Q E h=>(sp4.len h).trans l.symm) fun fA cdv A outer s H vs Q E ND HU hr hs=>by obtain⟨x0,x1,x2,x3,rfl,hs⟩:=sp4.inv hs;exact h x0 x1 x2 x3 fA cdv A outer s H Q E ND HU hr hs
theorem DfN.x4{f:V->V->V->V->Hp->VK->XK->Prop}(F:DfN K mg x st)(N:List Str)(h:∀x0 x1 x2 x3,BdX P w K mg base N x st k [x0,x1,x2,x3] (f x0 x1 x2 x3))(S:bd N (N.take 4) (ae st):=by exact⟨rfl,rfl,rfl,by decide +kernel,rfl,by decide +kernel,by decide +kernel⟩)(b:gv x x st (N.take 4):=by intro _ _ _ _ _ _ us hl;obtain⟨_,_,_,_,e⟩:=ex4 hl;subst e;rfl)(l:(N.take 4).length=4:=by rfl):Fo P w K mg base x (k+1) (sp4 f):=
 F.okX N 4 S b (fun vs H Q E h=>(sp4.len h).trans l.symm) fun fA cdv A outer s H vs Q E ND HU hr hs=>by obtain⟨x0,x1,x2,x3,rfl,hs⟩:=sp4.inv hs;exact h x0 x1 x2 x3 fA cdv A outer s H Q E ND HU hr hs
theorem DfM.x4{f:V->V->V->V->Hp->VK->XK->Prop}(F:DfM K C m qual st)(N:List Str)(h:∀x0 x1 x2 x3,BdX P w K mg base N qual st k [x0,x1,x2,x3] (f x0 x1 x2 x3))(S:bd N (N.take 4) (ae st):=by exact⟨rfl,rfl,rfl,by decide +kernel,rfl,by decide +kernel,by decide +kernel⟩)(b:gv m qual st (N.take 4):=by intro _ _ _ _ _ _ us hl;obtain⟨_,_,_,_,e⟩:=ex4 hl;subst e;rfl)(l:(N.take 4).length=4:=by rfl):Mo P w K mg base C m (k+1) (sp4 f):=
 F.okX N 4 S b (fun vs H Q E h=>(sp4.len h).trans l.symm) fun fA cdv A outer s H vs Q E ND HU hr hs=>by obtain⟨x0,x1,x2,x3,rfl,hs⟩:=sp4.inv hs;exact h x0 x1 x2 x3 fA cdv A outer s H Q E ND HU hr hs
theorem DfM.x5{f:V->V->V->V->V->Hp->VK->XK->Prop}(F:DfM K C m qual st)(N:List Str)(h:∀x0 x1 x2 x3 x4,BdX P w K mg base N qual st k [x0,x1,x2,x3,x4] (f x0 x1 x2 x3 x4))(S:bd N (N.take 5) (ae st):=by exact⟨rfl,rfl,rfl,by decide +kernel,rfl,by decide +kernel,by decide +kernel⟩)(b:gv m qual st (N.take 5):=by intro _ _ _ _ _ _ us hl;obtain⟨_,_,_,_,_,e⟩:=ex5 hl;subst e;rfl)(l:(N.take 5).length=5:=by rfl):Mo P w K mg base C m (k+1) (sp5 f):=
 F.okX N 5 S b (fun vs H Q E h=>(sp5.len h).trans l.symm) fun fA cdv A outer s H vs Q E ND HU hr hs=>by obtain⟨x0,x1,x2,x3,x4,rfl,hs⟩:=sp5.inv hs;exact h x0 x1 x2 x3 x4 fA cdv A outer s H Q E ND HU hr hs
theorem DfN.x6{f:V->V->V->V->V->V->Hp->VK->XK->Prop}(F:DfN K mg x st)(N:List Str)(h:∀x0 x1 x2 x3 x4 x5,BdX P w K mg base N x st k [x0,x1,x2,x3,x4,x5] (f x0 x1 x2 x3 x4 x5))(S:bd N (N.take 6) (ae st):=by exact⟨rfl,rfl,rfl,by decide +kernel,rfl,by decide +kernel,by decide +kernel⟩)(b:gv x x st (N.take 6):=by intro _ _ _ _ _ _ us hl;obtain⟨_,_,_,_,_,_,e⟩:=ex6 hl;subst e;rfl)(l:(N.take 6).length=6:=by rfl):Fo P w K mg base x (k+1) (sp6 f):=
 F.okX N 6 S b (fun vs H Q E h=>(sp6.len h).trans l.symm) fun fA cdv A outer s H vs Q E ND HU hr hs=>by obtain⟨x0,x1,x2,x3,x4,x5,rfl,hs⟩:=sp6.inv hs;exact h x0 x1 x2 x3 x4 x5 fA cdv A outer s H Q E ND HU hr hs
end
end L2
namespace L2
open PySem PySem.Spec PyProof.Rows
section
variable{X:Cx}
end
end L2
namespace L2
open PySem PyProof.Rows
section
variable{prog:Program}{w:World}{A:Around}{E:Value->Shared->Prop}{s:Shared}{it d:Addr}{i ep:Nat}{od:Obj}{es:Array Xj}
end
section
variable{X:Cx}{pins:List (Addr × Obj)}{σ:St}{H:Hp}{s:Shared}
end
end L2
namespace L2
open PySem PyProof.Rows Builtin Builtin.Str
section
variable{X:Cx}
end
end L2
namespace L2
open PySem PyProof.Rows
section
variable{prog:Program}{w:World}{A:Around}{E:Value->Shared->Prop}{s:Shared}
end
variable{X:Cx}
theorem GW(r:Vals [x,y,z] us):∃u v w',us=[u,v,w']/\RelV x u/\RelV y v/\RelV z w':=by
 cases r with
 |cons r1 r2=>
  obtain⟨u,w',rfl,h1,h2⟩:=rJ r2;exact⟨_,_,_,rfl,r1,h1,h2⟩
end L2
namespace L2
open PySem PyProof.Rows
variable{X:Cx}
def DG:List V->Hp->VK->Prop
 | [.int i,.int j,.int k],H,Q=>∀m,i<=m->j<=m->k<=m->(m=i\/m=j\/m=k)->Q (.int m) H
 |_,_,_=>False
theorem Cl(hc:X.calm=true):CallR X (.builtin "max") DG:=by
 intro pins s σ H xs us Q I r h;unfold DG at h;split at h
 ·rename_i i j k
  obtain⟨u,v,w',rfl,⟨t,rfl⟩,⟨t',rfl⟩,⟨t'',rfl⟩⟩:=GW r;refine max_three_ints (I.ok.hd hc) fun h' tk hk=>?_;by_cases c1:j > i
  ·by_cases c2:k > j
   ·rw[if_pos c1,if_pos c2]
    exact⟨.int k,H,I.kept hk,⟨_,rfl⟩,h k (by lia) (by lia) (by lia) (.inr (.inr rfl))⟩
   ·rw[if_pos c1,if_neg c2]
    exact⟨.int j,H,I.kept hk,⟨_,rfl⟩,h j (by lia) (by lia) (by lia) (.inr (.inl rfl))⟩
  ·by_cases c2:k > i
   ·rw[if_neg c1,if_pos c2]
    exact⟨.int k,H,I.kept hk,⟨_,rfl⟩,h k (by lia) (by lia) (by lia) (.inr (.inr rfl))⟩
   ·rw[if_neg c1,if_neg c2]
    exact⟨.int i,H,I.kept hk,⟨_,rfl⟩,h i (by lia) (by lia) (by lia) (.inl rfl)⟩
 ·exact h.elim
end L2
namespace L2
open PySem PyProof.Rows
section
variable{prog:Program}{w:World}{A:Around}{E:Value->Shared->Prop}{s:Shared}{d:Addr}{od:Obj}
end
section
variable{X:Cx}
end
def sp8(f:V->V->V->V->V->V->V->V->Hp->VK->XK->Prop):Sp:=fun vs H Q E=>match vs with
 | [x,y,z,u,v,a,b,c]=>f x y z u v a b c H Q E
 |_=>False
section
variable{prog:Program}{w:World}{A:Around}{E:Value->Shared->Prop}{s:Shared}{it t e:Addr}{i:Nat}{its:Array Value}{x old:Value}
theorem pB(hi:s.heap.IsTupleIter it t i)(ht:s.heap.IsTuple t its)(hx:its[i]? = some x)
 (q:∀h',h'.IsTupleIter it t (i+1)->Yx it s.heap h'->Q x { s with heap:=h' }):wpAny (model prog w) A (ZX (.ref it)) Q E s:=by
 obtain⟨o,ho,hc,hd⟩:=id hi;obtain⟨ol,hol,_,nl,hdl⟩:=ht;unfold ZX;refine zm (wpAny_callSpecial?_slot (name:=zI "__next__") hi.typeIs YZ (r6 YZ hi.typeIs F.entry_tuple_iterator_next ?_ (F.args_tuple_iterator_next_1 _)));show wpAny _ _ (field (.ref it) 0 >>= _) _ _ s;refine zm (ZM ho hd (x:=.ref t) rfl ?_);show wpAny _ _ (if (yy t==Zm)=true then _ else _) _ _ s;rw[if_neg (show ¬ ((yy t==Zm)=true) from xa)];show wpAny _ _ (field (.ref it) 1 >>= _) _ _ s;refine zm (ZM ho hd (x:=.int i 0) rfl ?_);show wpAny _ _ (seqItems? (.ref t) >>= _) _ _ s;refine zm (Yw hol hdl ?_);simp only[ZU,hx];refine zm (wpAny_setField ho hd (by simp) (za ⟨x,rfl,za (q _ ?_ (Yx.update ..))⟩));exact⟨_,Heap.get?_update_self _ ho (YX (Y1 hd _)),(Obj.cls_mapFields ..).trans hc,by
  rw[Y1 hd];simp[rawInt]⟩
theorem Az(hh:A.handled=none)(hi:s.heap.IsTupleIter it t i)(ht:s.heap.IsTuple t its)(hx:its[i]? = none)
 (q:∀h' e,Heap.ExtBut it s.heap h'->(∃o,h'.get? e=some o/\o.cls = .type "StopIteration")->E (.ref e) { s with heap:=h' }):wpAny (model prog w) A (ZX (.ref it)) Q E s:=by
 obtain⟨o,ho,hc,hd⟩:=id hi;obtain⟨ol,hol,_,nl,hdl⟩:=ht;unfold ZX;refine zm (wpAny_callSpecial?_slot (name:=zI "__next__") hi.typeIs YZ (r6 YZ hi.typeIs F.entry_tuple_iterator_next ?_ (F.args_tuple_iterator_next_1 _)));show wpAny _ _ (field (.ref it) 0 >>= _) _ _ s;refine zm (ZM ho hd (x:=.ref t) rfl ?_);show wpAny _ _ (if (yy t==Zm)=true then _ else _) _ _ s;rw[if_neg (show ¬ ((yy t==Zm)=true) from xa)];show wpAny _ _ (field (.ref it) 1 >>= _) _ _ s;refine zm (ZM ho hd (x:=.int i 0) rfl ?_);show wpAny _ _ (seqItems? (.ref t) >>= _) _ _ s;refine zm (Yw hol hdl ?_);simp only[ZU,hx];refine zm (Yo (zm (wpAny_setField ho hd (by simp) ?_)));show wpAny _ _ (newExc (.type "StopIteration") [] >>= _) _ _ _;refine zm ?_;simp only[newExc,newTuple];refine zm (pL ?_ (by size_fits));refine zm (m:=Xn _ _) (wpAny_of_eq (a:=Zm) (by first|rfl|(simp only[Xn];rfl)) ?_);refine pL ?_ (by size_fits);simp only[raiseNew];refine zm (wpAny_handled ?_)
 first|rw[show A.in1.handled=none from hh]|rw[hh]
 refine zm (za (wpAny_throw ?_));exact q _ _ (((Yx.update ..).extBut.push _).push _) ⟨_,Heap.get?_push_size _ rfl,rfl⟩
end
section
variable{X:Cx}{pins:List (Addr × Obj)}{σ:St}{H:Hp}{s:Shared}
end
section
variable{prog:Program}{w:World}{A:Around}{E:Value->Shared->Prop}{s:Shared}{z TI TO i1 i2 l1 l2:Addr}{k:Nat}{xs ys:Array Value}{x y a b:Value}
structure ZipAt(h:Heap)(z TI TO i1 i2 l1 l2:Addr)(f:Value)(k:Nat):Prop where
 zp:IsZip h z TI TO f
 ti:IsPair h TI (.ref i1) (.ref i2)
 to:∃a b,IsPair h TO a b
 t1:h.IsTupleIter i1 l1 k
 t2:h.IsTupleIter i2 l2 k
theorem xh(D:ZipApart z TI TO i1 i2 l1 l2)(Z:ZipAt s.heap z TI TO i1 i2 l1 l2 .none k)(p1:s.heap.IsTuple l1 xs)(p2:s.heap.IsTuple l2 ys)(hx:xs[k]? = some x)(hy:ys[k]? = some y)
 (q:∀h',ZipAt h' z TI TO i1 i2 l1 l2 (rawInt s.heap.objs.size) (k+1)->IsPair h' s.heap.objs.size x y->h'.objs.size=s.heap.objs.size+1 ->
  (∀c o,c≠z->c≠TO->c≠i1->c≠i2->s.heap.get? c=some o->h'.get? c=some o)->Q (some (.ref s.heap.objs.size)) { s with heap:=h' }) :
 wpAny (model prog w) A (pyNext (.ref z)) Q E s:=by
 obtain⟨zp,ti,⟨a,b,to⟩,t1,t2⟩:=Z;have ty:s.TypeIs (.ref z) "zip":=⟨_,zp,rfl⟩;unfold pyNext;refine zm (Yj (wpAny_callSpecial?_slot (name:=zI "__next__") ty F.slot_zip_next (r6 F.slot_zip_next ty F.entry_zip_next ?_ (F.args_zip_next_1 _))));show wpAny _ _ (field (.ref z) 2 >>= _) _ _ _;refine zm (ZM zp rfl (x:=.bool false) rfl ?_);show wpAny _ _ (field (.ref z) 3 >>= _) _ _ _;refine zm (ZM zp rfl (x:=.ref TI) rfl (zm (Yw ti rfl ?_)));show wpAny _ _ ((field (.ref z) 0 >>= _) >>= _) _ _ _;refine zm (zm (ZM zp rfl (x:=.none) rfl (za ?_)));simp only[if_true];refine zm (Yo (zm (ZM zp rfl (x:=.ref TO) rfl (zm (Za zp (by simp) fun h1 z1 b1=>zm ?_)))));simp only[List.zipIdx_cons,List.zipIdx_nil,Y5,List.forIn_nil];have e1:=b1.extBut;refine zm (zm (wpAny_onRaise ?_));show wpAny _ _ (ZX (.ref i1) >>= _) _ _ _;refine zm (pB (t1.extBut e1 D.i1z) (p1.extBut e1 D.l1z) hx fun h2 u1 b2=>za ?_);have e2:=b2.extBut;have o2:IsPair h2 TO a b:=e2 _ _ D.TOi1 (e1 _ _ D.TOz to);refine zm (Yw o2 rfl (zm (wpAny_updateSeq_pair o2 fun h3 o3 b3=>zm (wpAny_letGo (za ?_)))));have e3:=b3.extBut;refine zm (zm (wpAny_onRaise ?_));show wpAny _ _ (ZX (.ref i2) >>= _) _ _ _;refine zm (pB (((t2.extBut e1 D.i2z).extBut e2 D.i12.symm).extBut e3 D.TOi2.symm) (((p2.extBut e1 D.l2z).extBut e2 D.l2i1).extBut e3 D.l2TO) hy fun h4 u2 b4=>za ?_);have e4:=b4.extBut;have o4:IsPair h4 TO x b:=e4 _ _ D.TOi2 o3;refine zm (Yw o4 rfl (zm (wpAny_updateSeq_pair o4 fun h5 o5 b5=>zm (wpAny_letGo (za (za ?_))))));have e5:=b5.extBut
 replace o5:IsPair h5 TO x y:=o5
 refine zm (Yw o5 rfl (zm (wpAny_newTuple ?_)));have n5:h5.objs.size=s.heap.objs.size:=by rw[b5.1,b4.1,b3.1,b2.1,b1.1]
 have z5:=Heap.get?_push_of_some ({ cls:=.type "tuple",data:=.seq #[x,y] }:Obj) (e5 _ _ D.TOz.symm (e4 _ _ D.i2z.symm (e3 _ _ D.TOz.symm (e2 _ _ D.i1z.symm z1))));have v1:h5.IsTupleIter i1 l1 (k+1):=((u1.extBut e3 D.TOi1.symm).extBut e4 D.i12).extBut e5 D.TOi1.symm;have v2:h5.IsTupleIter i2 l2 (k+1):=u2.extBut e5 D.TOi2.symm;have kp:∀c o,c≠z->c≠TO->c≠i1->c≠i2->s.heap.get? c=some o->h5.get? c=some o:=fun c o c1 c2 c3 c4 e=>e5 _ _ c2 (e4 _ _ c4 (e3 _ _ c2 (e2 _ _ c3 (e1 _ _ c1 e))));show wpAny _ _ (Builtin.SmallTypes.ownedTupleHandOut (.ref z) (.ref h5.objs.size) >>= _) _ _ _;refine zm ?_;unfold Builtin.SmallTypes.ownedTupleHandOut;refine zm (Za z5 (by simp) fun h6 z6 b6=>Za z6 (by simp) fun h7 z7 b7=>?_);have up:∀c o,c≠z->(h5.push { cls:=.type "tuple",data:=.seq #[x,y] }).get? c=some o->h7.get? c=some o:=fun c o c1 e=>b7.extBut _ _ c1 (b6.extBut _ _ c1 e);have nz:h5.objs.size≠z:=Nat.ne_of_gt (by have:=yr zp;rw[n5];exact this);have n7:h7.objs.size=h5.objs.size+1:=by rw[b7.1,b6.1,Zq]
 have r7:=up _ _ nz (Heap.get?_push_size _ rfl);refine za ⟨_,rfl,?_⟩
 replace z7:IsZip h7 z TI TO (rawInt h5.objs.size):=z7
 rw[n5]at n7 z7 r7;show wpAny _ _ (pure (some (yy h5.objs.size))) _ _ _;rw[n5];exact za (q h7 ⟨z7,up _ _ D.TIz (Heap.get?_push_of_some _ (kp _ _ D.TIz D.TITO D.TIi1 D.TIi2 ti)),⟨_,_,up _ _ D.TOz (Heap.get?_push_of_some _ o5)⟩,v1.at fun o e=>up _ o D.i1z (Heap.get?_push_of_some _ e),v2.at fun o e=>up _ o D.i2z (Heap.get?_push_of_some _ e)⟩ r7 n7 fun c o c1 c2 c3 c4 e=>up c o c1 (Heap.get?_push_of_some _ (kp c o c1 c2 c3 c4 e)))
theorem oK(hh:A.handled=none)(D:ZipApart z TI TO i1 i2 l1 l2)(Z:ZipAt s.heap z TI TO i1 i2 l1 l2 .none k)(p1:s.heap.IsTuple l1 xs)(hx:xs[k]? = none)
 (q:∀h',(∀c o,c≠z->c≠i1->s.heap.get? c=some o->h'.get? c=some o)->Q none { s with heap:=h' }):wpAny (model prog w) A (pyNext (.ref z)) Q E s:=by
 obtain⟨zp,ti,⟨a,b,to⟩,t1,t2⟩:=Z;have ty:s.TypeIs (.ref z) "zip":=⟨_,zp,rfl⟩;unfold pyNext;refine zm (Yj (wpAny_callSpecial?_slot (name:=zI "__next__") ty F.slot_zip_next (r6 F.slot_zip_next ty F.entry_zip_next ?_ (F.args_zip_next_1 _))));show wpAny _ _ (field (.ref z) 2 >>= _) _ _ _;refine zm (ZM zp rfl (x:=.bool false) rfl ?_);show wpAny _ _ (field (.ref z) 3 >>= _) _ _ _;refine zm (ZM zp rfl (x:=.ref TI) rfl (zm (Yw ti rfl ?_)));show wpAny _ _ ((field (.ref z) 0 >>= _) >>= _) _ _ _;refine zm (zm (ZM zp rfl (x:=.none) rfl (za ?_)));simp only[if_true];refine zm (Yo (zm (ZM zp rfl (x:=.ref TO) rfl (zm (Za zp (by simp) fun h1 z1 b1=>zm ?_)))));simp only[List.zipIdx_cons,List.zipIdx_nil,Y5,List.forIn_nil];have e1:=b1.extBut;refine zm (zm (wpAny_onRaise ?_));show wpAny _ _ (ZX (.ref i1) >>= _) _ _ _;refine zm (Az hh (t1.extBut e1 D.i1z) (p1.extBut e1 D.l1z) hx fun h2 e e2 he=>?_);obtain⟨oe,ge,ce⟩:=he;have z2:=e2 _ _ D.i1z.symm z1;have ez:e≠z:=fun y=>by subst y;rw[z2]at ge;cases ge;simp at ce
 refine Za z2 (by simp) fun h3 _ b3=>?_;exact zm (Xi (T:="StopIteration") (b:=true) ⟨oe,b3.extBut _ _ ez ge,ce⟩ isSubtype_stop (za (q h3 fun c o c1 c2 y=>b3.extBut _ _ c1 (e2 _ _ c2 (e1 _ _ c1 y)))))
end
abbrev zT(l:Addr):Obj:={ cls:=.type "tuple_iterator",data:=.fields #[.ref l,.int 0 0] }
abbrev zP(x y:Value):Obj:={ cls:=.type "tuple",data:=.seq #[x,y] }
def wY(h:Heap)(l1 l2:Addr):Heap:=((((h.push (zT l1)).push (zT l2)).push (zP (.ref h.objs.size) (.ref (h.objs.size+1)))).push (zP .none .none)).push { cls:=.type "zip",data:=.fields #[.none,.bool false,.bool false,.ref (h.objs.size+2),.ref (h.objs.size+3)] }
theorem zX(l1 l2:Addr)(xs ys:Array Value) :
 Meets (Builtin.«zip.__new__» ⟨[.type "zip",.ref l1,.ref l2],[]⟩) (fun _ R s=>s.heap.IsTuple l1 xs/\s.heap.IsTuple l2 ys/\R (.ok (.ret (.ref (s.heap.objs.size+4)))) { s with heap:=wY s.heap l1 l2 }):=
 .of_wp fun prog w A R s ⟨p1,p2,h⟩=>by
  obtain⟨hp,g,d,tk,os⟩:=s;have sub:=sub_zip;have q1:Heap.IsTuple (Shared.heap ⟨hp,g,d,tk,os⟩) l1 xs:=p1;have q2:Heap.IsTuple (Shared.heap ⟨hp.push (zT l1),g,d,tk,os⟩) l2 ys:=p2.push _;have h2:R (.ok (.ret (.ref ((((hp.push (zT l1)).push (zT l2)).push (zP (.ref hp.objs.size) (.ref (hp.push (zT l1)).objs.size))).push (zP .none .none)).objs.size))) ⟨((((hp.push (zT l1)).push (zT l2)).push (zP (.ref hp.objs.size) (.ref (hp.push (zT l1)).objs.size))).push (zP .none .none)).push { cls:=.type "zip",data:=.fields #[.none,.bool false,.bool false,.ref ((hp.push (zT l1)).push (zT l2)).objs.size,.ref (((hp.push (zT l1)).push (zT l2)).push (zP (.ref hp.objs.size) (.ref (hp.push (zT l1)).objs.size))).objs.size] },g,d,tk,os⟩:=by
   simp only[Zq];exact h
  wp_walk using wpAny_pyIter_tuple q1,wpAny_pyIter_tuple q2
  exact⟨_,rfl,h2⟩
section
variable{prog:Program}{w:World}{A:Around}{E:Value->Shared->Prop}{s:Shared}
theorem xI(p1:s.heap.IsTuple l1 xs)(p2:s.heap.IsTuple l2 ys)
 (h:∀h',ZipAt h' (s.heap.objs.size+4) (s.heap.objs.size+2) (s.heap.objs.size+3) s.heap.objs.size (s.heap.objs.size+1) l1 l2 .none 0->(∀c o,s.heap.get? c=some o->h'.get? c=some o)->Q (.ref (s.heap.objs.size+4)) { s with heap:=h' }) :
 wpAny (model prog w) A (call (.type "zip") [.ref l1,.ref l2]) Q E s:=by
 refine callType_new F.called_zip (by decide) (F.typeCall_zip_2 _ _) (F.newCall_zip_2 _ _) (fun obj=>F.args_object_init_3 obj _ _) F.entry_zip_new (zX l1 l2 xs ys) ⟨p1,p2,?_⟩;have g5:(wY s.heap l1 l2).get? (s.heap.objs.size+4)=some _:=Heap.get?_push_at (by simp only[Zq]) rfl;have g4:(wY s.heap l1 l2).get? (s.heap.objs.size+3)=some _:=Heap.get?_push_of_some _ (Heap.get?_push_at (by simp only[Zq]) rfl);have g3:(wY s.heap l1 l2).get? (s.heap.objs.size+2)=some _:=Heap.get?_push_of_some _ (Heap.get?_push_of_some _ (Heap.get?_push_at (by simp only[Zq]) rfl));have g2:(wY s.heap l1 l2).get? (s.heap.objs.size+1)=some _:=Heap.get?_push_of_some _ (Heap.get?_push_of_some _ (Heap.get?_push_of_some _ (Heap.get?_push_at (by simp only[Zq]) rfl)));have g1:(wY s.heap l1 l2).get? s.heap.objs.size=some _:=Heap.get?_push_of_some _ (Heap.get?_push_of_some _ (Heap.get?_push_of_some _ (Heap.get?_push_of_some _ (Heap.get?_push_at rfl rfl))));exact⟨⟨_,g5,rfl⟩,h _ ⟨g5,g3,⟨_,_,g4⟩,⟨_,g1,rfl,rfl⟩,⟨_,g2,rfl,rfl⟩⟩ fun c o x=>Heap.get?_push_of_some _ (Heap.get?_push_of_some _ (Heap.get?_push_of_some _ (Heap.get?_push_of_some _ (Heap.get?_push_of_some _ x))))⟩
end
section
variable{X:Cx}{pins:List (Addr × Obj)}{σ:St}{H:Hp}{s:Shared}
theorem Inv.turnedN{h':Heap}(I:Inv X pins σ H s):∀ch:List Addr,(∀b∈ch,jq X pins H b/\(∃o,s.heap.get? b=some o)/\∃o,h'.get? b=some o/\o.isFreed=false) ->
 ∃h2:Heap,h2.objs.size=s.heap.objs.size/\Inv X pins σ H { s with heap:=h2,toks:=t' }/\(∀b∈ch,h2.get? b=h'.get? b)/\∀b,b∉ch->h2.get? b=s.heap.get? b
 | [],_=>⟨s.heap,rfl,I.tok t',(fun _ m=>nomatch m),fun _ _=>rfl⟩
 |c::r,h=>by
  obtain⟨h2,z2,I2,e2,k2⟩:=I.turnedN (h':=h') (t':=t') r fun b m=>h b (.tail _ m);obtain⟨fc,⟨oc,gc⟩,o,g,fr⟩:=h c (.head _);have gh:∃o2,h2.get? c=some o2:=by
   by_cases m:c∈r
   ·exact⟨o,(e2 c m).trans g⟩
   ·exact⟨oc,(k2 c m).trans gc⟩
  obtain⟨o2,gh⟩:=gh;refine⟨h2.update c fun _=>o,by rw[Heap.size_update];exact z2,I2.turned (t':=t') (fun b o hb q=>(Heap.get?_update_other _ _ (Ne.symm hb)).trans q) fc.1 fc.2.1 fc.2.2.2.1 fc.2.2.2.2.1 fc.2.2.2.2.2,fun b m=>?_,fun b m=>?_⟩
  ·by_cases e:b=c
   ·subst e
    rw[Heap.get?_update_self _ gh fr,g]
   ·rw[Heap.get?_update_other _ _ (Ne.symm e)]
    exact e2 b ((zG.mp m).resolve_left e)
  ·rw[Heap.get?_update_other _ _ (fun e=>m (by rw[e];exact .head _))]
   exact k2 b fun z=>m (.tail _ z)
theorem Inv.turnedC{h':Heap}{t':Nat}{ch:List Addr}(I:Inv X pins σ H s)(k:∀b o,b∉ch->s.heap.get? b=some o->h'.get? b=some o)(hf:∀b∈ch,jq X pins H b):Inv X pins σ H { s with heap:=h',toks:=t' }:=by
 have nit:∀b u,H b=some u->b∉ch:=fun b u e m=>by rw[(hf b m).1]at e;cases e
 refine I.step (g':=s.gens) (d':=s.drawn) (ch:=ch) (fun b hb=>?_) (fun b o _ _ hc e _=>k b o hc e) (fun b o _ _ hc e _=>⟨o.slots,k b o hc e⟩) (fun _ _ _ _ n=>n)
  (fun b o hc e=>⟨o,k b o hc e⟩) (fun _ _ e=>e) (fun _ _ _ e=>e) (fun b ps e=>⟨#[],by rw[e];simp⟩) (fun m hm=>?_) (fun b u e=>?_) I.bare
 ·have f:=hf b hb
  exact⟨f.2.2.2.1,f.2.1,f.2.2.2.2.1,f.2.2.2.2.2⟩
 ·obtain⟨o,es,ep,ho,r⟩:=hm
  exact⟨o,es,ep,k _ o (fun m=>(hf _ m).2.1 rfl) ho,r⟩
 ·refine(I.hok b u e).stay (fun c v hc q=>k c v ?_ q) (fun _ q=>q) fun _ _ q=>q
  rcases hc with z|z
  ·rw[z];exact nit b u e
  ·exact nit c _ z
def Itz(K:W.Frag)(a b:Addr):It:=
 ⟨fun i H=>∃xs ys x y,SqT K H a xs/\SqT K H b ys/\xs[i]? = some x/\ys[i]? = some y,fun i H v H'=>∃p x y,H p=none/\v = .ref p/\H'=upd H p (.tup [x,y])/\(∀xs,SqT K H a xs->xs[i]? = some x)/\∀ys,SqT K H b ys->ys[i]? = some y,fun i H=>∃xs,SqT K H a xs/\xs.length<=i⟩
theorem ZipAt.fp{h:Heap}{z TI TO i1 i2 l1 l2:Addr}{f:Value}{k:Nat}(Z:ZipAt h z TI TO i1 i2 l1 l2 f k):∀b∈[z,TI,TO,i1,i2],∃o,h.get? b=some o/\(∀v,o.data ≠ .cell v)/\o.isFreed=false:=by
 obtain⟨zp,ti,⟨a,b,to⟩,⟨o1,g1,_,d1⟩,⟨o2,g2,_,d2⟩⟩:=Z;intro b hb;simp only[zG,xz,or_false]at hb;rcases hb with rfl|rfl|rfl|rfl|rfl
 ·exact⟨_,zp,(fun v z=>nomatch z),rfl⟩
 ·exact⟨_,ti,(fun v z=>nomatch z),rfl⟩
 ·exact⟨_,to,(fun v z=>nomatch z),rfl⟩
 ·exact⟨_,g1,(fun v z=>by rw[d1]at z;cases z),YX d1⟩
 ·exact⟨_,g2,(fun v z=>by rw[d2]at z;cases z),YX d2⟩
theorem ZipAt.mv{h h':Heap}{z TI TO i1 i2 l1 l2:Addr}{f:Value}{k:Nat}(Z:ZipAt h z TI TO i1 i2 l1 l2 f k)(e:∀b∈[z,TI,TO,i1,i2],∀o,h.get? b=some o->h'.get? b=some o):ZipAt h' z TI TO i1 i2 l1 l2 f k:=by
 obtain⟨zp,ti,⟨a,b,to⟩,t1,t2⟩:=Z;exact⟨e z (by simp) _ zp,e TI (by simp) _ ti,⟨a,b,e TO (by simp) _ to⟩,t1.at fun o q=>e i1 (by simp) o q,t2.at fun o q=>e i2 (by simp) o q⟩
theorem yo{P:Program}{w:World}{K:W.Frag}{elts:List Expr}{cx:_}{pos:Pos}{a b z TI TO i1 i2:Addr}(D:ZipApart z TI TO i1 i2 a b) :
 tB P w K (.Tuple elts cx pos) (Itz K a b) [z,TI,TO,i1,i2] z (fun i h=>ZipAt h z TI TO i1 i2 a b .none i) where
 mem:=by simp
 obj:=fun i h Z c hc=>by
  obtain⟨o,g,n,_⟩:=Z.fp c hc;exact⟨o,g,n⟩
 keep:=fun i h h' Z k=>Z.mv k
 item:=by
  intro X hP hw hK hc i pins s σ H E I hf Z hg;subst hP hw hK;obtain⟨xs,ys,x,y,q1,q2,hx,hy⟩:=hg;obtain⟨v1,r1,p1,_⟩:=I.tuple q1;obtain⟨v2,r2,p2,_⟩:=I.tuple q2;obtain⟨u1,hu1,ru1⟩:=r1.get hx;obtain⟨u2,hu2,ru2⟩:=r2.get hy;have lt:∀c∈[z,TI,TO,i1,i2],c<s.heap.objs.size:=fun c hc=>by
   obtain⟨o,g,_⟩:=Z.fp c hc;exact yr g
  refine xh D Z (show s.heap.IsTuple a v1.toArray from p1) (show s.heap.IsTuple b v2.toArray from p2) (x:=u1) (y:=u2) (by simpa using hu1) (by simpa using hu2) fun h' Z1 t1 n1 k1=>?_;obtain⟨h3,z3,I3,e3,k3⟩:=I.turnedN (h':=h') (t':=s.toks) [z,TI,TO,i1,i2] fun c hc=>by
   obtain⟨o,g,_⟩:=Z.fp c hc;obtain⟨o',g',_,f'⟩:=Z1.fp c hc;exact⟨hf c hc,⟨o,g⟩,o',g',f'⟩
  have kk:∀c o,h3.get? c=some o->h'.get? c=some o:=fun c o q=>by
   by_cases hc:c∈[z,TI,TO,i1,i2]
   ·rw[e3 c hc]at q;exact q
   ·rw[k3 c hc]at q
    simp only[zG,xz,or_false,not_or]at hc;exact k1 c o hc.1 hc.2.2.1 hc.2.2.2.1 hc.2.2.2.2 q
  have hn:=I.hok.fresh (z4 s.heap.objs.size);have I4:Inv X pins σ (upd H s.heap.objs.size (.tup [x,y])) { s with heap:=h',toks:=s.toks }:=
   I3.laid (t':=s.toks) kk (Nat.le_of_eq z3) (show ObjOk X.prog X.w _ h' _ (.tup [x,y]) from⟨by show 2<=sizeLine;rw[uS];decide,[u1,u2],.cons ru1 (.cons ru2 .nil),⟨_,t1,rfl,0,rfl⟩⟩)
  have nH:∀c,c<s.heap.objs.size->upd H s.heap.objs.size (.tup [x,y]) c=H c:=fun c l=>ah (xK l);have fz:=hf z (by simp);refine⟨_,rfl,wpAny_letOwnedTupleGo_zip (s:={ s with heap:=h' }) Z1.zp fun h5 e5 s5=>?_⟩;have I5:Inv X pins σ (upd H s.heap.objs.size (.tup [x,y])) { s with heap:=h5,toks:=s.toks }:=
   I4.turned (t':=s.toks) (fun c o hb q=>(s5.2 c hb).trans q) ((nH z (lt z (by simp))).trans fz.1) fz.2.1 fz.2.2.2.1 fz.2.2.2.2.1 fz.2.2.2.2.2
  have ex:=s5.extBut;obtain⟨c1,c2⟩:=Z1.to;obtain⟨c2,c3⟩:=c2;refine⟨.ref s.heap.objs.size,_,I5,rfl,⟨_,x,y,hn,rfl,rfl,(fun zs hz=>by rw[I.tuple_inj hz q1];exact hx),fun zs hz=>by rw[I.tuple_inj hz q2];exact hy⟩,⟨e5,ex _ _ D.TIz Z1.ti,⟨_,_,ex _ _ D.TOz c3⟩,Z1.t1.extBut ex D.i1z,Z1.t2.extBut ex D.i2z⟩,fun c hc=>(nH c (lt c hc)).trans (hf c hc).1⟩
 done:=by
  intro X hP hw hK hc i pins s σ H E I hf Z hg;subst hP hw hK;obtain⟨xs,hq,hx⟩:=hg;obtain⟨its,rv,p,_⟩:=I.tuple hq;have hl:=rv.length;exact oK (I.ok.hd hc) D Z (show s.heap.IsTuple a its.toArray from p) (by simp;lia) fun h' k1=>⟨rfl,I.turnedC (ch:=[z,TI,TO,i1,i2]) (t':=s.toks) (fun c o hc e=>k1 c o (fun y=>hc (by simp[y])) (fun y=>hc (by simp[y])) e) hf⟩
 self:=fun _ _ _ _ _ Z h=>wpAny_pyIter_zip Z.zp h
def DR(K:W.Frag)(ta tb:TE):TI:=fun σ H R=>ta σ H fun x H1=>tb σ H1 fun y H2=>∃a b,x = .ref a/\y = .ref b/\(∃xs,SqT K H2 a xs)/\(∃ys,SqT K H2 b ys)/\R (Itz K a b) H2
theorem BV{x y:Expr}{ta tb:TE}{p pos:Pos}{elts:List Expr}{cx:_}{tp:Pos}(K:W.Frag)(hg:Gl X "zip")(hm:X.mg "zip" = none)(ha:PE X x ta)(hb:PE X y tb)(hs:starEach [x,y] X.env=(false,eval x X.env)::starEach [y] X.env:=by rfl)(hs2:starEach [y] X.env=[(false,eval y X.env)]:=by rfl)(hpl:(backTo pos (starEach [y] X.env)).any (·.1)=false:=by rfl)(hK:X.K=K:=by rfl) :
 PI X (.Tuple elts cx tp) (.Call (.Name "zip" p) [x,y] [] pos) (DR K ta tb):=by
 subst hK;intro pins s σ H R I h;refine Call_ (gU I hg hm (show qK "zip" = some (.type "zip") by decide +kernel) (Z0 ?_ hs hpl));rw[hs,hs2];refine ZE (thn (ha pins s σ H _ I h) fun v s1 ⟨x,H1,I1,rx,q1⟩=>ZE (thn (hb pins s1 σ H1 _ I1 q1) fun v2 s2 ⟨y,H2,I2,ry,a,b,ex,ey,⟨xs,hx⟩,⟨ys,hy⟩,q⟩=>?_));subst ex ey;cases (show v=yy a from rx);cases (show v2=yy b from ry);obtain⟨i1,r1,p1,_⟩:=I2.tuple hx;obtain⟨i2,r2,p2,_⟩:=I2.tuple hy;have t1:s2.heap.IsTuple a i1.toArray:=p1;have t2:s2.heap.IsTuple b i2.toArray:=p2;have l1:a<s2.heap.objs.size:=by obtain⟨_,e,_⟩:=t1;exact yr e
 have l2:b<s2.heap.objs.size:=by obtain⟨_,e,_⟩:=t2;exact yr e
 refine YK (xI t1 t2 fun h' Z k=>wpAny_pyIter_zip (s:={ s2 with heap:=h' }) Z.zp ?_);refine⟨_,_,_,_,_,rfl,I2.kept (t':=s2.toks) k,yo (zipApart_new l1 l2),Z,fun c hc=>?_,q⟩;have le:s2.heap.objs.size<=c:=by
  simp only[zG,xz,or_false]at hc;rcases hc with rfl|rfl|rfl|rfl|rfl
  ·exact Nat.le_add_right _ _
  ·exact Nat.le_add_right _ _
  ·exact Nat.le_add_right _ _
  ·exact z4 _
  ·exact Nat.le_add_right _ _
 exact I2.fpOk le (I2.hok.fresh le)
theorem zr{K:W.Frag}{ta tb:TE}{g:TG}{t:TS}{D:eO}{σ:St}{H:Hp}(h:ta σ H fun x H1=>tb σ H1 fun y H2=>∃a b,x = .ref a/\y = .ref b/\(∃xs,SqT K H2 a xs)/\(∃ys,SqT K H2 b ys)/\FE (Itz K a b) g t D σ H2):nV (DR K ta tb) g t D σ H:=h
theorem zD{K:W.Frag}{a b:Addr}{xs ys:List V}{g:TG}{tb:TS}{D:eO}{σ:St}{H:Hp}(hlen:xs.length=ys.length)(Pv:Nat->St->Hp->Prop)(h0:Pv 0 σ H)(hl:∀i σ H,Pv i σ H->SqT K H a xs/\SqT K H b ys)
 (hs:∀i x y σ H p,xs[i]? = some x->ys[i]? = some y->H p=none->Pv i σ H->g (.ref p) σ (upd H p (.tup [x,y])) fun σ2 H2=>tb { D with nx:=Pv (i+1),ct:=Pv (i+1),bk:=D.nx } σ2 H2) (hd:∀σ H,Pv xs.length σ H->D.nx σ H):FE (Itz K a b) g tb D σ H:=by
 refine⟨fun i m σ H=>m=xs.length-i/\i<=xs.length/\Pv i σ H,⟨_,rfl,ud _,h0⟩,?_⟩;rintro i m σ H ⟨rfl,hi,p⟩;obtain⟨q1,q2⟩:=hl i σ H p;rcases Nat.lt_or_ge i xs.length with lt|ge
 ·have lt2:i<ys.length:=by lia
  refine .inr ⟨⟨xs,ys,xs[i],ys[i],q1,q2,by simp[lt],by simp[lt2]⟩,Pv (i+1),fun σ' H' p'=>⟨_,by lia,rfl,lt,p'⟩,?_⟩;rintro v H' ⟨r,x,y,hr,rfl,rfl,hx,hy⟩;exact hs i x y σ H r (hx xs q1) (hy ys q2) hr p
 ·obtain rfl:i=xs.length:=XU hi ge
  exact .inl ⟨⟨xs,q1,z4 _⟩,hd σ H p⟩
end
end L2
namespace L2
open PySem PySem.Spec PyProof.Rows
namespace Srt
section
variable{prog:Program}{w:World}{A:Around}{E:Value->Shared->Prop}{s:Shared}
theorem TwoS.key(x:TwoS h p e):IsTupleKey (bb prog w) h (kP e) p:=by
 obtain⟨o,t,u,n,ho,hc,hd⟩:=x;exact⟨o,_,n,ho,hc,hd,.cons (by simp[bb,lE,XZ]) (.cons (by simp[bb,lE,XZ]) .nil)⟩
theorem Dj(hu:A.units<cLine)(hp:TwoS s.heap p a)(hq:TwoS s.heap q b)(h:Q (.bool (decide (ltP a b))) s) :
 wpAny (model prog w) A (richCompare .Lt (.ref p) (.ref q)) Q E s:=by
 obtain⟨x,y⟩:=a;obtain⟨x',y'⟩:=b;obtain⟨o,t,u,n,ho,hc,hd⟩:=hp;obtain⟨o',t',u',n',ho',hc',hd'⟩:=hq;have t1:s.TypeIs (.ref p) "tuple":=⟨o,ho,hc⟩;have t2:s.TypeIs (.ref q) "tuple":=⟨o',ho',hc'⟩;refine wpAny_richCompare_same_room (op:=.Lt) t1 t2 F.slot_tuple_lt (r6 F.slot_tuple_lt t1 F.entry_tuple_lt ?_ (F.args_tuple_lt_2 _ _)) hu;show wpAny _ _ (isInstance (.ref q) (.type "tuple") >>= _) _ _ s;refine zm (Xi t2 AutoSeq1.sub_tuple_tuple ?_);simp only[Xz,sY,if_false];refine zm (wpAny_tupleItemsOf ho hd (zm (wpAny_tupleItemsOf ho' hd' ?_)));show wpAny _ _ (forIn [(Z9 ⟨⟨x⟩⟩ t,Z9 ⟨⟨x'⟩⟩ t'),(Z9 ⟨⟨y⟩⟩ u,Z9 ⟨⟨y'⟩⟩ u')] (none,()) _ >>= _) _ _ s;rw[Y5];refine zm (zm (zm (Xh ?_)));by_cases e:x=x'
 ·subst e
  simp only[decide_true,Xz,sY,if_false];refine za ?_;simp only[Y5];refine zm (zm (Xh ?_));by_cases e2:y=y'
  ·subst e2
   simp only[decide_true,Xz,sY,if_false];refine za ?_;simp only[List.forIn_nil];refine za (za ⟨_,rfl,(fun z=>nomatch z),?_⟩);rw[decide_eq_false (nO _)]at h;exact h
  ·simp only[qw e2,Bool.not_false,if_true]
   refine zm (Yo (zm (PySem.P.lt_str (zm (za (za (za (za ⟨_,rfl,(fun z=>nomatch z),?_⟩))))))));rw[show decide (ltP (x,y) (x,y'))=decide (y<y') from decide_eq_decide.mpr ⟨fun z=>z.elim (fun z=>absurd z (List.lt_irrefl _)) (·.2),fun z=>.inr ⟨rfl,z⟩⟩]at h;exact h
 ·simp only[qw e,Bool.not_false,if_true]
  refine zm (Yo (zm (PySem.P.lt_str (zm (za (za (za (za ⟨_,rfl,(fun z=>nomatch z),?_⟩))))))));rw[show decide (ltP (x,y) (x',y'))=decide (x<x') from decide_eq_decide.mpr ⟨fun z=>z.elim id fun z=>absurd z.1 e,.inl⟩]at h;exact h
def NumS(h:Heap)(p:Addr)(e:Pt):Prop:=∃(o:Obj) (q:Addr) (i:Int) (t:Tok) (n:Nat),h.get? p=some o/\o.cls = .type "tuple" /\ o.data = .seq #[.ref q,.int i t] n/\TwoS h q e
theorem cmp_N{h:Heap}{os:OsState}{vs:List Value}{κ:Value->Int}{f:Value->Pt}(hu:A.units<cLine)(h2:2<=vs.length)(hv:∀v∈vs,∃p,v = .ref p/\NumS h p (f v))(hi:∀u∈vs,∀v∈vs,f u=f v->u=v)(hk:∀u∈vs,∀v∈vs,(ltP (f u) (f v)↔κ u<κ v)):Cmp prog w A h os (tuples' false) κ vs where
 kind E s Q e q:=by
  subst e;have go:∀(l:List Value),(∀v∈l,v∈vs)->∃fs,PySem.W.KatTups s.heap l fs/\fs.length=l.length/\∀v∈fs,∃q e,v = .ref q/\TwoS s.heap q e:=by
   intro l
   induction l with
   |nil=>intro _;exact⟨[],PySem.W.KatTups.nil,rfl,fun _ m=>nomatch m⟩
   |cons v r ih=>
    intro hm;obtain⟨fs,t,hl,hf⟩:=ih fun u m=>hm u (.tail _ m);obtain⟨p,rfl,o,q,i,t1,n,ho,hc,hd,w1⟩:=hv v (hm v (.head _));refine⟨.ref q::fs,PySem.W.KatTups.cons ho hc hd rfl t,by simp[hl],fun u m=>?_⟩;rcases zG.mp m with rfl|m
    ·exact⟨q,_,rfl,w1⟩
    ·exact hf u m
  obtain⟨fs,t,hl,hf⟩:=go vs fun _ m=>m;refine PySem.W.kat_kind (T:=.type "tuple") t (by lia) (fun v m=>?_) (by decide) q;obtain⟨p,e,rfl,o,t1,u1,n,ho,hc,_⟩:=hf v m;exact hc ▸ (PySem.W.Looks.ld ho).andThen .now
 lt E s u v Q e mu mv q:=by
  subst e;have hk':=hk u mu v mv;by_cases eq:f u=f v
  ·have:=hi u mu v mv eq
   subst this;obtain⟨p,rfl,o,a,i,t,n,ho,hc,hd,w1⟩:=hv u mu;refine PySem.W.kat_lt ho hd ho hd (PySem.W.kat_cons (wpAny_eqBool_tuple (knd:=bb prog w) hu w1.key w1.key ?_));rw[decide_eq_true rfl];refine PySem.W.kat_yes (PySem.W.kat_cons (wpAny_eqBool_int ?_));rw[beq_self_eq_true];refine PySem.W.kat_yes (PySem.W.kat_nil ?_);rw[decide_eq_false (Int.lt_irrefl _)]at q;exact q
  ·obtain⟨p,rfl,o,a,i,t,n,ho,hc,hd,w1⟩:=hv u mu
   obtain⟨p',rfl,o',a',i',t',n',ho',hc',hd',w2⟩:=hv v mv;refine PySem.W.kat_lt ho hd ho' hd' (PySem.W.kat_cons (wpAny_eqBool_tuple (knd:=bb prog w) hu w1.key w2.key ?_));rw[decide_eq_false fun z=>eq (kJ z)];refine PySem.W.kat_no ?_;show wpAny _ _ (oneLt' false (.ref a) (.ref a')) _ _ s;rw[oneLt'_eq];simp only[sY,if_false];refine zm (Dj hu w1 w2 (Zp ?_))
   rwa [decide_eq_decide.mpr hk']
end
end Srt
section
variable{X:Cx}{pins:List (Addr × Obj)}{σ:St}{H:Hp}{s:Shared}
structure Nm where
 p:Addr
 q:Addr
 e:Pt
 i:Int
abbrev NmAt(H:Hp)(x:Nm):Prop:=H x.p=some (.tup [.ref x.q,.int x.i])/\KAt H x.q x.e
def nOf(ps:List Nm)(v:Value):Nm:=(ps.find? fun e=>v == .ref e.p).getD ⟨0,0,([],[]),0⟩
theorem Fd(hn:∀e∈ps,NmAt H e)(m:x∈ps):nOf ps (.ref x.p)=x:=by
 unfold nOf;cases f:ps.find? fun e=>yy x.p == .ref e.p with
 |none=>exact absurd (List.find?_eq_none.mp f x m) (by simp)
 |some z=>
  have e1:x.p=z.p:=by have:=eq_of_beq (show(yy x.p == .ref z.p)=true from List.find?_some (p:=fun e:Nm=>yy x.p == .ref e.p) f);injection this
  obtain⟨a1,a2⟩:=hn z (List.mem_of_find?_eq_some f);obtain⟨b1,b2⟩:=hn x m;rw[<- e1]at a1;have e2:=a1.symm.trans b1;injection e2 with e2;injection e2 with e2
  injection e2 with e3 e4;injection e4 with e4 _;injection e3 with e3;injection e4 with e4
  rw[e3]at a2;have e5:=a2.symm.trans b2;injection e5 with e5;injection e5 with e5
  have e6:=yU e5;cases z;cases x;simp at *;exact⟨e1.symm,e3,e6,e4⟩
theorem Inv.numS(I:Inv X pins σ H s)(h:NmAt H x):Srt.NumS s.heap x.p x.e:=by
 obtain⟨_,its,r0,o,ho,hc,n,hd⟩:=(show ObjOk X.prog X.w H s.heap x.p (.tup [.ref x.q,.int x.i]) from I.hok _ _ h.1);have r:Vals [.ref x.q,.int x.i] its:=r0;clear r0;cases r with
 |cons r1 r=>
  cases r with
  |cons r2 r=>
   cases r;cases (show _=yy x.q from r1);obtain⟨u,rfl⟩:=r2;exact⟨o,x.q,x.i,u,n,ho,hc,hd,I.twoS h.2⟩
theorem Dp{ps:List Nm}(r:Vals (ps.map fun e=>V.ref e.p) its):its=ps.map fun e=>yy e.p:=by
 induction ps generalizing its with
 |nil=>cases r;rfl
 |cons e ps ih=>
  cases r with
  |cons r1 r2=>rw[ih r2];cases (show _=yy e.p from r1);rfl
theorem v7:∀ps:List Nm,Vals (ps.map fun e=>V.ref e.p) (ps.map fun e=>yy e.p)
 | []=>.nil
 |e::ps=>.cons rfl (v7 ps)
def A6(K:W.Frag):List V->Hp->VK->Prop
 | [.ref l],H,Q=>∃ps:List Nm,SqL K H l (ps.map fun e=>.ref e.p)/\(∀e∈ps,NmAt H e)/\ps.length<64/\(ps.map (·.e)).Nodup /\
  ∀out:List Nm,out.Perm ps->qV (out.map (·.e))->∀r,H r=none->Q (.ref r) (upd H r (.lst (out.map fun e=>.ref e.p)))
 |_,_,_=>False
theorem AO(K:W.Frag)(hu:X.A.units+100<cLine)(hK:X.K=K:=by rfl):CallR X (.builtin "sorted") (A6 K):=by
 subst hK;intro pins s σ H xs us Q I r h;unfold A6 at h;split at h
 ·rename_i p
  obtain⟨ps,hq,hp,h64,nd,q⟩:=h;obtain⟨u,rfl,rx⟩:=eL r;cases (show u=yy p from rx);obtain⟨its,r',pl,hz⟩:=I.list hq;have ei:=Dp r';subst ei;have inv:∀e∈ps,nOf ps (.ref e.p)=e:=fun e m=>Fd hp m;have em:(ps.map fun e=>yy e.p).map (fun v=>(nOf ps v).e)=ps.map (·.e):=by
   rw[ug];exact rE fun e m=>congrArg Nm.e (inv e m)
  have mk:∀v∈ps.map (fun e=>yy e.p),(nOf ps v).e∈ps.map (·.e):=fun v m=>by rw[<- em];exact xF (f:=fun v=>(nOf ps v).e) m
  have nd2:((ps.map fun e=>yy e.p).map fun v=>(rnk (ps.map (·.e)) (nOf ps v).e:Int)).Nodup:=by
   rw[show(ps.map fun e=>yy e.p).map (fun v=>(rnk (ps.map (·.e)) (nOf ps v).e:Int))=((ps.map fun e=>yy e.p).map (fun v=>(nOf ps v).e)).map (fun e=>(rnk (ps.map (·.e)) e:Int)) by simp only[ug];rfl,em];refine Yp.mpr (YE (fun {a b} ma mb ne e=>?_) nd);rcases pN a b with g|g|g
   ·have:=(fQ ma mb).mp g;lia
   ·exact ne g
   ·have:=(fQ mb ma).mp g;lia
  have ap:∀x∈ps,∀y∈ps,x.e=y.e->x=y:=fun x mx y my e=>by
   obtain⟨i,hi,rfl⟩:=Xb mx;obtain⟨j,hj,rfl⟩:=Xb my;have n:=Zk.mp nd;rcases Nat.lt_trichotomy i j with l|l|l
   ·exact absurd (by rw[ZD,ZD];exact e) (n i j (by simpa using hi) (by simpa using hj) l)
   ·subst l;rfl
   ·exact absurd (by rw[ZD,ZD];exact e.symm) (n j i (by simpa using hj) (by simpa using hi) l)
  refine Srt.sorted_by (kd:=tuples' false) (κ:=fun v=>(rnk (ps.map (·.e)) (nOf ps v).e:Int)) pl.isList (by simpa using h64) nd2 (fun h2 h' kp=>Srt.cmp_N (f:=fun v=>(nOf ps v).e) (by show X.A.units+1+1<cLine;lia) (by simpa using h2) (fun v m=>?_) (fun u mu v mv e=>?_) fun u mu v mv=>fQ (mk u mu) (mk v mv)) fun out h' cc pm sr kp e=>?_
  ·obtain⟨x,mx,rfl⟩:=yH.mp m
   refine⟨x.p,rfl,?_⟩;rw[inv x mx];obtain⟨o,q,i,t,n,ho,hc,hd,w1⟩:=I.numS (hp x mx);exact⟨o,q,i,t,n,kp _ _ ho,hc,hd,w1.keep kp⟩
  ·obtain⟨x,mx,rfl⟩:=yH.mp mu
   obtain⟨y,my,rfl⟩:=yH.mp mv;rw[inv x mx,inv y my]at e;rw[ap x mx y my e]
  ·have fs:∀v∈out,∃e∈ps,v=yy e.p:=fun v m=>by
    obtain⟨e,me,rfl⟩:=yH.mp (pm.mem_iff.mp m);exact⟨e,me,rfl⟩
   have pm':(out.map (nOf ps)).Perm ps:=by
    have:=pm.map (nOf ps)
    rwa [ug,(rE fun e m=>inv e m:ps.map (nOf ps ∘ fun e=>yy e.p)=ps.map id),Y0]at this
   have eo:out=(out.map (nOf ps)).map fun e=>yy e.p:=by
    rw[ug];refine((rE fun v m=>?_).trans (Y0 _)).symm;obtain⟨e,me,rfl⟩:=fs v m;show yy (nOf ps (.ref e.p)).p=_;rw[inv e me];rfl
   have so:qV ((out.map (nOf ps)).map (·.e)):=by
    rw[ug];refine Yp.mpr (YE (fun {a b} ma mb l=>?_) sr);exact(fQ (mk _ (pm.mem_iff.mp ma)) (mk _ (pm.mem_iff.mp mb))).mpr l
   refine⟨.ref (s.heap.objs.size+1),_,I.laid (t':=s.toks) (a:=s.heap.objs.size+1) kp (Z6 _) (show ObjOk X.prog X.w _ h' _ (.lst ((out.map (nOf ps)).map fun e=>.ref e.p)) from⟨?_,out,cc,?_,e⟩),rfl,q _ pm' so _ (I.hok.fresh (Z6 _))⟩
   ·rw[zK,pm'.length_eq,uS];lia
   ·have:=v7 (out.map (nOf ps))
    rwa [<- eo]at this
 ·exact h.elim
end
end L2
namespace K15
open PySem L2
abbrev lg:List Str:=["_law_script","_law_accounts_here","_law_held","_law_every","_law_shown","_law_k","_law_month_here","_law_closed","_law_found","_law_now","_law_gone","_law_rest"]
abbrev b_:List Str:=["_law_script","_law_names_here","_law_currencies_here","_law_base","_law_accounts_here","_law_some","_law_k","_law_cell","_law_path","_law_first","_law_until"]
abbrev cQ:List Str:=["_law_script","_law_first","_law_accounts_here","_law_day_here","_law_cell","_law_rows","_law_part","_law_more","_law_currency","_law_paths_here","_law_most","_law_total","_law_k","_law_amount"]
abbrev fF:List Str:=["_law_chart_here","_law_accounts_here","_law_script","_law_k","_law_cell","_law_day_here","_law_path","_law_some"]
structure Adr where
 eT:Addr
 bt:Addr
 pi:Addr
 pk:Addr
 gL:Addr
 nX:Addr
 cv:Addr
 px:Addr
 pA:Addr
 k_:Addr
 vQ:Addr
 fB:Addr
 nK:Addr
 sq:Addr
 ck:Addr
 bY:Addr
 gE:Addr
 gs:Addr
 pw:Addr
 aI:Addr
 aQ:Addr
 ba:Addr
 aT:Addr
 dC:Addr
 jv:Addr
abbrev zzK(K:W.Frag)(a b:Addr)(c:Bool):Prop:=Yv K (.ref a) (.ref b)=some c
abbrev zzX(K:W.Frag)(a:Addr):Prop:=PySem.W.excIn K a [.type "ValueError",.type "Exception",.type "BaseException",.type "object"] "ValueError.__new__" = true
structure Txt(K:W.Frag)(mg:Str->Option Value)(a:Adr):Prop where
 vq:DfN K mg "is_whole" (top 21)
 uJ:DfN K mg "is_among" (top 22)
 tK:DfN K mg "signs_lie" (top 23)
 yp:DfN K mg "is_name" (top 24)
 yb:DfN K mg "is_note" (top 25)
 tO:DfN K mg "is_amount" (top 27)
 oz:DfN K mg "is_currency" (top 28)
 y6:DfN K mg "is_row" (top 30)
 rY:DfN K mg "need_form" (top 31)
 nC:DfN K mg "need_account" (top 32)
 yS:DfN K mg "turned" (top 33)
 yi:DfN K mg "sums_of" (top 34)
 t_:DfN K mg "need_even" (top 35)
 t8:DfN K mg "need_rows" (top 36)
 AV:DfN K mg "is_day" (top 39)
 vp:DfN K mg "is_month" (top 40)
 r8:DfN K mg "leap_days" (top 41)
 sV:DfN K mg "first_day" (top 42)
 uo:DfN K mg "last_day" (top 43)
 uW:DfN K mg "month_of" (top 44)
 ib:DfN K mg "need_note_and_gate" (top 46)
 Gd:DfN K mg "book" (top 47)
 Fw:DfN K mg "undo" (top 48)
 tL:DfN K mg "are_names" (top 50)
 ym:DfN K mg "is_path" (top 51)
 vG:DfN K mg "names_of" (top 52)
 B9:DfN K mg "above" (top 53)
 nM:DfN K mg "_law_cell_at" (top 62)
 p9:DfN K mg "_law_names" (top 63)
 ju:DfN K mg "_law_currencies" (top 64)
 lM:DfN K mg "_law_accounts" aV
 qG:DfN K mg "_law_chart" (top 66)
 mF:DfN K mg "_law_is_open" (top 67)
 u_:DfN K mg "_law_day" (top 68)
 qE:DfN K mg "_law_paths" (top 69)
 k7:DfN K mg "_law_even_rows" aZ
 pF:DfN K mg "_law_start" (top 71)
 nL:DfN K mg "_law_lengths" (top 72)
 jG:DfN K mg "_law_month_ends" (top 73)
 q_:DfN K mg "_law_month" (top 74)
 rN:DfN K mg "_law_even" (top 75)
 tG:DfN K mg "_law_fits" (top 76)
 ow:DfN K mg "_law_undoes" (top 77)
 tf:DfN K mg "_law_sums" (top 78)
 qm:DfN K mg "_law_tried" (top 79)
 nU:DfN K mg "_law_changed" (top 80)
 GL:∃fd,Fun K "law" "law" cL a.eT fd
 jb:DfM K a.aI "__init__" "Account.__init__" (bp (top 56) 0)
 iW:DfM K a.aI "stands_on" "Account.stands_on" (bp (top 56) 1)
 gR:DfM K a.aI "stands_later" "Account.stands_later" (bp (top 56) 2)
 j6:DfM K a.aQ "__init__" "Chart.__init__" (bp (top 57) 0)
 lU:DfM K a.aQ "add_top" "Chart.add_top" (bp (top 57) 1)
 sv:DfM K a.aQ "add" "Chart.add" dA
 qg:DfM K a.aQ "shut" "Chart.shut" (bp (top 57) 3)
 sj:DfM K a.aQ "has" "Chart.has" (bp (top 57) 4)
 lG:DfM K a.aQ "account" "Chart.account" (bp (top 57) 5)
 iS:DfM K a.aQ "currency_of" "Chart.currency_of" (bp (top 57) 7)
 lH:DfM K a.aQ "is_open" "Chart.is_open" (bp (top 57) 9)
 yO:DfM K a.aQ "beneath" "Chart.beneath" (bp (top 57) 10)
 lK:DfM K a.ba "__init__" "Gate.__init__" (bp (top 59) 0)
 og:DfM K a.ba "closed" "Gate.closed" (bp (top 59) 1)
 su:DfM K a.ba "lets" "Gate.lets" (bp (top 59) 2)
 j2:DfM K a.ba "need_next" "Gate.need_next" (bp (top 59) 3)
 t7:DfM K a.ba "shut" "Gate.shut" (bp (top 59) 4)
 jd:DfM K a.aT "__init__" "Journal.__init__" (bp (top 60) 0)
 oA:DfM K a.aT "put" "Journal.put" (bp (top 60) 1)
 mL:DfM K a.aT "many" "Journal.many" (bp (top 60) 2)
 jz:DfM K a.aT "booking" "Journal.booking" (bp (top 60) 3)
 lL:DfM K a.aT "every" "Journal.every" (bp (top 60) 4)
 iX:DfM K a.aT "undone_by" "Journal.undone_by" (bp (top 60) 5)
 jS:DfM K a.ck "__init__" "Uneven.__init__" (bp (top 15) 0)
 qo:mg "HouseError" = some (.ref a.bt)
 yD:mg "BadName" = some (.ref a.pi)
 xq:mg "BadNote" = some (.ref a.pk)
 jA:mg "BadDay" = some (.ref a.gL)
 vE:mg "BadMonth" = some (.ref a.nX)
 i7:mg "BadCurrency" = some (.ref a.cv)
 km:mg "BadPath" = some (.ref a.px)
 xQ:mg "BadKind" = some (.ref a.pA)
 rO:mg "NoAccount" = some (.ref a.k_)
 wR:mg "Twice" = some (.ref a.vQ)
 iD:mg "NotOpen" = some (.ref a.fB)
 vB:mg "HasBelow" = some (.ref a.nK)
 rH:mg "BadRow" = some (.ref a.sq)
 z8:mg "Uneven" = some (.ref a.ck)
 tw:mg "NoBooking" = some (.ref a.bY)
 BK:mg "Undone" = some (.ref a.gE)
 Bl:mg "Closed" = some (.ref a.gs)
 yz:mg "NotNext" = some (.ref a.pw)
 oQ:mg "Account" = some (.ref a.aI)
 Dh:mg "Chart" = some (.ref a.aQ)
 FN:mg "Gate" = some (.ref a.ba)
 ye:mg "Journal" = some (.ref a.aT)
 a8:Cls K a.aI
 ii:NoAttr K a.aI "kind"
 fE:NoAttr K a.aI "currency"
 eM:NoAttr K a.aI "first"
 bL:NoAttr K a.aI "until"
 eR:NoAttr K a.aI "below"
 mZ:MkC K a.aI
 bg:Cls K a.aQ
 bE:NoAttr K a.aQ "by_path"
 zF:MkC K a.aQ
 cz:Cls K a.ba
 bo:NoAttr K a.ba "last_closed"
 BW:MkC K a.ba
 bc:Cls K a.aT
 bn:NoAttr K a.aT "bookings"
 dq:NoAttr K a.aT "undoings"
 ui:MkC K a.aT
 i4:zzX K a.cv
 BQ:cK K a.cv
 gq:ZZ K (.ref a.cv) (.ref a.bt)=some true
 jt:zzX K a.gL
 GI:cK K a.gL
 iP:ZZ K (.ref a.gL) (.ref a.bt)=some true
 xD:zzX K a.pA
 vn:zzX K a.nX
 xC:zzX K a.pi
 xT:zzX K a.pk
 kg:zzX K a.px
 sI:zzX K a.sq
 A9:zzX K a.gs
 HW:cK K a.gs
 iV:ZZ K (.ref a.gs) (.ref a.bt)=some true
 uN:zzX K a.nK
 sD:zzX K a.k_
 r9:zzX K a.bY
 Eg:cK K a.bY
 gT:ZZ K (.ref a.bY) (.ref a.bt)=some true
 xm:zzX K a.pw
 iH:zzX K a.fB
 Gr:cK K a.fB
 ir:ZZ K (.ref a.fB) (.ref a.bt)=some true
 wT:zzX K a.vQ
 AT:zzX K a.gE
 Hk:cK K a.gE
 iU:ZZ K (.ref a.gE) (.ref a.bt)=some true
 Bi:∀f,u7 K (.ref a.ck) "__init__" = some (some (.ref f))->jn K a.ck f=true
 jO:Hi K a.ck "currency"
 GF:cK K a.ck
 iT:ZZ K (.ref a.ck) (.ref a.bt)=some true
 xy:mg "LENGTHS" = some (.ref a.dC)
 dC:∃(o:Obj) (its:Array Value) (n:Nat),K.lookup a.dC=some o/\o.cls = .type "tuple" /\ o.data = .seq its n/\its.size<=sizeLine/\Vals (([31,28,31,30,31,30,31,31,30,31,30,31]:List Int).map V.int) its.toList
 CG:mg "KINDS" = some (.ref a.jv)
 jv:∃(o:Obj) (its:Array Value) (n:Nat),K.lookup a.jv=some o/\o.cls = .type "tuple" /\ o.data = .seq its n/\its.size<=sizeLine/\Vals (([[104,97,118,101],[111,119,101],[111,119,110],[103,97,105,110],[99,111,115,116]]:List (List Nat)).map T) its.toList
 wj:mg "all" = none
 Gs:mg "any" = none
 FJ:mg "bool" = none
 Ef:mg "int" = none
 bz:mg "isinstance" = none
 cp:mg "len" = none
 m_:mg "list" = none
 DQ:mg "max" = none
 D6:mg "min" = none
 iJ:mg "range" = none
 HM:mg "set" = none
 mK:mg "sorted" = none
 oW:mg "str" = none
 Bv:mg "sum" = none
 qL:mg "tuple" = none
 Hc:mg "zip" = none
theorem qX:qK "all" = some (.builtin "all"):=by decide +kernel
theorem EW:qK "any" = some (.builtin "any"):=by decide +kernel
theorem CM:qK "bool" = some (.type "bool"):=by decide +kernel
theorem AA:qK "int" = some (.type "int"):=by decide +kernel
theorem bq:qK "isinstance" = some (.builtin "isinstance"):=by decide +kernel
theorem bD:qK "len" = some (.builtin "len"):=by decide +kernel
theorem jE:qK "list" = some (.type "list"):=by decide +kernel
theorem Bd:qK "max" = some (.builtin "max"):=by decide +kernel
theorem Bw:qK "min" = some (.builtin "min"):=by decide +kernel
theorem Eo:qK "set" = some (.type "set"):=by decide +kernel
theorem j9:qK "sorted" = some (.builtin "sorted"):=by decide +kernel
theorem j8:qK "str" = some (.type "str"):=by decide +kernel
theorem uh:qK "sum" = some (.builtin "sum"):=by decide +kernel
theorem mJ:qK "tuple" = some (.type "tuple"):=by decide +kernel
theorem gH:bd ["_law_script","_law_names_here","_law_currencies_here","_law_base","_law_accounts_here","_law_some","_law_k","_law_cell","_law_path","_law_first","_law_until"] ["_law_script"] (ae aV):=⟨rfl,rfl,rfl,by decide +kernel,rfl,by decide +kernel,by decide +kernel⟩
theorem fW:bd ["_law_script","_law_first","_law_accounts_here","_law_day_here","_law_cell","_law_rows","_law_part","_law_more","_law_currency","_law_paths_here","_law_most","_law_total","_law_k","_law_amount"] ["_law_script","_law_first","_law_accounts_here","_law_day_here"] (ae aZ):=⟨rfl,rfl,rfl,by decide +kernel,rfl,by decide +kernel,by decide +kernel⟩
theorem kK:bd ["_law_script","_law_accounts_here","_law_held","_law_every","_law_shown","_law_k","_law_month_here","_law_closed","_law_found","_law_now","_law_gone","_law_rest"] ["_law_script"] (ae cL):=⟨rfl,rfl,rfl,by decide +kernel,rfl,by decide +kernel,by decide +kernel⟩
seal L2.PE L2.PT L2.PW L2.PA L2.PS L2.PSs L2.PI L2.PG L2.PGs L2.PO
open PySem L2 K19 K22
local macro_rules | `(tactic| walk_at "cq") => `(tactic| exact ⟨rfl, by decide +kernel, rfl, by decide +kernel, rfl, bw rfl, rfl, aM rfl, aM (k := fun y => wZ y _) rfl, bx rfl⟩)
local macro_rules | `(tactic| walk_at "sc") => `(tactic| exact ⟨rfl, rfl, rfl, by decide +kernel, rfl, by decide +kernel, by decide +kernel⟩)
local macro_rules | `(tactic| walk_at "b") => `(tactic| first | (intro _ _ _ _ _ _ us hl; obtain ⟨_, e⟩ := ex1 hl; subst e; rfl) | (intro _ _ _ _ _ _ us hl; obtain ⟨_, _, e⟩ := ex2 hl; subst e; rfl) | (intro _ _ _ _ _ _ us hl; obtain ⟨_, _, _, e⟩ := ex3 hl; subst e; rfl) | (intro _ _ _ _ _ _ us hl; obtain ⟨_, _, _, _, e⟩ := ex4 hl; subst e; rfl) | (intro _ _ _ _ _ _ us hl; obtain ⟨_, _, _, _, _, e⟩ := ex5 hl; subst e; rfl) | (intro _ _ _ _ _ _ us hl; obtain ⟨_, _, _, _, _, _, e⟩ := ex6 hl; subst e; rfl))
local macro_rules | `(tactic| walk_at "rd") => `(tactic| try simp only [BG, rdI, V.int.injEq, V.ref.injEq, v5, Bn, wM, vW, Af, zf, Au, zt, BI, L2.eU, xx, YO, ZC, List.nil_append, Zh, uO, Y4, List.replicate, List.getElem?_cons_zero, List.getElem?_cons_succ, List.set_cons_zero, List.set_cons_succ, Nat.reduceSub, Nat.reduceAdd, Int.reduceLT, Int.reduceLE, Int.reducePow, Int.reduceNeg, Nat.reducePow, List.cons.injEq, exists_eq_left', exists_eq_left, eq_self, if_false, if_true, ↓reduceIte, ite_not, forall_const, Option.bind_some, id_eq, zk, lX, Ah, wX, wU, GQ])
local macro_rules | `(tactic| walk_at "om") => `(tactic| first | exact uM (by decide) (by assumption : 1000 <= sizeLine) | omega)
section
variable{pS:Addr}{ns:List Int}{P:Program}{w:World}{K:W.Frag}{mg:Str->Option Value}{base:Heap}{a:Adr}
theorem szl:1000<=sizeLine:=by rw[uS];decide
theorem ID:1000<sizeLine:=by rw[uS];decide
theorem itp{c:Prop}[Decidable c]{t e:Prop}(h:c)(x:t):ite c t e:=by rw[if_pos h];exact x
theorem itn{c:Prop}[Decidable c]{t e:Prop}(h:¬ c)(x:e):ite c t e:=by rw[if_neg h];exact x
def sp_r6:Sp:=sp1 fun x H Q _=>NoT H/\asI x fun _=>Q (.bl true) H
theorem rS(T:Txt K mg a):Fo P w K mg base "is_whole" 1 sp_r6:=by
 refine T.vq.g1 ["thing"] fun x0 fA cdv A outer s H Q E ND HU hr h=>?_;obtain⟨hN,h1⟩:=h;obtain⟨i,rfl,k⟩:=asI.inv h1;refine⟨hN,_,(ag (aJ (dJ (aH (eA K) rfl T.bz bq (fa2 (fv 0) (d9 (v:=.ty "int") rfl T.Ef AA rfl))) (d6 (FP (aH (eA K) rfl T.bz bq (fa2 (fv 0) (d9 (v:=.ty "bool") rfl T.FJ CM rfl)))))))),?_⟩;walk_at "rd"
 first|exact k|exact iteT k
def amg(x:V)(lo hi:Int):Bool:=match x with
 | .int i=>decide (lo<=i)&&decide (i<=hi)
 |_=>false
def sp_rE:Sp:=sp3 fun x y z H Q _=>NoT H/\asI x fun i=>asI y fun lo=>asI z fun hi=>Q (.bl (amg (.int i) lo hi)) H
theorem fU(T:Txt K mg a):Fo P w K mg base "is_among" 2 sp_rE:=by
 refine T.uJ.g3 ["thing","least","most"] fun x0 x1 x2 fA cdv A outer s H Q E ND HU hr h=>?_;obtain⟨hN,h1⟩:=h;obtain⟨i,rfl,h2⟩:=asI.inv h1;obtain⟨lo,rfl,h3⟩:=asI.inv h2;obtain⟨hi,rfl,k⟩:=asI.inv h3;refine⟨hN,_,(ag (aJ (dJ (aN (rS T) hr aE (fa1 (fv 0))) (d6 (jW eF eF (fv 1) (fv 0) (fv 2)))))),?_⟩;walk_at "rd";refine⟨hN,?_⟩;split
 ·rename_i h1
  have e:amg (.int i) lo hi=decide (i<=hi):=by simp[amg,h1]
  rw[e]at k;exact k
 ·rename_i h1
  have e:amg (.int i) lo hi=false:=by simp[amg,h1]
  rw[e]at k;exact k
def sp_yw:Sp:=sp1 fun x H Q _=>NoT H/\asI x fun i=>Q (.bl (amg (.int i) 0 146096)) H
theorem iI(T:Txt K mg a):Fo P w K mg base "is_day" 3 sp_yw:=by
 refine T.AV.g1 ["thing"] fun x0 fA cdv A outer s H Q E ND HU hr h=>?_;obtain⟨hN,h1⟩:=h;obtain⟨i,rfl,k⟩:=asI.inv h1;refine⟨hN,_,(ag (aJ (aN (fU T) hr aE (fa3 (fv 0) aa aa)))),?_⟩;walk_at "rd";exact⟨hN,k⟩
theorem EM(a b:Nat):leN [a] [b]=decide (a<=b):=by
 unfold leN;have h:([b]<[a])↔b<a:=by
  rw[List.cons_lt_cons_iff];simp
 rw[decide_eq_decide.mpr h];by_cases h2:b<a
 ·rw[decide_eq_true h2,decide_eq_false (by walk_at "om")];rfl
 ·rw[decide_eq_false h2,decide_eq_true (by walk_at "om")];rfl
local macro_rules | `(tactic| walk_at "rd") => `(tactic| try simp only [BG, rdI, V.int.injEq, V.ref.injEq, v5, Bn, wM, vW, Af, zf, Au, zt, BI, L2.eU, xx, YO, ZC, List.nil_append, Zh, uO, Y4, List.replicate, List.getElem?_cons_zero, List.getElem?_cons_succ, List.set_cons_zero, List.set_cons_succ, Nat.reduceSub, Nat.reduceAdd, Int.reduceLT, Int.reduceLE, Int.reducePow, Int.reduceNeg, Nat.reducePow, List.cons.injEq, exists_eq_left', exists_eq_left, eq_self, if_false, if_true, ↓reduceIte, ite_not, forall_const, Option.bind_some, id_eq, zk, lX, Ah, wX, wU, GQ, EM])
def ok(l:List Nat):Prop:=(∀c∈l,c<128)/\l.length<=1000
theorem mj{l:List Nat}(h:ok l):l.length<=sizeLine:=uM h.2 (by rw[uS];decide)
def lie(l:List Nat)(a b:Nat):Bool:=l.all fun c=>decide (a<=c)&&decide (c<=b)
def sp_qW:Sp:=sp3 fun x y z H Q _=>NoT H/\asT x fun l=>asT y fun lo=>asT z fun hi=>ok l/\∃a b,lo=[a]/\hi=[b]/\Q (.bl (lie l a b)) H
theorem hG(T:Txt K mg a):Fo P w K mg base "signs_lie" 1 sp_qW:=by
 refine T.tK.g3 ["text","least","most"] fun x0 x1 x2 fA cdv A outer s H Q E ND HU hr h=>?_;obtain⟨hN,h1⟩:=h;obtain⟨l,rfl,h2⟩:=asT.inv h1;obtain⟨lo,rfl,h3⟩:=asT.inv h2;obtain⟨hi,rfl,hl,a,b,rfl,rfl,k⟩:=asT.inv h3;refine⟨hN,_,(ag (aJ (aH (l9 K rfl) rfl T.wj qX (fa1 (br rfl (cl:=_) (x:="sign") (xs:=["sign"]) (fr:=["least","most"]) (ks:=[1,2]) (by walk_at "cq") rfl (zW (fv 0)) (fun _ _ _ _ _=>(aF (i:=0) (bX (l:=["sign","least","most"]) (by decide)) rfl (Or.inl rfl))) (fun _ _ _ _ _=>dN) (fun _ _ _ _ _=>(jW eF eF (fv 1) (fv 0) (fv 2)))))))),?_⟩;walk_at "rd";refine cmS (fun _=>True) (fun _ _ _=>trivial) l (fun _=>true) (fun c=>.bl (decide (a<=c)&&decide (c<=b))) (fun R r=>r) hl.1 (mj hl) (fun c _ H R _ r=>r) (fun c _ _ H R _ r=>?_) (fun D hD=>?_)
 ·walk_at "rd"
  by_cases h1:a<=c
  ·simp only[h1,decide_true,Yh]at r |-
   exact r
  ·simp only[h1,decide_false,Bool.false_and]at r |-
   exact r
 ·refine⟨l.map fun c=>decide (a<=c)&&decide (c<=b),SqL.of (by rw[ad,ZN.mpr (by simp),ug];rfl),H,Gc.none (au _ hD),?_⟩
  have e:(l.map fun c=>decide (a<=c)&&decide (c<=b)).all id=lie l a b:=by
   rw[List.all_map];rfl
  rw[e];exact k
def cur(l:List Nat):Bool:=decide (l.length=3)&&lie l 65 90
def sp_xF:Sp:=sp1 fun x H Q _=>NoT H/\asT x fun l=>cur l=true/\Q (.bl true) H
theorem CV{l:List Nat}(h:cur l=true):l.length=3/\lie l 65 90=true:=by
 unfold cur at h
 simpa using h
theorem FW{l:List Nat}{a b:Nat}(h:lie l a b=true)(hb:b<128)(hl:l.length<=1000):ok l:=by
 unfold lie at h;rw[ZY]at h;exact⟨fun c hc=>by have:=h c hc;simp at this;lia,hl⟩
theorem il(T:Txt K mg a):Fo P w K mg base "is_currency" 2 sp_xF:=by
 refine T.oz.g1 ["thing"] fun x0 fA cdv A outer s H Q E ND HU hr h=>?_;obtain⟨hN,h1⟩:=h;obtain⟨l,rfl,hc,k⟩:=asT.inv h1;obtain⟨h3,hl⟩:=CV hc;have ol:=FW hl (by decide) (by lia);refine⟨hN,_,(ag (aJ (dJ (aH (eA K) rfl T.bz bq (fa2 (fv 0) (d9 (v:=.ty "str") rfl T.oW j8 rfl))) (dJ (eY (dm K HU) (aH (bj K) rfl T.cp bD (fa1 (fv 0))) aa (gm _)) (d6 (aN (hG T) hr aE (fa3 (fv 0) (aX [65]) (aX [90])))))))),?_⟩;walk_at "rd";refine⟨mj ol,itp (by lia) ⟨hN,ol,65,90,rfl,rfl,?_⟩⟩;rw[hl];exact k
def nm(l:List Nat):Bool:=decide (1<=l.length)&&decide (l.length<=12)&&lie l 97 122
def sp_uO:Sp:=sp1 fun x H Q _=>NoT H/\asT x fun l=>ok l/\Q (.bl (nm l)) H
theorem mO(T:Txt K mg a):Fo P w K mg base "is_name" 2 sp_uO:=by
 refine T.yp.g1 ["thing"] fun x0 fA cdv A outer s H Q E ND HU hr h=>?_;obtain⟨hN,h1⟩:=h;obtain⟨l,rfl,hl,k⟩:=asT.inv h1;refine⟨hN,_,(ag (aJ (dJ (aH (eA K) rfl T.bz bq (fa2 (fv 0) (d9 (v:=.ty "str") rfl T.oW j8 rfl))) (dJ (jW eF eF aa (aH (bj K) rfl T.cp bD (fa1 (fv 0))) aa) (d6 (aN (hG T) hr aE (fa3 (fv 0) (aX [97]) (aX [122])))))))),?_⟩;walk_at "rd";refine⟨mj hl,?_⟩;unfold nm at k;split
 ·rename_i h1
  rw[decide_eq_true (by lia:1<=l.length)]at k;split
  ·rename_i h2
   rw[decide_eq_true (by lia:l.length<=12)]at k;exact⟨hN,hl,97,122,rfl,rfl,k⟩
  ·rename_i h2
   rw[decide_eq_false (by lia:¬ l.length<=12)]at k;exact k
 ·rename_i h1
  rw[decide_eq_false (by lia:¬ 1<=l.length)]at k;exact k
def sp_pL(K:W.Frag):Sp:=sp1 fun x H Q _=>asR x fun p=>NoT H/\∃ls:List (List Nat),SqL K H p (ls.map L2.T)/\ls.length<=300/\(∀l∈ls,ok l)/\Q (.bl (decide (1<=ls.length)&&decide (ls.length<=6)&&ls.all nm)) H
theorem pZ(T:Txt K mg a):Fo P w K mg base "are_names" 3 (sp_pL K):=by
 refine T.tL.g1 ["names"] fun x0 fA cdv A outer s H Q E ND HU hr h=>?_;obtain⟨p,rfl,hN,ls,hS,hl,hx,k⟩:=asR.inv h;refine⟨hN,_,(ag (aJ (dJ (jW eF eF aa (aH (bj K) rfl T.cp bD (fa1 (fv 0))) aa) (d6 (aH (l9 K rfl) rfl T.wj qX (fa1 (br rfl (cl:=_) (x:="name") (xs:=["name"]) (fr:=[]) (ks:=[]) (by walk_at "cq") rfl (bF K (fv 0)) (fun _ _ _ _ _=>(aF (i:=0) (bX (l:=["name"]) (by decide)) rfl (Or.inl rfl))) (fun _ _ _ _ _=>dN) (fun _ _ _ _ _=>(aN (mO T) hr tR (fa1 (fv 0))))))))))),?_⟩;walk_at "rd";refine⟨_,.inl hS,?_⟩;have sz:=szl;rw[zK];split
 ·rename_i h1
  rw[decide_eq_true (by lia:1<=ls.length)]at k;split
  ·rename_i h2
   rw[decide_eq_true (by lia:ls.length<=6)]at k;refine cmL p (ls.map L2.T) (fun H'=>NoT H'/\SqL K H' p (ls.map L2.T)) (fun D ys hD=>⟨aA hN rfl,hS.same (au _ hD)⟩) (fun H' c=>c.2) (fun _=>true) (fun x=>match x with | .str y=>.bl (nm y.cps.toList)|_=>.non) (fun R r=>r) hS (by rw[zK];lia) (fun x _ H' R _ r=>r) (fun x hx' _ H' R c r=>?_) (fun D hD=>?_)
   ·obtain⟨l,ml,rfl⟩:=yH.mp hx'
    walk_at "rd";exact⟨c.1,hx l ml,r⟩
   ·refine⟨ls.map nm,SqL.of (by rw[ad,ZN.mpr (by simp),ug,ug];rfl),H,Gc.none (au _ hD),?_⟩
    rw[List.all_map];exact k
  ·rename_i h2
   rw[decide_eq_false (by lia:¬ ls.length<=6)]at k;exact k
 ·rename_i h1
  rw[decide_eq_false (by lia:¬ 1<=ls.length)]at k;exact k
def jD(l:List Nat):Bool:=decide (1<=(spN 58 l).length)&&decide ((spN 58 l).length<=6)&&(spN 58 l).all nm
def sp_uU:Sp:=sp1 fun x H Q _=>NoT H/\asT x fun l=>((∀c∈l,c<128)/\l.length<=199)/\Q (.bl (jD l)) H
theorem m6(T:Txt K mg a):Fo P w K mg base "is_path" 4 sp_uU:=by
 refine T.ym.g1 ["thing"] fun x0 fA cdv A outer s H Q E ND HU hr h=>?_;obtain⟨hN,h1⟩:=h;obtain⟨l,rfl,hl,k⟩:=asT.inv h1;refine⟨hN,_,(ag (aJ (dJ (aH (eA K) rfl T.bz bq (fa2 (fv 0) (d9 (v:=.ty "str") rfl T.oW j8 rfl))) (d6 (aN (pZ T) hr aE (fa1 (eQ K Z4 PySem.F.slot_str_split PySem.F.type_str_split m9 (fv 0) (fa1 (aX [58]))))))))),?_⟩;walk_at "rd";have sz:=szl;have sl:=lW 58 l;refine⟨by walk_at "om",fun p hp=>⟨aA hN rfl,_,SqL.of ad,by lia,fun q hq=>?_,H,Gc.none (au _ hp),k⟩⟩;obtain⟨m1,m2⟩:=jr 58 l q hq;exact⟨fun c hc=>hl.1 c (m2 c hc),by lia⟩
def tx(ls:List (List Nat)):HO:=.lst (ls.map L2.T)
def sp_se:Sp:=sp1 fun x H Q _=>NoT H/\asT x fun l=>((∀c∈l,c<128)/\l.length<=199)/\jD l=true/\∀p,H p=none->Q (.ref p) (upd H p (tx (spN 58 l)))
theorem r_(T:Txt K mg a):Fo P w K mg base "names_of" 5 sp_se:=by
 refine T.vG.g1 ["path"] fun x0 fA cdv A outer s H Q E ND HU hr h=>?_;obtain⟨hN,h1⟩:=h;obtain⟨l,rfl,hl,e,k⟩:=asT.inv h1;refine⟨hN,_,(af (aW (bB (bv (aN (m6 T) hr aE (fa1 (fv 0))))) (ag (bU T.kg T.km bf)) aL)
  (ag (aJ (eQ K Z4 PySem.F.slot_str_split PySem.F.type_str_split m9 (fv 0) (fa1 (aX [58])))))),?_⟩
 walk_at "rd";have sz:=szl;refine⟨hN,hl,itn (by rw[e];decide) ⟨by walk_at "om",fun p hp=>⟨_,Gc.one (au _ hp) hp ad rfl,k p hp⟩⟩⟩
theorem ke{l:List Nat}(h:nm l=true):1<=l.length/\l.length<=12/\∀c∈l,97<=c/\c<=122:=by
 unfold nm lie at h;simp only[Zi,decide_eq_true_eq,ZY]at h;exact⟨h.1.1,h.1.2,fun c hc=>h.2 c hc⟩
theorem DN(xs:List V){i:Int}(h:0<=i):h_ xs none (some i)=xs.take i.toNat:=by
 unfold h_;have e:i=((i.toNat:Nat):Int):=by walk_at "om"
 rw[e,HT.sIx_none,HT.sIx_nat,List.drop_zero,Nat.sub_zero];by_cases hl:i.toNat<=xs.length
 ·rw[Nat.min_eq_left hl];rfl
 ·rw[Nat.min_eq_right (by walk_at "om"),Zc (by walk_at "om"),Zc (by simp;lia)]
theorem vZ(n:Nat):∀(ls:List (List Nat)),(∀l∈ls,l.length<=n)->(ls.map YS).sum<=n*ls.length
 | [],_=>by simp
 |l::r,h=>by
  have:=vZ n r fun x hx=>h x (vt _ hx);have h1:=h l (by simp);simp only[xx,List.sum_cons,uO,Nat.mul_add,Nat.mul_one];lia
theorem zb{ls:List (List Nat)}(h:∀l∈ls,l.length<=1000)(hl:ls.length<=1000):BZ [58] ls:=by
 have:=vZ 1000 ls h;have h2:1000*ls.length<=1000*1000:=Nat.mul_le_mul_left _ hl;unfold BZ;simp only[uO,Y4];lia
def abN(l:List Nat):List (List Nat):=(Zj ((spN 58 l).length-1)).map fun k=>cq [58] ((spN 58 l).take (k+1))
def sp_Ba:Sp:=sp1 fun x H Q _=>NoT H/\asT x fun l=>((∀c∈l,c<128)/\l.length<=199)/\∀p,H p=none->Q (.ref p) (upd H p (tx (abN l)))
theorem Br(T:Txt K mg a):Fo P w K mg base "above" 1 sp_Ba:=by
 refine T.B9.g1 ["path","names"] fun x0 fA cdv A outer s H Q E ND HU hr h=>?_;obtain⟨hN,h1⟩:=h;obtain⟨l,rfl,hl,k⟩:=asT.inv h1;refine⟨hN,_,(af (aS 1 ND (eQ K Z4 PySem.F.slot_str_split PySem.F.type_str_split m9 (fv 0) (fa1 (aX [58]))))
  (ag (aJ (br rfl (cl:=_) (x:="many") (xs:=["many"]) (fr:=["names"]) (ks:=[1]) (by walk_at "cq") rfl (xL rfl T.iJ (fa2 aa (aH (bj K) rfl T.cp bD (fa1 (fv 1))))) (fun _ _ _ _ _=>(aF (i:=0) (bX (l:=["many","names"]) (by decide)) rfl (Or.inl rfl))) (fun _ _ _ _ _=>dN) (fun _ _ _ _ _=>(DV (eQ K Z4 PySem.F.slot_str_join PySem.F.type_str_join (zE K) (aX [58]) (fa1 (ci (nn K) (fv 1) da (c8 (fv 0))))))))))),?_⟩
 walk_at "rd";have sz:=szl;have sl:=lW 58 l;refine⟨by walk_at "om",fun p hp=>?_⟩;have sm:=au (HO.lst (List.map L2.T (spN 58 l))) hp;have nb:((spN 58 l).length:Int)<2 ^ 62:=by
  have:(400:Int)<2 ^ 62:=by decide
  lia
 refine IB (fun H'=>NoT H'/\SqL K H' p (List.map L2.T (spN 58 l))) (fun D ys hD=>⟨aA (aA hN rfl) rfl,SqL.same (au _ hD) (SqL.of ad)⟩) 1 (spN 58 l).length ((spN 58 l).length-1) (by walk_at "om") (fun _=>true)
  (fun v=>match v with | .int i=>L2.T (cq [58] ((spN 58 l).take i.toNat))|_=>.non) (fun R r=>?_) ⟨by decide,by decide,by walk_at "om",nb⟩ (by walk_at "om") (fun x _ H' R _ r=>r) (fun j hj _ H' R c r=>?_) (fun D hD=>?_)
 ·walk_at "rd"
  exact⟨_,.inl (SqL.of ad),by rw[zK];exact r⟩
 ·walk_at "rd"
  refine⟨c.1,p,_,rfl,c.2,fun q hq=>⟨(spN 58 l).take (1+(j:Int)).toNat,SqL.of (by rw[ad,DN _ (by walk_at "om"),List.map_take]),zb (fun x hx=>?_) (by rw[qW];lia),H',Gc.none (au _ hq),r⟩⟩;have:=(jr 58 l x (Xk hx)).1;lia
 ·refine⟨_,Gc.one (sm.trans (au _ hD)) (sm.free hD) ad rfl,?_⟩
  have e:(List.map (fun v=>match v with|V.int i=>L2.T (cq [58] (List.take i.toNat (spN 58 l)))|_=>V.non) (List.filter (fun _=>true) (List.map (fun k:Nat=>V.int (1+(k:Int))) (Zj ((spN 58 l).length-1)))))=(abN l).map L2.T:=by
   rw[ZN.mpr (by simp),ug];unfold abN;rw[ug];apply rE;intro k _;show L2.T (cq [58] (List.take (1+(k:Int)).toNat (spN 58 l)))=L2.T (cq [58] (List.take (k+1) (spN 58 l)));rw[show(1+(k:Int)).toNat=k+1 by walk_at "om"]
  rw[e];exact k D (sm.free hD)
def sp_rT:Sp:=sp1 fun x H Q _=>NoT H/\asI x fun i=>Q (.bl (amg (.int i) 0 4799)) H
theorem sC(T:Txt K mg a):Fo P w K mg base "is_month" 3 sp_rT:=by
 refine T.vp.g1 ["thing"] fun x0 fA cdv A outer s H Q E ND HU hr h=>?_;obtain⟨hN,h1⟩:=h;obtain⟨i,rfl,k⟩:=asI.inv h1;refine⟨hN,_,(ag (aJ (aN (fU T) hr aE (fa3 (fv 0) aa aa)))),?_⟩;walk_at "rd";exact⟨hN,k⟩
def sp_qN:Sp:=sp1 fun x H Q _=>NoT H/\asI x fun i=>Q (.bl (amg (.int i) (-1000000000000000) 1000000000000000)) H
theorem qH(T:Txt K mg a):Fo P w K mg base "is_amount" 3 sp_qN:=by
 refine T.tO.g1 ["thing"] fun x0 fA cdv A outer s H Q E ND HU hr h=>?_;obtain⟨hN,h1⟩:=h;obtain⟨i,rfl,k⟩:=asI.inv h1;refine⟨hN,_,(ag (aJ (aN (fU T) hr aE (fa3 (fv 0) (rK mT (aj ul aa aa)) (aj ul aa aa))))),?_⟩;walk_at "rd";have e15:(10:Int) ^ Int.toNat 15=1000000000000000:=by decide +kernel
 rw[e15];exact⟨by decide,by decide,hN,k⟩
def nt2(l:List Nat):Prop:=l=[110,111,116,101]\/l=[98,97,99,107]
def sp_u7:Sp:=sp1 fun x H Q _=>NoT H/\asT x fun l=>nt2 l/\Q (.bl true) H
theorem Fl{l:List Nat}(h:nt2 l):ok l/\l.length=4/\tm l [32]=false/\l.getLast? ≠ some 32/\lie l 32 126=true:=by
 rcases h with rfl|rfl <;> exact⟨by unfold ok;decide,by decide,by decide,by decide,by decide⟩
theorem uQ(T:Txt K mg a):Fo P w K mg base "is_note" 2 sp_u7:=by
 refine T.yb.g1 ["thing"] fun x0 fA cdv A outer s H Q E ND HU hr h=>?_;obtain⟨hN,h1⟩:=h;obtain⟨l,rfl,h2,k⟩:=asT.inv h1;obtain⟨ol,l4,hp,hg,hl⟩:=Fl h2;refine⟨hN,_,(af (aW (L2.PW.pt (dw (bB (bv (aH (eA K) rfl T.bz bq (fa2 (fv 0) (d9 (v:=.ty "str") rfl T.oW j8 rfl))))) (cS (aO jL (aH (bj K) rfl T.cp bD (fa1 (fv 0))) aa)))) (ag (aJ eE)) aL)
  (af (aW (L2.PW.pt (dw (bv (eQ K Z4 PySem.F.slot_str_startswith PySem.F.type_str_startswith mE (fv 0) (fa1 (aX [32])))) (cS (bv (eQ K Z4 PySem.F.slot_str_endswith PySem.F.type_str_endswith tj (fv 0) (fa1 (aX [32]))))))) (ag (aJ eE)) aL)
  (ag (aJ (aN (hG T) hr aE (fa3 (fv 0) (aX [32]) (aX [126]))))))),?_⟩
 walk_at "rd";rw[<- hl]at k;refine⟨mj ol,itn (by lia) (itn (by rw[hp];decide) (itn (fun z=>hg (of_decide_eq_true z)) ⟨hN,ol,32,126,rfl,rfl,k⟩))⟩
end
open PySem L2 K19 K22
section
variable{pS:Addr}{ns:List Int}{P:Program}{w:World}{K:W.Frag}{mg:Str->Option Value}{base:Heap}{a:Adr}
open K3
def sp_qK:Sp:=sp1 fun x H Q _=>asI x fun y=>NoT H/\Q (.int (LD y)) H
theorem jF(T:Txt K mg a):Fo P w K mg base "leap_days" 1 sp_qK:=by
 refine T.r8.g1 ["years"] fun x0 fA cdv A outer s H Q E ND HU hr h=>?_;obtain⟨y,rfl,hN,k⟩:=asI.inv h;refine⟨hN,_,(ag (aJ (aj aK (aj eP (aj a9 (aj aK (fv 0) aa) aa) (aj a9 (aj aK (fv 0) aa) aa)) (aj a9 (aj aK (fv 0) aa) aa)))),?_⟩;walk_at "rd";exact k
theorem Aq(xs:List V){i:Int}(h:0<=i):h_ xs none (some i)=xs.take i.toNat:=by
 unfold h_;have e:i=((i.toNat:Nat):Int):=by lia
 rw[e,HT.sIx_none,HT.sIx_nat,List.drop_zero,Nat.sub_zero];by_cases hl:i.toNat<=xs.length
 ·rw[Nat.min_eq_left hl];rfl
 ·rw[Nat.min_eq_right (by lia),Zc (by lia),Zc (by simp;lia)]
def LEN:List Int:=[31,28,31,30,31,30,31,31,30,31,30,31]
theorem AR{i:Int}(h0:0<=i)(h1:i<12):(LEN.take i.toNat).sum=S i:=by
 have hc:i=0\/i=1\/i=2\/i=3\/i=4\/i=5\/i=6\/i=7\/i=8\/i=9\/i=10\/i=11:=by lia
 rcases hc with h|h|h|h|h|h|h|h|h|h|h|h <;> subst h <;> decide
theorem Gu(T:Txt K mg a)(H:Hp):SqT K H a.dC (LEN.map V.int):=.inr T.dC
def sp_pM:Sp:=sp1 fun x H Q _=>asI x fun m=>NoT H/\Q (.int (FD m)) H
theorem jU(T:Txt K mg a):Fo P w K mg base "first_day" 2 sp_pM:=by
 refine T.sV.g1 ["month","years","ahead","leaps"] fun x0 fA cdv A outer s H Q E ND HU hr h=>?_;obtain⟨m,rfl,hN,k⟩:=asI.inv h;refine⟨hN,_,(af (aS 1 ND (aj a9 (fv 0) aa))
  (af (aS 2 ND (aj a7 (fv 0) aa))
  (af (aS 3 ND (z0 (aO jL (fv 2) aa) (aN (jF T) hr aE (fa1 (aj aK (fv 1) aa))) (aN (jF T) hr aE (fa1 (fv 1)))))
  (ag (aJ (aj aK (aj aK (aj dl aa (fv 1)) (fv 3)) (aH (pR K rfl) rfl T.Bv uh (fa1 (ci (mi K) (v_ (v:=.ref a.dC) rfl T.xy rfl) da (c8 (fv 2))))))))))),?_⟩
 walk_at "rd";have b0:0<=m % 12:=ZR _ (by decide);have b1:m % 12<12:=ZW _ (by decide);have nw:¬ (HT.sIx (LEN.map V.int).length 0 none=0/\HT.sIx (LEN.map V.int).length (LEN.map V.int).length (some (m % 12))=(LEN.map V.int).length):=fun⟨_,z⟩=>by
  have e:m % 12=(((m % 12).toNat:Nat):Int):=by lia
  rw[e,HT.sIx_nat]at z;have l:(LEN.map V.int).length=12:=rfl;rw[l]at z;lia
 have fin:∀(p:Addr),(upd H p (.tup (h_ (LEN.map V.int) none (some (m % 12))))) p=some (.tup ((LEN.take (m % 12).toNat).map V.int)):=fun p=>by
  rw[ad,Aq _ b0,List.map_take]
 split
 ·rename_i h1
  refine⟨hN,a.dC,_,rfl,Gu T _,nw,fun p hp=>⟨LEN.take (m % 12).toNat,.inr (SqT.of (fin p)),H,Gc.none (au _ hp),?_⟩⟩;have e:365*(m / 12)+LD (m / 12+1)+(LEN.take (m % 12).toNat).sum=FD m:=by
   rw[AR b0 b1];unfold FD;rw[if_pos h1]
  rw[e];exact k
 ·rename_i h1
  refine⟨hN,a.dC,_,rfl,Gu T _,nw,fun p hp=>⟨LEN.take (m % 12).toNat,.inr (SqT.of (fin p)),H,Gc.none (au _ hp),?_⟩⟩;have e:365*(m / 12)+LD (m / 12)+(LEN.take (m % 12).toNat).sum=FD m:=by
   rw[AR b0 b1];unfold FD;rw[if_neg h1]
  rw[e];exact k
def sp_sY:Sp:=sp1 fun x H Q _=>asI x fun m=>NoT H/\Q (.int (FD (m+1)-1)) H
theorem si(T:Txt K mg a):Fo P w K mg base "last_day" 3 sp_sY:=by
 refine T.uo.g1 ["month"] fun x0 fA cdv A outer s H Q E ND HU hr h=>?_;obtain⟨m,rfl,hN,k⟩:=asI.inv h;refine⟨hN,_,(ag (aJ (aj eP (aN (jU T) hr aE (fa1 (aj aK (fv 0) aa))) aa))),?_⟩;walk_at "rd";exact⟨hN,k⟩
def sp_rB:Sp:=sp1 fun x H Q _=>asI x fun d=>NoT H/\(0<=d/\d<=146096)/\Q (.int (MO d)) H
theorem rq(T:Txt K mg a):Fo P w K mg base "month_of" 4 sp_rB:=by
 refine T.uW.g1 ["day","month"] fun x0 fA cdv A outer s H Q E ND HU hr h=>?_;obtain⟨d,rfl,hN,⟨d0,d1⟩,k⟩:=asI.inv h;refine⟨hN,_,(af (aS 1 ND (aj a9 (aj dl (fv 0) aa) aa))
  (af (ip (by passes_own) (aO jL (aN (jU T) hr aE (fa1 (fv 1))) (fv 0)) (ag (aS 1 ND (aj eP (fv 1) aa))))
  (af (ip (by passes_own) (aO nP (aN (si T) hr aE (fa1 (fv 1))) (fv 0)) (ag (aS 1 ND (aj aK (fv 1) aa))))
  (ag (aJ (fv 1)))))),?_⟩
 walk_at "rd";refine⟨fun n σ H1=>∃m,σ=[some (.int d),some (.int m)]/\H=H1/\0<=m/\m<=4799/\n=m.toNat,⟨_,_,rfl,rfl,by lia,by lia,rfl⟩,?_⟩;rintro n σ H1 ⟨m,rfl,rfl,m0,m1,rfl⟩;walk_at "rd";refine⟨hN,?_⟩;split
 ·rename_i h2
  have hm:1<=m:=by
   by_cases z:m=0
   ·rw[z,Hl]at h2;lia
   ·lia
  refine⟨_,fun σ' H' z=>z,(m-1).toNat,by lia,m-1,rfl,rfl,by lia,by lia,rfl⟩
 ·rename_i h2
  refine⟨fun n σ H1=>∃m,σ=[some (.int d),some (.int m)]/\H=H1/\0<=m/\m<=4799/\FD m<=d/\n=(4800-m).toNat,⟨_,_,rfl,rfl,m0,m1,by lia,rfl⟩,?_⟩;rintro n σ H1 ⟨m',rfl,rfl,m0',m1',h3,rfl⟩;walk_at "rd";refine⟨hN,?_⟩;split
  ·rename_i h4
   have hm:m'+1<=4799:=by
    by_cases z:m'=4799
    ·rw[z]at h4
     have e:(4799:Int)+1=4800:=by decide
     rw[e,y3]at h4;lia
    ·lia
   exact⟨_,fun σ' H' z=>z,(4800-(m'+1)).toNat,by lia,m'+1,rfl,rfl,by lia,hm,by lia,rfl⟩
  ·rename_i h4
   rw[AK h3 (by lia)]at k;exact k
end
open PySem L2 K19 K22
section
variable{pS:Addr}{ns:List Int}{P:Program}{w:World}{K:W.Frag}{mg:Str->Option Value}{base:Heap}{a:Adr}
def Keep(S:List Addr)(H H':Hp):Prop:=∀c z,H c=some z->c∉S->H' c=some z
theorem Keep.refl{S:List Addr}{H:Hp}:Keep S H H:=fun _ _ e _=>e
theorem Keep.trans{S:List Addr}{H H1 H2:Hp}(x:Keep S H H1)(y:Keep S H1 H2):Keep S H H2:=fun c z e n=>y c z (x c z e n) n
theorem Keep.mono{S S':List Addr}{H H':Hp}(x:Keep S H H')(h:∀c,c∈S->c∈S'):Keep S' H H':=fun c z e n=>x c z e fun m=>n (h c m)
theorem Keep.new{S:List Addr}{H H1:Hp}{p:Addr}{o:HO}(x:Keep S H H1)(h:H1 p=none):Keep S H (upd H1 p o):=fun c z e n=>by
 rw[ah (aC (x c z e n) h)];exact x c z e n
theorem Keep.put{S:List Addr}{H H1:Hp}{p:Addr}{o:HO}(x:Keep S H H1)(h:p∈S):Keep S H (upd H1 p o):=fun c z e n=>by
 rw[ah (by rintro rfl;exact n h)];exact x c z e n
theorem Keep.same{S:List Addr}{H H':Hp}(x:Same H H'):Keep S H H':=fun c z e _=>x c z e
theorem a6{H:Hp}{p q:Addr}{x y:HO}(h:H p=some x)(g:H q=some y)(n:x≠y:=by intro z;cases z):p≠q:=by
 rintro rfl;rw[h]at g;cases g;exact n rfl
def cl:Option Int->V
 |none=>.non
 |some m=>.int m
structure Acc where
 pa:List Nat
 ob:Addr
 bl:Addr
 ki:V
 cu:V
 fi:Int
 un:Option Int
 be:List (List Nat)
def gp(k c f u b:V):List (Str × V):=[("kind",k),("currency",c),("first",f),("until",u),("below",b)]
theorem fk(k c f u b:V):wZ (zI "kind") (gp k c f u b)=some k:=i_
theorem ff(k c f u b:V):wZ (zI "first") (gp k c f u b)=some f:=by unfold gp;rw[aR (by decide +kernel),aR (by decide +kernel)];exact i_
theorem fu(k c f u b:V):wZ (zI "until") (gp k c f u b)=some u:=by unfold gp;rw[aR (by decide +kernel),aR (by decide +kernel),aR (by decide +kernel)];exact i_
theorem fb(k c f u b:V):wZ (zI "below") (gp k c f u b)=some b:=by unfold gp;rw[aR (by decide +kernel),aR (by decide +kernel),aR (by decide +kernel),aR (by decide +kernel)];exact i_
theorem HH(k c f u b:V):wZ (zI "stands_on") (gp k c f u b)=none:=by unfold gp;rw[aR (by decide +kernel),aR (by decide +kernel),aR (by decide +kernel),aR (by decide +kernel),aR (by decide +kernel)];rfl
theorem HG(k c f u b v:V):dE (zI "until") v (gp k c f u b)=gp k c f v b:=by
 have q1:¬ (zI "kind" = zI "until"):=by decide +kernel
 have q2:¬ (zI "currency" = zI "until"):=by decide +kernel
 have q3:¬ (zI "first" = zI "until"):=by decide +kernel
 simp[dE,gp,q1,q2,q3]
theorem E2(k c f u b:V):dE (zI "below") b (dE (zI "until") u (dE (zI "first") f (dE (zI "currency") c (dE (zI "kind") k []))))=gp k c f u b:=by
 have q1:¬ (zI "kind" = zI "until"):=by decide +kernel
 have q2:¬ (zI "currency" = zI "until"):=by decide +kernel
 have q3:¬ (zI "first" = zI "until"):=by decide +kernel
 have q4:¬ (zI "kind" = zI "first"):=by decide +kernel
 have q5:¬ (zI "currency" = zI "first"):=by decide +kernel
 have q6:¬ (zI "kind" = zI "currency"):=by decide +kernel
 have q7:¬ (zI "kind" = zI "below"):=by decide +kernel
 have q8:¬ (zI "currency" = zI "below"):=by decide +kernel
 have q9:¬ (zI "first" = zI "below"):=by decide +kernel
 have q0:¬ (zI "until" = zI "below"):=by decide +kernel
 simp[dE,gp,q1,q2,q3,q4,q5,q6,q7,q8,q9,q0]
def sp_xg(A:Addr):Sp:=sp4 fun x k c f H Q _=>NoT H/\asR x fun p=>∃dx,H p=some (.ins A dx [])/\∀b H',H b=none->H' p=some (.ins A dx (gp k c f .non (.ref b)))->H' b=some (.lst [])->Keep [p] H H'->NoT H'->Q .non H'
theorem eS(T:Txt K mg a):Mo P w K mg base a.aI "__init__" 1 (sp_xg a.aI):=by
 refine T.jb.x4 ["self","kind","currency","first"] fun x0 x1 x2 x3 fA cdv A outer s H Q E ND HU hr h=>?_;obtain⟨hN,h1⟩:=h;obtain⟨p,rfl,dx,hp,k⟩:=asR.inv h1;refine⟨_,(af (dF K (fv 0) (fv 1))
  (af (dF K (fv 0) (fv 2))
  (af (dF K (fv 0) (fv 3))
  (af (dF K (fv 0) cI)
  (ag (dF K (fv 0) (cX (FA.pa di)))))))),?_⟩
 walk_at "rd";refine⟨_,_,_,hp,T.a8,T.ii,by decide,_,_,_,ad,T.a8,T.fE,by show 1<1000;decide,_,_,_,ad,T.a8,T.eM,by show 2<1000;decide,_,_,_,ad,T.a8,T.bL,by show 3<1000;decide,ud _,fun b hb=>?_⟩;rw[jx,jx,jx]at hb |-
 have np:p≠b:=fun q=>by rw[<- q,ad]at hb;cases hb
 have hb0:H b=none:=by rw[ah (Ne.symm np)]at hb;exact hb
 refine⟨_,_,_,(ah np).trans ad,T.a8,T.eR,by show 4<1000;decide,?_⟩;rw[E2];refine k b _ hb0 ad ?_ ?_ ?_
 ·rw[ah (Ne.symm np),ad]
 ·exact((Keep.refl.put (zL.2 rfl)).new hb).put (zL.2 rfl)
 ·exact aA (aA (aA hN rfl) rfl) rfl
def lat(u:Option Int)(d:Int):Bool:=match u with
 |none=>true
 |some t=>decide (d<t)
def opn(f:Int)(u:Option Int)(d:Int):Bool:=decide (f<=d)&&lat u d
def sp_on(A:Addr):Sp:=sp2 fun x y H Q _=>NoT H/\asR x fun p=>asI y fun d=>∃dx k c f u b,H p=some (.ins A dx (gp k c (.int f) (cl u) b))/\Q (.bl (opn f u d)) H
theorem eK(T:Txt K mg a):Mo P w K mg base a.aI "stands_on" 1 (sp_on a.aI):=by
 refine T.iW.g2 ["self","day"] fun x0 x1 fA cdv A outer s H Q E ND HU hr h=>?_;obtain⟨hN,h1⟩:=h;obtain⟨p,rfl,h2⟩:=asR.inv h1;obtain⟨d,rfl,dx,k,c,f,u,b,hp,q⟩:=asI.inv h2;refine⟨hN,_,(ag (aJ (dJ (eY eF (a_ K (fv 0)) (fv 1) (gm _)) (d6 (Am (pH (j_ (a_ K (fv 0)))) (d6 (eY nP (fv 1) (a_ K (fv 0)) (gm _)))))))),?_⟩;walk_at "rd";refine⟨_,_,_,_,hp,T.a8,T.eM,ff ..,?_⟩;walk_at "rd";split
 ·rename_i h1
  refine⟨_,_,_,_,hp,T.a8,T.bL,fu ..,?_⟩;have e:opn f u d=lat u d:=by unfold opn;rw[decide_eq_true h1];rfl
  rw[e]at q;cases u with
  |none=>exact q
  |some t=>
   rw[if_neg (by intro z;cases z)];exact⟨_,_,_,_,hp,T.a8,T.bL,fu ..,⟨H,Gc.refl,q⟩⟩
 ·rename_i h1
  have e:opn f u d=false:=by unfold opn;rw[decide_eq_false h1];rfl
  rw[e]at q;exact q
def sp_yN:Sp:=sp2 fun _ _ _ _ _=>False
theorem gF(T:Txt K mg a):Mo P w K mg base a.aI "stands_later" 1 sp_yN:=by
 refine T.gR.g2 ["self","day"] fun x0 x1 fA cdv A outer s H Q E ND HU hr h=>?_;exact h.elim
def kyA(c:Acc):Key × V:=(.inr ⟨⟨c.pa⟩⟩,.ref c.ob)
structure AAt(A:Addr)(H:Hp)(c:Acc):Prop where
 ob:∃dx,H c.ob=some (.ins A dx (gp c.ki c.cu (.int c.fi) (cl c.un) (.ref c.bl)))
 ls:H c.bl=some (.lst (c.be.map L2.T))
structure CAt(C A:Addr)(H:Hp)(p d:Addr)(cs:List Acc):Prop where
 ob:∃dx,H p=some (.ins C dx [("by_path",.ref d)])
 dc:H d=some (.dK (cs.map kyA))
 ac:∀c∈cs,AAt A H c
 np:(cs.map (·.pa)).Nodup
 na:(cs.map (·.ob)).Nodup
 nb:(cs.map (·.bl)).Nodup
theorem CAt.keep{C A:Addr}{S:List Addr}{H H':Hp}{p d:Addr}{cs:List Acc}(j:CAt C A H p d cs)(x:Keep S H H')(hp:p∉S)(hd:d∉S)(hc:∀c∈cs,c.ob∉S/\c.bl∉S):CAt C A H' p d cs:=
 ⟨by obtain⟨dx,e⟩:=j.ob;exact⟨dx,x _ _ e hp⟩,x _ _ j.dc hd,fun c hm=>⟨by obtain⟨dx,e⟩:=(j.ac c hm).ob;exact⟨dx,x _ _ e (hc c hm).1⟩,x _ _ (j.ac c hm).ls (hc c hm).2⟩,j.np,j.na,j.nb⟩
theorem CAt.same{C A:Addr}{H H':Hp}{p d:Addr}{cs:List Acc}(j:CAt C A H p d cs)(x:Same H H'):CAt C A H' p d cs:=
 j.keep (S:=[]) (Keep.same x) xz xz fun _ _=>⟨xz,xz⟩
def fnd(cs:List Acc)(l:List Nat):Option Acc:=cs.find? fun c=>decide (c.pa=l)
theorem iy(l:List Nat):∀cs:List Acc,cU (cs.map kyA) (.inr ⟨⟨l⟩⟩)=(fnd cs l).map fun c=>.ref c.ob
 | []=>rfl
 |c::r=>by
  have ih:=iy l r;by_cases h:c.pa=l
  ·rw[xx,bO (by show Sum.inr _=Sum.inr _;rw[h])]
   simp[fnd,h,kyA]
  ·rw[xx,bG (fun z=>h (by simpa [kyA] using z)),ih]
   simp[fnd,h]
theorem CL{cs:List Acc}{l:List Nat}{c:Acc}(h:fnd cs l=some c):c∈cs/\c.pa=l:=
 ⟨List.mem_of_find?_eq_some h,by simpa using List.find?_some h⟩
theorem m7{cs:List Acc}{l:List Nat}(h:fnd cs l=none):∀c∈cs,c.pa≠l:=fun c hc=>by
 simpa using List.find?_eq_none.mp h c hc
theorem iL{β:Type}{f:Acc->β}:∀ {cs:List Acc} {c c':Acc},(cs.map f).Nodup->c∈cs->c'∈cs->f c=f c'->c=c'
 | [],_,_,_,h,_,_=>nomatch h
 |x::r,c,c',hn,h,h',e=>by
  rw[xx,Zd]at hn;rcases zG.mp h with h1|h1
  ·rcases zG.mp h' with h2|h2
   ·rw[h1,h2]
   ·subst h1
    exact absurd (by rw[e];exact xF h2) hn.1
  ·rcases zG.mp h' with h2|h2
   ·subst h2
    exact absurd (by rw[<- e];exact xF h1) hn.1
   ·exact iL hn.2 h1 h2 e
theorem pG{cs:List Acc}(hn:(cs.map (·.pa)).Nodup){c:Acc}(hc:c∈cs):fnd cs c.pa=some c:=by
 cases e:fnd cs c.pa with
 |none=>exact absurd rfl (m7 e c hc)
 |some c'=>
  obtain⟨h1,h2⟩:=CL e;rw[iL hn h1 hc h2]
theorem lkp(x:V):wZ (zI "by_path") [(zI "by_path",x)]=some x:=i_
def sp_xx(C A:Addr):Sp:=sp1 fun x H Q _=>NoT H/\asR x fun p=>∃dx,H p=some (.ins C dx [])/\∀d H',H d=none->CAt C A H' p d []->Keep [p] H H'->NoT H'->Q .non H'
theorem jI(T:Txt K mg a):Mo P w K mg base a.aQ "__init__" 1 (sp_xx a.aQ a.aI):=by
 refine T.j6.x1 ["self"] fun x0 fA cdv A outer s H Q E ND HU hr h=>?_;obtain⟨hN,h1⟩:=h;obtain⟨p,rfl,dx,hp,k⟩:=asR.inv h1;refine⟨_,(ag (dF K (fv 0) vV)),?_⟩;walk_at "rd";intro d hd;have np:p≠d:=aC hp hd;refine⟨_,_,_,(ah np).trans hp,T.bg,T.bE,by show 0<1000;decide,?_⟩;refine k d _ hd ⟨⟨dx,?_⟩,?_,(fun _ h=>nomatch h),.nil,.nil,.nil⟩ ?_ ?_
 ·rw[ad];simp[dE]
 ·rw[ah (Ne.symm np),ad];rfl
 ·exact(Keep.refl.new hd).put (zL.2 rfl)
 ·exact aA (aA hN rfl) rfl
def sp_Ez(C A:Addr):Sp:=sp2 fun x y H Q _=>NoT H/\asR x fun p=>asT y fun l=>∃d cs,CAt C A H p d cs/\Q (.bl (fnd cs l).isSome) H
theorem rg(T:Txt K mg a):Mo P w K mg base a.aQ "has" 1 (sp_Ez a.aQ a.aI):=by
 refine T.sj.g2 ["self","path"] fun x0 x1 fA cdv A outer s H Q E ND HU hr h=>?_;obtain⟨hN,h1⟩:=h;obtain⟨p,rfl,h2⟩:=asR.inv h1;obtain⟨l,rfl,d,cs,J,k⟩:=asT.inv h2;obtain⟨dx,hp⟩:=J.ob;refine⟨hN,_,(ag (aJ (dJ (aH (eA K) rfl T.bz bq (fa2 (fv 1) (d9 (v:=.ty "str") rfl T.oW j8 rfl))) (d6 (pH (vL (Zr HU) (fv 1) (a_ K (fv 0))) (by with_unfolding_all rfl)))))),?_⟩;walk_at "rd";refine⟨_,_,_,_,hp,T.bg,T.bE,lkp _,d,_,rfl,DGet.k (k:=.inr ⟨⟨l⟩⟩) J.dc,?_⟩;rw[iy,YN];exact k
def sp_uS(C A:Addr):Sp:=sp2 fun x y H Q _=>NoT H/\asR x fun p=>asT y fun l=>∃d cs c,CAt C A H p d cs/\c∈cs/\c.pa=l/\Q (.ref c.ob) H
theorem EV(x:V):wZ (zI "has") [(zI "by_path",x)]=none:=by rw[aR (by decide +kernel)];rfl
theorem g8(x:V):wZ (zI "account") [(zI "by_path",x)]=none:=by rw[aR (by decide +kernel)];rfl
theorem cR(T:Txt K mg a):Mo P w K mg base a.aQ "account" 2 (sp_uS a.aQ a.aI):=by
 refine T.lG.g2 ["self","path"] fun x0 x1 fA cdv A outer s H Q E ND HU hr h=>?_;obtain⟨hN,h1⟩:=h;obtain⟨p,rfl,h2⟩:=asR.inv h1;obtain⟨l,rfl,d,cs,c,J,hc,rfl,k⟩:=asT.inv h2;obtain⟨dx,hp⟩:=J.ob;refine⟨hN,_,(af (aW (bB (bv (cj (fv 0) T.bg (rg T) (hr.mono (by decide)) aE (fa1 (fv 1))))) (ag (bU T.sD T.rO bf)) aL)
  (ag (aJ (bQ (Zr HU) (a_ K (fv 0)) (fv 1) (fun _ _=>rfl))))),?_⟩
 walk_at "rd";refine⟨_,_,hp,EV _,hN,d,cs,J,?_⟩;have g:=DGet.k (k:=.inr ⟨⟨c.pa⟩⟩) J.dc;rw[iy,pG J.np hc]at g;rw[pG J.np hc,if_neg (by intro z;cases z)];exact⟨_,_,_,_,hp,T.bg,T.bE,lkp _,d,.ref c.ob,rfl,g,k⟩
theorem fcu(k c f u b:V):wZ (zI "currency") (gp k c f u b)=some c:=by unfold gp;rw[aR (by decide +kernel)];exact i_
def sp_z4(C A:Addr):Sp:=sp2 fun x y H Q _=>NoT H/\asR x fun p=>asT y fun l=>∃d cs c,CAt C A H p d cs/\c∈cs/\c.pa=l/\Q c.cu H
theorem eJ(T:Txt K mg a):Mo P w K mg base a.aQ "currency_of" 3 (sp_z4 a.aQ a.aI):=by
 refine T.iS.g2 ["self","path"] fun x0 x1 fA cdv A outer s H Q E ND HU hr h=>?_;obtain⟨hN,h1⟩:=h;obtain⟨p,rfl,h2⟩:=asR.inv h1;obtain⟨l,rfl,d,cs,c,J,hc,rfl,k⟩:=asT.inv h2;obtain⟨dx,hp⟩:=J.ob;refine⟨hN,_,(ag (aJ (a_ K (cj (fv 0) T.bg (cR T) (hr.mono (by decide)) aE (fa1 (fv 1)))))),?_⟩;walk_at "rd";obtain⟨du,ho⟩:=(J.ac c hc).ob;exact⟨_,_,hp,g8 _,hN,d,cs,c,J,hc,rfl,_,_,_,_,ho,T.a8,T.fE,fcu ..,k⟩
def sp_uE(C A:Addr):Sp:=sp3 fun x y z H Q _=>NoT H/\asR x fun p=>asT y fun l=>asI z fun t=>∃d cs c,CAt C A H p d cs/\c∈cs/\c.pa=l/\Q (.bl (opn c.fi c.un t)) H
theorem gJ(T:Txt K mg a):Mo P w K mg base a.aQ "is_open" 3 (sp_uE a.aQ a.aI):=by
 refine T.lH.g3 ["self","path","day"] fun x0 x1 x2 fA cdv A outer s H Q E ND HU hr h=>?_;obtain⟨hN,h1⟩:=h;obtain⟨p,rfl,h2⟩:=asR.inv h1;obtain⟨l,rfl,h3⟩:=asT.inv h2;obtain⟨t,rfl,d,cs,c,J,hc,rfl,k⟩:=asI.inv h3;obtain⟨dx,hp⟩:=J.ob;refine⟨hN,_,(ag (aJ (cj (cj (fv 0) T.bg (cR T) (hr.mono (by decide)) aE (fa1 (fv 1))) T.a8 (eK T) (hr.mono (by decide)) aE (fa1 (fv 2))))),?_⟩;walk_at "rd";obtain⟨du,ho⟩:=(J.ac c hc).ob;exact⟨_,_,hp,g8 _,hN,d,cs,c,J,hc,rfl,_,_,ho,HH ..,hN,_,_,_,_,_,_,ho,k⟩
theorem dZ{β:Type}{l:List β}{x:β}(h:l.Nodup)(n:x∉l):(l++[x]).Nodup:=
 List.nodup_append.mpr ⟨h,Zd.mpr ⟨xz,List.nodup_nil⟩,fun a ha b hb=>by rw[zL.mp hb];rintro rfl;exact n ha⟩
theorem CAt.bl_d{C A:Addr}{H:Hp}{p d:Addr}{cs:List Acc}(J:CAt C A H p d cs){c:Acc}(hc:c∈cs):c.bl≠d:=a6 (J.ac c hc).ls J.dc
theorem CAt.ob_d{C A:Addr}{H:Hp}{p d:Addr}{cs:List Acc}(J:CAt C A H p d cs){c:Acc}(hc:c∈cs):c.ob≠d:=by
 obtain⟨dx,e⟩:=(J.ac c hc).ob;exact a6 e J.dc
theorem CAt.p_d{C A:Addr}{H:Hp}{p d:Addr}{cs:List Acc}(J:CAt C A H p d cs):p≠d:=by
 obtain⟨dx,e⟩:=J.ob;exact a6 e J.dc
theorem CAt.p_bl{C A:Addr}{H:Hp}{p d:Addr}{cs:List Acc}(J:CAt C A H p d cs){c:Acc}(hc:c∈cs):p≠c.bl:=by
 obtain⟨dx,e⟩:=J.ob;exact a6 e (J.ac c hc).ls
theorem CAt.ob_bl{C A:Addr}{H:Hp}{p d:Addr}{cs:List Acc}(J:CAt C A H p d cs){c c':Acc}(hc:c∈cs)(hc':c'∈cs):c.ob≠c'.bl:=by
 obtain⟨dx,e⟩:=(J.ac c hc).ob;exact a6 e (J.ac c' hc').ls
theorem tI{cs:List Acc}{l:List Nat}(h:fnd cs l=none)(c:Acc)(e:c.pa=l):cW (cs.map kyA) (.inr ⟨⟨l⟩⟩) (.ref c.ob)=(cs++[c]).map kyA:=by
 rw[nc _ (by rw[iy,h];rfl),vd,<- e];rfl
theorem CAt.more{C A:Addr}{H H':Hp}{p d:Addr}{cs:List Acc}(J:CAt C A H p d cs)(kp:Keep [] H H'){c:Acc}(hf:fnd cs c.pa=none)(h0:H c.ob=none)(h1:H c.bl=none)(hc:AAt A H' c) :
 CAt C A (upd H' d (.dK ((cs++[c]).map kyA))) p d (cs++[c]):=by
 have J1:=J.keep kp xz xz fun _ _=>⟨xz,xz⟩;have dn:=J1.dc;obtain⟨dc,eo⟩:=hc.ob;have n1:c.ob≠d:=a6 eo dn;have n2:c.bl≠d:=a6 hc.ls dn;refine⟨?_,ad,fun z hz=>?_,?_,?_,?_⟩
 ·obtain⟨dx,e⟩:=J1.ob
  exact⟨dx,(ah J1.p_d).trans e⟩
 ·rcases y9.mp hz with hz|hz
  ·obtain⟨dz,e⟩:=(J1.ac z hz).ob
   exact⟨⟨dz,(ah (J1.ob_d hz)).trans e⟩,(ah (J1.bl_d hz)).trans (J1.ac z hz).ls⟩
  ·rw[zL.mp hz]
   exact⟨⟨dc,(ah n1).trans eo⟩,(ah n2).trans hc.ls⟩
 ·rw[vd]
  refine dZ J.np fun h=>?_;obtain⟨z,hz,e⟩:=yH.mp h;exact m7 hf z hz e
 ·rw[vd]
  refine dZ J.na fun h=>?_;obtain⟨z,hz,e⟩:=yH.mp h;obtain⟨dz,eo⟩:=(J.ac z hz).ob;rw[e,h0]at eo;cases eo
 ·rw[vd]
  refine dZ J.nb fun h=>?_;obtain⟨z,hz,e⟩:=yH.mp h;have eo:=(J.ac z hz).ls;rw[e,h1]at eo;cases eo
theorem gN{H H':Hp}{x dx:Addr}{o o':HO}(hx:H x=none)(hd:H dx=none)(kp:Keep [x] (upd (upd H dx o) x o') H'):Keep [] H H':=fun c z e _=>by
 have n1:c≠x:=aC e hx;have n2:c≠dx:=aC e hd;exact kp c z (by rw[ah n1,ah n2];exact e) (by simpa using n1)
theorem d4{H:Hp}{x dx b:Addr}{o o':HO}(h:upd (upd H dx o) x o' b=none):H b=none:=by
 have n1:b≠x:=fun z=>by rw[z,ad]at h;cases h
 rw[ah n1]at h;have n2:b≠dx:=fun z=>by rw[z,ad]at h;cases h
 rw[ah n2]at h;exact h
abbrev KDS:List (List Nat):=[[104,97,118,101],[111,119,101],[111,119,110],[103,97,105,110],[99,111,115,116]]
def sp_vt(C A:Addr):Sp:=sp3 fun x y z H Q _=>NoT H/\asR x fun p=>asT y fun l=>nm l=true/\asT z fun kd=>kd∈KDS/\∃d cs,CAt C A H p d cs/\cs.length<=100/\fnd cs l=none /\
 (∀c H',c.pa=l->c.cu = .non->c.fi=0->c.un=none->c.be=[]->H c.ob=none->H c.bl=none->CAt C A H' p d (cs++[c])->Keep [d] H H'->NoT H'->Q .non H')
theorem BA{l:List Nat}(h:l∈KDS):inV (L2.T l) (KDS.map L2.T)=true:=by
 simp only[zG,xz,or_false]at h;rcases h with rfl|rfl|rfl|rfl|rfl <;> decide
theorem GE{l:List Nat}(h:nm l=true):ok l:=by
 obtain⟨_,h2,h3⟩:=ke h;exact⟨fun c hc=>by have:=h3 c hc;lia,by lia⟩
theorem kX(T:Txt K mg a):Mo P w K mg base a.aQ "add_top" 4 (sp_vt a.aQ a.aI):=by
 refine T.lU.x3 ["self","name","kind"] fun x0 x1 x2 fA cdv A outer s H Q E ND HU hr h=>?_;obtain⟨hN,h1⟩:=h;obtain⟨p,rfl,h2⟩:=asR.inv h1;obtain⟨l,rfl,e,h3⟩:=asT.inv h2;obtain⟨kd,rfl,hz,d,cs,J,len,ef,k⟩:=asT.inv h3;obtain⟨dx,hp⟩:=J.ob;refine⟨_,(af (aW (bB (bv (aN (mO T) hr aE (fa1 (fv 1))))) (ag (bU T.xC T.yD bf)) aL)
  (af (aW (jk (kr K) (fv 2) (v_ (v:=.ref a.jv) rfl T.CG rfl) (by with_unfolding_all rfl)) (ag (bU T.xD T.xQ bf)) aL)
  (af (aW (cY (vL (Zr HU) (fv 1) (a_ K (fv 0))) (by with_unfolding_all rfl)) (ag (bU T.wT T.wR bf)) aL)
  (ag (gY (Zr HU) (a_ K (fv 0)) (fv 1) (Eh T.mZ (eS T) (hr.mono (by decide)) rfl T.oQ aE (fa3 (fv 2) cI aa)) rfl))))),?_⟩
 walk_at "rd";refine⟨hN,GE e,itn (by rw[e];decide) ?_⟩;refine⟨_,.inr (.inr T.jv),rfl,by decide,?_⟩;rw[show inV (L2.T kd) _=true from BA hz,if_neg (by decide)];refine⟨_,_,_,_,hp,T.bg,T.bE,lkp _,d,_,rfl,DGet.k (k:=.inr ⟨⟨l⟩⟩) J.dc,?_⟩;rw[iy,YN,ef,if_neg (by intro z;cases z)];intro x dx hx hdx ne;refine⟨aA (aA hN rfl) rfl,_,ad,fun b H' hb h1 h2 kp hN'=>?_⟩;have kp0:=gN hx hdx kp;have J1:=J.keep kp0 xz xz fun _ _=>⟨xz,xz⟩;obtain⟨dx1,hp1⟩:=J1.ob
 let c:Acc:=⟨l,x,b,L2.T kd,.non,0,none,[]⟩
 have smk:(cs.map kyA).length<sizeLine:=by rw[zK,uS];lia
 refine⟨_,_,_,_,hp1,T.bg,T.bE,lkp _,d,_,rfl,DPut.k (k:=.inr ⟨⟨l⟩⟩) J1.dc smk,?_⟩;rw[tI ef c rfl];exact k c _ rfl rfl rfl rfl rfl hx (d4 hb) (J.more kp0 ef hx (d4 hb) ⟨⟨dx,h1⟩,h2⟩) ((kp0.mono (fun _ h=>nomatch h)).put (.head _)) (aA hN' rfl)
theorem mR(s x:List Nat):∀(r:List (List Nat)),r≠[]->cq s (r++[x])=cq s r++s++x
 | [],h=>absurd rfl h
 | [y],_=>by simp[cq]
 |y::z::r,_=>by
  have:=mR s x (z::r) (by simp);rw[ZC,ZC,cq,<- ZC,this,cq];simp
theorem fV{v n:List Nat}(hn:58∉n):spN 58 (v++58::n)=spN 58 v++[n]:=by
 have h:=mD 58 (spN 58 v++[n]) (by simp) fun p hp=>by
  rcases y9.mp hp with h|h
  ·exact iE 58 v p h
  ·rw[zL.mp h];exact hn
 rw[mR _ _ _ (i9 58 v),mX]at h;rw[<- h];simp
theorem Du{v n:List Nat}(hn:58∉n):abN (v++58::n)=abN v++[v]:=by
 unfold abN;rw[fV hn,yw,pM,Nat.add_sub_cancel];have hp:0<(spN 58 v).length:=YC.mpr (i9 58 v);obtain⟨m,hm⟩:∃m,(spN 58 v).length=m+1:=⟨(spN 58 v).length-1,by lia⟩;rw[hm,List.range_succ,vd,Nat.add_sub_cancel]
 congr 1
 ·apply rE
  intro k hk;have:=List.mem_range.mp hk;rw[List.take_append_of_le_length (by lia)]
 ·rw[List.map_singleton,<- hm,List.take_left',mX]
  rfl
def fO(cs:List Acc)(l:List Nat)(f:Acc->Acc):List Acc:=cs.map fun z=>if z.pa=l then f z else z
theorem dM{β:Type}{cs:List Acc}{l:List Nat}{f:Acc->Acc}(g:Acc->β)(h:∀z,g (f z)=g z):(fO cs l f).map g=cs.map g:=by
 unfold fO;rw[ug];apply rE;intro z _;show g (if z.pa=l then f z else z)=g z;split
 ·exact h z
 ·rfl
theorem eI{cs:List Acc}{l:List Nat}{f:Acc->Acc}{z:Acc}(h:z∈fO cs l f):∃y∈cs,z=if y.pa=l then f y else y:=by
 obtain⟨y,hy,e⟩:=yH.mp h;exact⟨y,hy,e.symm⟩
def grw(l:List Nat)(z:Acc):Acc:={ z with be:=z.be++[l] }
def shu(t:Int)(z:Acc):Acc:={ z with un:=some t }
theorem CAt.grow{C A:Addr}{H:Hp}{p d:Addr}{cs:List Acc}(J:CAt C A H p d cs){u:Acc}(hu:u∈cs)(l:List Nat):CAt C A (upd H u.bl (.lst (u.be.map L2.T++[L2.T l]))) p d (fO cs u.pa (grw l)):=by
 refine⟨?_,?_,fun z hz=>?_,?_,?_,?_⟩
 ·obtain⟨dx,e⟩:=J.ob
  exact⟨dx,(ah (J.p_bl hu)).trans e⟩
 ·rw[dM (f:=grw l) kyA fun _=>rfl,ah (Ne.symm (J.bl_d hu))];exact J.dc
 ·obtain⟨y,hy,e⟩:=eI hz
  obtain⟨dy,ho⟩:=(J.ac y hy).ob;by_cases h:y.pa=u.pa
  ·have:y=u:=iL J.np hy hu h
   subst this;rw[if_pos rfl]at e;subst e;exact⟨⟨dy,(ah (J.ob_bl hy hu)).trans ho⟩,by show upd H y.bl _ y.bl=some (.lst ((y.be++[l]).map L2.T));rw[ad,vd];rfl⟩
  ·rw[if_neg h]at e
   subst e;have nb:z.bl≠u.bl:=fun q=>h (by rw[iL J.nb hy hu q]);exact⟨⟨dy,(ah (J.ob_bl hy hu)).trans ho⟩,(ah nb).trans (J.ac z hy).ls⟩
 ·rw[dM (f:=grw l) _ fun _=>rfl];exact J.np
 ·rw[dM (f:=grw l) _ fun _=>rfl];exact J.na
 ·rw[dM (f:=grw l) _ fun _=>rfl];exact J.nb
theorem Ai{cs:List Acc}{v l:List Nat}{f:Acc->Acc}(hf:∀z,(f z).pa=z.pa)(h:fnd cs l=none):fnd (fO cs v f) l=none:=by
 refine List.find?_eq_none.mpr fun z hz=>?_;obtain⟨y,hy,e⟩:=eI hz;have:=m7 h y hy;subst e;split
 ·simpa [hf] using this
 ·simpa using this
theorem Fy{p q:Prop}(f:p->q)(x:p):q:=f x
theorem ES{x:V}{l:List Nat}{f:List Nat->Prop}(h:x=L2.T l)(k:f l):asT x f:=by subst h;exact k
def sp_EI(C A:Addr):Sp:=sp4 fun x y z t H Q _=>NoT H/\asR x fun p=>asT y fun l=>((∀c∈l,c<128)/\l.length<=199)/\(z = .non\/∃cl,z=L2.T cl/\cur cl=true)/\asI t fun day=>(0<=day/\day<=146096)/\∃v n d cs u,l=v++58::n/\58∉n/\jD l=true/\CAt C A H p d cs/\cs.length<=100/\(∀c∈cs,c.be.length<=100) /\
 fnd cs l=none/\u∈cs/\u.pa=v/\u.un=none/\u.fi<=day /\
 ∀c H',c.pa=l->c.cu=z->c.fi=day->c.un=none->c.be=[]->H c.ob=none->H c.bl=none->CAt C A H' p d (fO cs v (grw l)++[c])->Keep (d::cs.map (·.bl)) H H'->NoT H'->Q .non H'
theorem jJ(T:Txt K mg a):Mo P w K mg base a.aQ "add" 7 (sp_EI a.aQ a.aI):=by
 refine T.sv.x4 ["self","path","currency","day","upper"] fun x0 x1 x2 x3 fA cdv A outer s H Q E ND HU hr h=>?_;obtain⟨hN,h1⟩:=h;obtain⟨p,rfl,h2⟩:=asR.inv h1;obtain⟨l,rfl,hl,hz,h3⟩:=asT.inv h2;obtain⟨day,rfl,hd,v,n,d,cs,u,el,hn,e,J,len,lb,ef,hu,pu,un,uf,k⟩:=asI.inv h3;obtain⟨dx,hp⟩:=J.ob
 skip
 have c4:∃z,PSs (bW (XE P w) P w K mg base ["self","path","currency","day","upper"] "Chart.add" (ae dA) fA cdv A outer s H E) (Ys 4 (aq dA)) z/\z { nx:=fun _ H'=>Q .non H',rt:=Q } [some (.ref p),some (L2.T l),some x2,some (.int day),none] H:=by
  refine⟨_,(af (aS 4 ND (cj (fv 0) T.bg (cR T) (hr.mono (by decide)) aE (fa1 (DV (az K (aN (Br T) hr aE (fa1 (fv 1))) (rK mT aa))))))
   (af (aW (L2.PW.pt (dw (cY (cD (a_ K (fv 4)))) (cS (bB (bv (cj (fv 4) T.a8 (eK T) (hr.mono (by decide)) aE (fa1 (fv 3)))))))) (ag (bU T.iH T.iD bf)) aL)
   (af (bC (eQ K ZA ZH ZI d8 (a_ K (fv 4)) (fa1 (fv 1))))
   (ag (gY (Zr HU) (a_ K (fv 0)) (fv 1) (Eh T.mZ (eS T) (hr.mono (by decide)) rfl T.oQ aE (fa3 (a_ K (fv 4)) (fv 2) (fv 3))) rfl))))),?_⟩
  walk_at "rd";refine⟨_,_,hp,g8 _,hN,hN,hl,fun q2 hq2=>⟨_,L2.T v,.inl (SqL.of ad),?_,?_⟩⟩
  ·rw[el,Du hn,vd];exact mW _ _
  refine⟨H,Gc.none (au _ hq2),hN,?_⟩;walk_at "rd";refine⟨d,cs,u,J,hu,pu,?_⟩;obtain⟨du,ho⟩:=(J.ac u hu).ob;refine⟨_,_,_,_,ho,T.a8,T.bL,fu ..,?_⟩;rw[un];have eo:opn u.fi u.un day=true:=by rw[un];unfold opn;rw[decide_eq_true uf];rfl
  refine itp rfl ⟨_,_,ho,HH ..,hN,_,_,_,_,_,_,ho,?_⟩;rw[eo];have sml:(u.be.map L2.T).length<sizeLine:=by have:=lb u hu;rw[zK,uS];lia
  refine itn (by decide) ⟨_,_,_,_,ho,T.a8,T.eR,fb ..,.inl ⟨rfl,_,SqL.of (J.ac u hu).ls⟩,u.bl,_,_,rfl,rfl,(J.ac u hu).ls,sml,?_⟩;have J1:=J.grow hu l;have N1:NoT (upd H u.bl (.lst (u.be.map L2.T++[L2.T l]))):=aA hN rfl;have ho1:=(ah (o:=.lst (u.be.map L2.T++[L2.T l])) (J.ob_bl hu hu)).trans ho;have K1:Keep (d::cs.map (·.bl)) H (upd H u.bl (.lst (u.be.map L2.T++[L2.T l]))):=Keep.refl.put (.tail _ (xF hu));have n58:∀q,upd H u.bl (.lst (u.be.map L2.T++[L2.T l])) q=none->H q=none:=fun q hq=>by
   by_cases hc:q=u.bl
   ·rw[hc,ad]at hq;cases hq
   ·rw[ah hc]at hq;exact hq
  generalize upd H u.bl (.lst (u.be.map L2.T++[L2.T l]))=H1 at J1 N1 ho1 K1 n58 |-
  refine⟨_,_,_,_,ho1,T.a8,T.ii,fk ..,fun x dx1 hx hdx ne=>?_⟩;refine⟨aA (aA N1 rfl) rfl,_,ad,fun b H' hb h1 h2 kp hN'=>?_⟩;have kp0:=gN hx hdx kp;have J2:=J1.keep kp0 xz xz fun _ _=>⟨xz,xz⟩;obtain⟨dx2,hp2⟩:=J2.ob
  let c:Acc:=⟨l,x,b,u.ki,x2,day,none,[]⟩
  have smk:((fO cs u.pa (grw l)).map kyA).length<sizeLine:=by rw[dM (f:=grw l) kyA fun _=>rfl,zK,uS];lia
  have ef1:fnd (fO cs u.pa (grw l)) l=none:=Ai (fun _=>rfl) ef;refine⟨_,_,_,_,hp2,T.bg,T.bE,lkp _,d,_,rfl,DPut.k (k:=.inr ⟨⟨l⟩⟩) J2.dc smk,?_⟩;rw[tI ef1 c rfl];have J3:=J1.more kp0 (c:=c) ef1 hx (d4 hb) ⟨⟨dx1,h1⟩,h2⟩;rw[pu]at J3 |-
  exact k c _ rfl rfl rfl rfl rfl (n58 _ hx) (n58 _ (d4 hb)) J3 ((K1.trans (kp0.mono (fun _ h=>nomatch h))).put (.head _)) (aA hN' rfl)
 obtain⟨u4,hu4,c4⟩:=c4;refine⟨_,(af (aW (jH (aO (dm K HU) (aH (bj K) rfl T.cp bD (fa1 (aN (r_ T) hr aE (fa1 (fv 1))))) aa)) (ag (bU T.kg T.km bf)) aL)
  (af (aW (L2.PW.pt (gr (cY (cD (fv 2))) (eh (bB (bv (aN (il T) hr aE (fa1 (fv 2)))))))) (ag (bU T.i4 T.i7 bf)) aL)
  (af (aW (bB (bv (aN (iI T) hr aE (fa1 (fv 3))))) (ag (bU T.jt T.jA bf)) aL)
  (af (aW (cY (vL (Zr HU) (fv 1) (a_ K (fv 0))) (by with_unfolding_all rfl)) (ag (bU T.wT T.wR bf)) aL)
  hu4)))),?_⟩
 walk_at "rd";refine⟨hN,hN,hl,e,fun q hq=>?_⟩;refine⟨_,.inl (SqL.of ad),H,Gc.none (au _ hq),?_⟩;rw[zK,el,fV hn,yw,if_neg (by
  have hp:0<(spN 58 v).length:=YC.mpr (i9 58 v);simp only[pM];lia)]
 rw[<- el];refine' Fy (fun key=>_) _
 rotate_left 1
 ·rcases hz with hz|⟨cl',hz,hcl⟩
  ·exact itp hz key
  ·exact itn (by rw[hz];intro z;cases z) ⟨hN,ES hz ⟨hcl,key⟩⟩
 have ed:amg (.int day) 0 146096=true:=by show(decide (0<=day)&&decide (day<=146096))=true;rw[decide_eq_true hd.1,decide_eq_true hd.2];rfl
 rw[ed];refine⟨hN,itn (by decide) ⟨_,_,_,_,hp,T.bg,T.bE,lkp _,d,_,rfl,DGet.k (k:=.inr ⟨⟨l⟩⟩) J.dc,?_⟩⟩;rw[iy,YN,ef,if_neg (by intro z;cases z)];exact c4
end
open PySem L2 K19 K22
section
variable{P:Program}{w:World}{K:W.Frag}{mg:Str->Option Value}{base:Heap}{a:Adr}
theorem CAt.shutA{C A:Addr}{H:Hp}{p d:Addr}{cs:List Acc}(J:CAt C A H p d cs){u:Acc}(hu:u∈cs)(t:Int){dx:Addr}(ho:H u.ob=some (.ins A dx (gp u.ki u.cu (.int u.fi) (cl u.un) (.ref u.bl)))):CAt C A (upd H u.ob (.ins A dx (gp u.ki u.cu (.int u.fi) (.int t) (.ref u.bl)))) p d (fO cs u.pa (shu t)):=by
 have pob:p≠u.ob\/p=u.ob:=(Decidable.em _).symm;refine⟨?_,?_,fun z hz=>?_,?_,?_,?_⟩
 ·obtain⟨dp,e⟩:=J.ob
  have:p≠u.ob:=a6 e ho;exact⟨dp,(ah this).trans e⟩
 ·rw[dM (f:=shu t) kyA fun _=>rfl,ah (Ne.symm (J.ob_d hu))];exact J.dc
 ·obtain⟨y,hy,e⟩:=eI hz
  obtain⟨dy,hoy⟩:=(J.ac y hy).ob;by_cases h:y.pa=u.pa
  ·have:y=u:=iL J.np hy hu h
   subst this;rw[if_pos rfl]at e;subst e;exact⟨⟨dx,ad⟩,(ah (Ne.symm (J.ob_bl hy hu))).trans (J.ac y hy).ls⟩
  ·rw[if_neg h]at e
   subst e;have nb:z.ob≠u.ob:=fun q=>h (by rw[iL J.na hy hu q]);exact⟨⟨dy,(ah nb).trans hoy⟩,(ah (Ne.symm (J.ob_bl hu hy))).trans (J.ac z hy).ls⟩
 ·rw[dM (f:=shu t) _ fun _=>rfl];exact J.np
 ·rw[dM (f:=shu t) _ fun _=>rfl];exact J.na
 ·rw[dM (f:=shu t) _ fun _=>rfl];exact J.nb
def sp_BS(C A:Addr):Sp:=sp3 fun x y z H Q _=>NoT H/\asR x fun p=>asT y fun l=>((∀c∈l,c<128)/\l.length<=199)/\asI z fun day=>(0<=day/\day<=146096)/\∃d cs u,CAt C A H p d cs/\u∈cs/\u.pa=l/\jD l=true/\u.un=none/\u.fi<day/\u.be=[] /\
 ∀H',CAt C A H' p d (fO cs l (shu day))->Keep (cs.map (·.ob)) H H'->NoT H'->Q .non H'
theorem iY(T:Txt K mg a):Mo P w K mg base a.aQ "shut" 6 (sp_BS a.aQ a.aI):=by
 refine T.qg.x3 ["self","path","day","account"] fun x0 x1 x2 fA cdv A outer s H Q E ND HU hr h=>?_;obtain⟨hN,h1⟩:=h;obtain⟨p,rfl,h2⟩:=asR.inv h1;obtain⟨l,rfl,hl,h3⟩:=asT.inv h2;obtain⟨day,rfl,hd,d,cs,u,J,hu,pu,e,un,uf,ub,k⟩:=asI.inv h3;obtain⟨dx,hp⟩:=J.ob;refine⟨_,(af (aW (bB (bv (aN (m6 T) hr aE (fa1 (fv 1))))) (ag (bU T.kg T.km bf)) aL)
  (af (aS 3 ND (cj (fv 0) T.bg (cR T) (hr.mono (by decide)) aE (fa1 (fv 1))))
  (af (aW (L2.PW.pt (dw (bB (bv (aN (iI T) hr aE (fa1 (fv 2))))) (cS (aO eF (fv 2) (a_ K (fv 3)))))) (ag (bU T.jt T.jA bf)) aL)
  (af (aW (cY (cD (a_ K (fv 3)))) (ag (bU T.iH T.iD bf)) aL)
  (af (aW (jH (bv (aH (CD K rfl) rfl T.Gs EW (fa1 (br rfl (cl:=_) (x:="lower") (xs:=["lower"]) (fr:=["day","self"]) (ks:=[2,0]) (by walk_at "cq") rfl (bF K (a_ K (fv 3))) (fun _ _ _ _ _=>(aF (i:=0) (bX (l:=["lower","day","self"]) (by decide)) rfl (Or.inl rfl))) (fun _ _ _ _ _=>dN) (fun _ _ _ _ _=>(cj (bQ (Zr HU) (a_ K (fv 2)) (fv 0) (fun _ _=>rfl)) T.a8 (gF T) (hr.mono (by decide)) tR (fa1 (fv 1))))))))) (ag (bU T.uN T.vB bf)) aL)
  (ag (dF K (fv 3) (fv 2)))))))),?_⟩
 walk_at "rd";refine⟨hN,hl,itn (by rw[e];decide) ?_⟩;refine⟨_,_,hp,g8 _,hN,d,cs,u,J,hu,pu,?_⟩;obtain⟨du,ho⟩:=(J.ac u hu).ob;refine⟨hN,?_⟩;have ed:amg (.int day) 0 146096=true:=by show(decide (0<=day)&&decide (day<=146096))=true;rw[decide_eq_true hd.1,decide_eq_true hd.2];rfl
 rw[ed];refine itn (by decide) ⟨_,_,_,_,ho,T.a8,T.eM,ff ..,?_⟩;walk_at "rd";refine itn (by lia) ⟨_,_,_,_,ho,T.a8,T.bL,fu ..,?_⟩;rw[un];refine itp rfl ⟨hN,?_⟩;have hb:SqL K H u.bl []:=SqL.of (by rw[(J.ac u hu).ls,ub];rfl);refine cmL u.bl [] (fun H'=>SqL K H' u.bl []) (fun D ys hD=>hb.same (au _ hD)) (fun H' c=>c) (fun _=>true) (fun x=>x) (fun R r=>?_) hb (ud _) (fun x hx=>nomatch hx) (fun x hx=>nomatch hx) (fun D hD=>?_)
 ·walk_at "rd"
  exact⟨_,_,_,_,ho,T.a8,T.eR,fb ..,r⟩
 ·refine⟨[],SqL.of ad,H,Gc.none (au _ hD),itn (by decide) ⟨_,_,_,ho,T.a8,T.bL,by show 5<1000;decide,?_⟩⟩
  rw[HG];have J1:=J.shutA hu day ho;rw[pu]at J1;exact k _ J1 (Keep.refl.put (xF hu)) (aA hN rfl)
end
open PySem L2 K19 K22
section
variable{P:Program}{w:World}{K:W.Frag}{mg:Str->Option Value}{base:Heap}{a:Adr}
open K3
theorem jy(i lo hi:Int):amg (.int i) lo hi=(decide (lo<=i)&&decide (i<=hi)):=rfl
def dY(C dx:Addr)(v:V):HO:=.ins C dx [("last_closed",v)]
def sp_wZ(C:Addr):Sp:=sp1 fun x H Q _=>asR x fun p=>∃dx,H p=some (.ins C dx [])/\Q .non (upd H p (dY C dx .non))
theorem kA(T:Txt K mg a):Mo P w K mg base a.ba "__init__" 1 (sp_wZ a.ba):=by
 refine T.lK.x1 ["self"] fun x0 fA cdv A outer s H Q E ND HU hr h=>?_;obtain⟨p,rfl,dx,hp,k⟩:=asR.inv h;refine⟨_,(ag (dF K (fv 0) cI)),?_⟩;walk_at "rd";exact⟨_,_,_,hp,T.cz,T.bo,by decide,k⟩
theorem lk1(v:V):wZ (zI "last_closed") [(zI "last_closed",v)]=some v:=by simp[wZ]
def sp_ud(C:Addr):Sp:=sp1 fun x H Q _=>NoT H/\asR x fun p=>∃dx v,H p=some (dY C dx v)/\Q v H
theorem dU(T:Txt K mg a):Mo P w K mg base a.ba "closed" 1 (sp_ud a.ba):=by
 refine T.og.g1 ["self"] fun x0 fA cdv A outer s H Q E ND HU hr h=>?_;obtain⟨hN,h1⟩:=h;obtain⟨p,rfl,dx,v,hp,k⟩:=asR.inv h1;refine⟨hN,_,(ag (aJ (a_ K (fv 0)))),?_⟩;walk_at "rd";exact⟨_,_,_,_,hp,T.cz,T.bo,lk1 v,k⟩
def sp_xK(C:Addr):Sp:=sp2 fun x y H Q _=>NoT H/\asR x fun p=>asI y fun d=>(0<=d/\d<=146096)/\∃dx o,H p=some (dY C dx (cl o))/\Q (.bl (match o with|none=>true|some m=>decide (m<MO d))) H
theorem qj(T:Txt K mg a):Mo P w K mg base a.ba "lets" 5 (sp_xK a.ba):=by
 refine T.su.g2 ["self","day"] fun x0 x1 fA cdv A outer s H Q E ND HU hr h=>?_;obtain⟨hN,h1⟩:=h;obtain⟨p,rfl,h2⟩:=asR.inv h1;obtain⟨d,rfl,hd,dx,o,hp,k⟩:=asI.inv h2;refine⟨hN,_,(ag (aJ (Am (pH (j_ (a_ K (fv 0)))) (d6 (eY jL (aN (rq T) hr aE (fa1 (fv 1))) (a_ K (fv 0)) (gm _)))))),?_⟩;walk_at "rd";refine⟨_,_,_,_,hp,T.cz,T.bo,lk1 _,?_⟩;cases o with
 |none=>exact k
 |some m=>
  rw[if_neg (by intro z;cases z)];exact⟨hN,hd,_,_,_,_,hp,T.cz,T.bo,lk1 _,H,Gc.refl,k⟩
def sp_xO(C:Addr):Sp:=sp2 fun x y H Q _=>NoT H/\asR x fun p=>asI y fun m=>∃dx o,H p=some (dY C dx (cl o))/\(0<=m/\m<=4799)/\(o=none\/o=some (m-1))/\Q .non H
theorem jB(T:Txt K mg a):Mo P w K mg base a.ba "need_next" 4 (sp_xO a.ba):=by
 refine T.j2.g2 ["self","month"] fun x0 x1 fA cdv A outer s H Q E ND HU hr h=>?_;obtain⟨hN,h1⟩:=h;obtain⟨p,rfl,h2⟩:=asR.inv h1;obtain⟨m,rfl,dx,o,hp,hm,ho,k⟩:=asI.inv h2;refine⟨hN,_,(af (aW (bB (bv (aN (sC T) hr aE (fa1 (fv 1))))) (ag (bU T.vn T.vE bf)) aL)
  (ag (aW (L2.PW.pt (gr (cY (cD (a_ K (fv 0)))) (eh (aO (b8 K HU) (fv 1) (aj aK (a_ K (fv 0)) aa))))) (ag (bU T.xm T.yz bf)) aL))),?_⟩
 walk_at "rd";rw[jy,decide_eq_true hm.1,decide_eq_true hm.2];refine⟨hN,itn (by decide) ⟨_,_,_,_,hp,T.cz,T.bo,lk1 _,?_⟩⟩;rcases ho with rfl|rfl
 ·exact k
 ·refine itn (by intro z;cases z) ⟨_,_,_,_,hp,T.cz,T.bo,lk1 _,?_⟩
  show BC (.int (m-1)) (.int 1) H _;walk_at "rd";exact itp (by lia) k
def sp_yy(C:Addr):Sp:=sp2 fun x y H Q _=>NoT H/\asR x fun p=>asI y fun m=>∃dx o,H p=some (dY C dx (cl o))/\(0<=m/\m<=4799)/\(o=none\/o=some (m-1))/\Q .non (upd H p (dY C dx (.int m)))
theorem p8(T:Txt K mg a):Mo P w K mg base a.ba "shut" 5 (sp_yy a.ba):=by
 refine T.t7.x2 ["self","month"] fun x0 x1 fA cdv A outer s H Q E ND HU hr h=>?_;obtain⟨hN,h1⟩:=h;obtain⟨p,rfl,h2⟩:=asR.inv h1;obtain⟨m,rfl,dx,o,hp,hm,ho,k⟩:=asI.inv h2;refine⟨_,(af (bC (cj (fv 0) T.cz (jB T) (hr.mono (by decide)) aE (fa1 (fv 1))))
  (ag (dF K (fv 0) (fv 1)))),?_⟩
 walk_at "rd";have pf:dE (zI "last_closed") (.int m) [(zI "last_closed",cl o)]=[(zI "last_closed",.int m)]:=by simp[dE]
 refine⟨_,_,hp,aR (by decide +kernel),hN,dx,o,hp,hm,ho,_,_,_,hp,T.cz,T.bo,by show 1<1000;decide,?_⟩;rw[pf];exact k
def HX(C dx b u:Addr):HO:=.ins C dx [("bookings",.ref b),("undoings",.ref u)]
theorem lkb(x y:V):wZ (zI "bookings") [(zI "bookings",x),(zI "undoings",y)]=some x:=by simp[wZ]
theorem lku(x y:V):wZ (zI "undoings") [(zI "bookings",x),(zI "undoings",y)]=some y:=by rw[aR (by decide +kernel)];exact i_
structure JAt(C:Addr)(H:Hp)(p b u:Addr)(bs:List V)(kvs:List (Key × V)):Prop where
 ob:∃dx,H p=some (HX C dx b u)
 ls:H b=some (.lst bs)
 dc:H u=some (.dK kvs)
theorem JAt.keep{C:Addr}{S:List Addr}{H H':Hp}{p b u:Addr}{bs:List V}{kvs:List (Key × V)}(j:JAt C H p b u bs kvs)(x:Keep S H H')(hp:p∉S)(hb:b∉S)(hu:u∉S):JAt C H' p b u bs kvs:=
 ⟨by obtain⟨dx,e⟩:=j.ob;exact⟨dx,x _ _ e hp⟩,x _ _ j.ls hb,x _ _ j.dc hu⟩
def sp_xz(C:Addr):Sp:=sp1 fun x H Q _=>NoT H/\asR x fun p=>∃dx,H p=some (.ins C dx [])/\∀b u H',H b=none->H u=none->JAt C H' p b u [] []->Keep [p] H H'->NoT H'->Q .non H'
theorem iQ(T:Txt K mg a):Mo P w K mg base a.aT "__init__" 1 (sp_xz a.aT):=by
 refine T.jd.x1 ["self"] fun x0 fA cdv A outer s H Q E ND HU hr h=>?_;obtain⟨hN,h1⟩:=h;obtain⟨p,rfl,dx,hp,k⟩:=asR.inv h1;refine⟨_,(af (dF K (fv 0) (cX (FA.pa di)))
  (ag (dF K (fv 0) vV))),?_⟩
 walk_at "rd";refine⟨ud _,fun b hb=>?_⟩;have np:p≠b:=aC hp hb;refine⟨_,_,_,(ah np).trans hp,T.bc,T.bn,by show 0<1000;decide,fun u hu=>?_⟩;have nu:p≠u:=fun q=>by rw[<- q,ad]at hu;cases hu
 have nb:b≠u:=fun q=>by rw[<- q,ah (Ne.symm np),ad]at hu;cases hu
 refine⟨_,_,_,(ah nu).trans ad,T.bc,T.dq,by show 1<1000;decide,?_⟩;have hu0:H u=none:=by
  rw[ah (Ne.symm nu),ah (Ne.symm nb)]at hu;exact hu
 refine k b u _ hb hu0 ⟨⟨dx,?_⟩,?_,?_⟩ ?_ ?_
 ·rw[ad]
  have e:dE (zI "undoings") (V.ref u) (dE (zI "bookings") (V.ref b) [])=[(zI "bookings",.ref b),(zI "undoings",.ref u)]:=by
   have q:¬ (zI "bookings" = zI "undoings"):=by decide +kernel
   simp[dE,q]
  rw[e];rfl
 ·rw[ah (Ne.symm np),ah nb,ah (Ne.symm np),ad]
 ·rw[ah (Ne.symm nu),ad]
 ·exact(((Keep.refl.new hb).put (zL.2 rfl)).new hu).put (zL.2 rfl)
 ·exact aA (aA (aA (aA hN rfl) rfl) rfl) rfl
def sp_zK(K:W.Frag)(C:Addr):Sp:=sp5 fun x d n r o H Q _=>NoT H/\asR x fun p=>asR r fun r=>∃b u bs kvs rs,JAt C H p b u bs kvs/\bs.length<=100/\kvs.length<=100/\(SqL K H r rs\/H r=some (.tup rs))/\(o = .non\/∃i,o = .int i) /\
 ∀t q H',H t=none\/H t=some (.tup rs)->H' t=some (.tup rs)->H q=none->H' q=some (.tup [.int bs.length,d,n,.ref t,o])->JAt C H' p b u (bs++[.ref q]) (match o with | .int i=>cW kvs (.inl i) (.int bs.length)|_=>kvs)->Keep [b,u] H H'->NoT H'->Q (.int bs.length) H'
theorem iu(T:Txt K mg a):Mo P w K mg base a.aT "put" 1 (sp_zK K a.aT):=by
 refine T.oA.x5 ["self","day","note","rows","undoes","number"] fun x0 x1 x2 x3 x4 fA cdv A outer s H Q E ND HU hr h=>?_;obtain⟨hN,h1⟩:=h;obtain⟨p,rfl,h2⟩:=asR.inv h1;obtain⟨r,rfl,b,u,bs,kvs,rs,J,l1,l2,hs,ho,k⟩:=asR.inv h2;obtain⟨dx,hp⟩:=J.ob;refine⟨_,(af (aS 5 ND (aH (bj K) rfl T.cp bD (fa1 (a_ K (fv 0)))))
  (af (bC (eQ K ZA ZH ZI d8 (a_ K (fv 0)) (fa1 (bJ (fa5 (fv 5) (fv 1) (fv 2) (d7 (tV K) rfl T.qL mJ (fa1 (fv 3))) (fv 4))))))
  (af (aW (cY (cD (fv 4))) (ag (gY (Zr HU) (a_ K (fv 0)) (fv 4) (fv 5) rfl)) aL)
  (ag (aJ (fv 5)))))),?_⟩
 walk_at "rd";refine⟨_,_,_,_,hp,T.bc,T.bn,lkb _ _,bs,.inl (.inl (.inl J.ls)),_,_,_,_,hp,T.bc,T.bn,lkb _ _,.inl ⟨rfl,bs,.inl (.inl J.ls)⟩,rs,?_⟩;have five:5<=sizeLine:=by rw[uS];decide
 have sml:bs.length<sizeLine:=by rw[uS];lia
 have smk:kvs.length<sizeLine:=by rw[uS];lia
 have nb:p≠b:=a6 hp J.ls;have nu:p≠u:=a6 hp J.dc;have bu:b≠u:=a6 J.ls J.dc;have fin:∀t H1,H t=none\/H t=some (.tup rs)->H1 t=some (.tup rs)->Same H H1->NoT H1->∀q,H1 q=none->∃l xs y,V.ref b=V.ref l/\V.ref q=y/\upd H1 q (HO.tup [.int bs.length,x1,x2,V.ref t,x4]) l=some (HO.lst xs)/\xs.length<sizeLine /\
  if x4=V.non then Q (.int bs.length) (upd (upd H1 q (HO.tup [.int bs.length,x1,x2,V.ref t,x4])) l (HO.lst (xs++[y]))) else
   ∃C dx fs v,upd (upd H1 q (HO.tup [V.int bs.length,x1,x2,V.ref t,x4])) l (HO.lst (xs++[y])) p=some (HO.ins C dx fs)/\Cls K C/\NoAttr K C (zI "undoings")/\wZ (zI "undoings") fs=some v /\
    ∃a H4,v=V.ref a/\DPut (upd (upd H1 q (HO.tup [V.int bs.length,x1,x2,V.ref t,x4])) l (HO.lst (xs++[y]))) a x4 (V.int bs.length) H4/\Q (V.int bs.length) H4:=by
  intro t H1 ht1 ht2 kp n1 q hq;have mb:b∈[b,u]:=.head _;have mu:u∈[b,u]:=.tail _ (.head _);have hp1:=kp _ _ hp;have hb1:=kp _ _ J.ls;have hu1:=kp _ _ J.dc;have qb:b≠q:=aC hb1 hq;have qu:u≠q:=aC hu1 hq;have qp:p≠q:=aC hp1 hq;have qt:t≠q:=aC ht2 hq;have tb:t≠b:=a6 ht2 hb1;have tu:t≠u:=a6 ht2 hu1;have q0:H q=none:=kp.free hq;generalize hz:HO.tup [V.int bs.length,x1,x2,V.ref t,x4]=z at *;have dz:ig z=true:=by rw[<- hz];rfl
  refine⟨b,bs,_,rfl,rfl,(ah qb).trans hb1,sml,?_⟩;have K2:Keep [b,u] H (upd (upd H1 q z) b (.lst (bs++[.ref q]))):=((Keep.same kp).new hq).put mb;have N2:NoT (upd (upd H1 q z) b (.lst (bs++[.ref q]))):=aA (aA n1 dz) rfl;rcases ho with rfl|⟨i,rfl⟩
  ·rw[if_pos rfl]
   refine k t q _ ht1 ?_ q0 ?_ ⟨⟨dx,?_⟩,ad,?_⟩ K2 N2
   ·rw[ah tb,ah qt];exact ht2
   ·rw[ah (Ne.symm qb),ad,hz]
   ·rw[ah nb,ah qp];exact hp1
   ·rw[ah (Ne.symm bu),ah qu];exact hu1
  ·rw[if_neg (by intro z;cases z)]
   refine⟨_,dx,[(zI "bookings",.ref b),(zI "undoings",.ref u)],_,?_,T.bc,T.dq,lku _ _,u,_,rfl,DPut.k (k:=.inl i) (kvs:=kvs) ?_ smk,?_⟩
   ·rw[ah nb,ah qp];exact hp1
   ·rw[ah (Ne.symm bu),ah qu];exact hu1
   ·refine k t q _ ht1 ?_ q0 ?_ ⟨⟨dx,?_⟩,?_,ad⟩ (K2.put mu) (aA N2 rfl)
    ·rw[ah tu,ah tb,ah qt];exact ht2
    ·rw[ah (Ne.symm qu),ah (Ne.symm qb),ad,hz]
    ·rw[ah nu,ah nb,ah qp];exact hp1
    ·rw[ah bu,ad]
 rcases hs with hs|hs
 ·refine .inl ⟨hs,fun l hl=>⟨five,fin l _ (.inl hl) ad (au _ hl) (aA hN rfl)⟩⟩
 ·exact .inr ⟨.inl (.inl hs),five,fin r _ (.inr hs) hs (Same.refl _) hN⟩
def sp_yH(C:Addr):Sp:=sp1 fun x H Q _=>NoT H/\asR x fun p=>∃b u bs kvs,JAt C H p b u bs kvs/\Q (.int bs.length) H
theorem lN(T:Txt K mg a):Mo P w K mg base a.aT "many" 1 (sp_yH a.aT):=by
 refine T.mL.g1 ["self"] fun x0 fA cdv A outer s H Q E ND HU hr h=>?_;obtain⟨hN,h1⟩:=h;obtain⟨p,rfl,b,u,bs,kvs,J,k⟩:=asR.inv h1;obtain⟨dx,hp⟩:=J.ob;refine⟨hN,_,(ag (aJ (aH (bj K) rfl T.cp bD (fa1 (a_ K (fv 0)))))),?_⟩;walk_at "rd";exact⟨_,_,_,_,hp,T.bc,T.bn,lkb _ _,bs,.inl (.inl (.inl J.ls)),H,Gc.refl,k⟩
def sp_p_(C nb:Addr):Sp:=sp2 fun x y H Q E=>NoT H/\asR x fun p=>asI y fun i=>∃b u bs kvs,JAt C H p b u bs kvs/\0<=i/\((bs.length:Int)<=i->E (.ref nb) none H)/\∀(n:Nat) v,i=n->bs[n]? = some v->Q v H
theorem fJ(T:Txt K mg a):Mo P w K mg base a.aT "booking" 3 (sp_p_ a.aT a.bY):=by
 refine T.jz.g2 ["self","number"] fun x0 x1 fA cdv A outer s H Q E ND HU hr h=>?_;obtain⟨hN,h1⟩:=h;obtain⟨p,rfl,h2⟩:=asR.inv h1;obtain⟨i,rfl,b,u,bs,kvs,J,i0,k0,k⟩:=asI.inv h2;obtain⟨dx,hp⟩:=J.ob;refine⟨hN,_,(af (aW (bB (bv (aN (fU T) hr aE (fa3 (fv 1) aa (aj eP (aH (bj K) rfl T.cp bD (fa1 (a_ K (fv 0)))) aa))))) (ag (bU T.r9 T.tw bf)) aL)
  (ag (aJ (az K (a_ K (fv 0)) (fv 1))))),?_⟩
 walk_at "rd";refine⟨_,_,_,_,hp,T.bc,T.bn,lkb _ _,bs,.inl (.inl (.inl J.ls)),?_⟩;show gI _ (.int _) (.int 1) H _;walk_at "rd";refine⟨hN,?_⟩;rw[jy,decide_eq_true i0];by_cases hi:i<=(bs.length:Int)-1
 ·obtain⟨n,rfl⟩:=ZT i0
  have hn:n<bs.length:=by lia
  rw[decide_eq_true hi];exact itn (by decide) ⟨_,_,_,_,hp,T.bc,T.bn,lkb _ _,bs,bs[n],.inl (.inl (.inl J.ls)),av (List.getElem?_eq_getElem hn),H,Gc.refl,k n _ rfl (List.getElem?_eq_getElem hn)⟩
 ·rw[decide_eq_false hi]
  exact itp rfl ⟨by rw[uS];decide,k0 (by lia)⟩
def sp_vd(C:Addr):Sp:=sp1 fun x H Q _=>NoT H/\asR x fun p=>∃b u bs kvs,JAt C H p b u bs kvs/\∀q,H q=none->Q (.ref q) (upd H q (.lst bs))
theorem j5(T:Txt K mg a):Mo P w K mg base a.aT "every" 1 (sp_vd a.aT):=by
 refine T.lL.g1 ["self"] fun x0 fA cdv A outer s H Q E ND HU hr h=>?_;obtain⟨hN,h1⟩:=h;obtain⟨p,rfl,b,u,bs,kvs,J,k⟩:=asR.inv h1;obtain⟨dx,hp⟩:=J.ob;refine⟨hN,_,(ag (aJ (d7 (wt K) rfl T.m_ jE (fa1 (a_ K (fv 0)))))),?_⟩;walk_at "rd";exact⟨_,_,_,_,hp,T.bc,T.bn,lkb _ _,bs,.inl (.inl (.inl J.ls)),fun l hl=>⟨_,Gc.one (au _ hl) hl ad rfl,k l hl⟩⟩
def sp_rV(C nb:Addr):Sp:=sp2 fun x y H Q _=>NoT H/\asR x fun p=>asI y fun i=>∃b u bs kvs,JAt C H p b u bs kvs/\∃(n:Nat) (q:Addr) (l:List V),i=n/\bs[n]? = some (.ref q)/\H q=some (.tup (.int i::l))/\Q ((cU kvs (.inl i)).getD .non) H
theorem ik(T:Txt K mg a):Mo P w K mg base a.aT "undone_by" 4 (sp_rV a.aT a.bY):=by
 refine T.iX.g2 ["self","number"] fun x0 x1 fA cdv A outer s H Q E ND HU hr h=>?_;obtain⟨hN,h1⟩:=h;obtain⟨p,rfl,h2⟩:=asR.inv h1;obtain⟨_,rfl,b,u,bs,kvs,J,n,q,l,rfl,h3,h4,k⟩:=asI.inv h2;obtain⟨dx,hp⟩:=J.ob;refine⟨hN,_,(ag (aJ (AL (Zr HU) (a_ K (fv 0)) (az K (cj (fv 0) T.bc (fJ T) (hr.mono (by decide)) aE (fa1 (fv 1))) aa) ⟨rfl,rfl,rfl,rfl⟩))),?_⟩;walk_at "rd";have hn:n<bs.length:=(List.getElem?_eq_some_iff.mp h3).1;refine⟨_,_,_,_,hp,T.bc,T.dq,lku _ _,u,rfl,.inl ⟨_,.inl J.dc⟩,_,_,hp,?_,hN,b,u,bs,kvs,J,by lia,fun z=>by lia,fun n' v e1 e2=>?_⟩
 ·rw[aR (by decide +kernel),aR (by decide +kernel)];rfl
 ·have:n=n':=by lia
  subst this;rw[h3]at e2;cases e2;exact⟨_,.int n,.inr (.inl (.inl h4)),av (j:=0) rfl,_,DGet.k (k:=.inl (n:Int)) J.dc,H,Gc.refl,k⟩
end
open PySem L2 K19 K22
section
variable{P:Program}{w:World}{K:W.Frag}{mg:Str->Option Value}{base:Heap}{a:Adr}
open K3
theorem fG{H H':Hp}{D:Addr}{o:HO}(s:Same H H')(h:H D=none):Same H (upd H' D o):=fun c z e=>by
 rw[ah (aC e h)];exact s c z e
def RwAt(H:Hp)(v:V)(r:Row):Prop:=∃q,v = .ref q/\H q=some (.tup [L2.T r.pa,L2.T r.cu,.int r.am])
structure Bo where
 k:Int
 d:Int
 rs:List Row
 un:Option Int
def BkAt(H:Hp)(v:V)(b:Bo):Prop:=∃q t vs nt,v = .ref q/\H q=some (.tup [.int b.k,.int b.d,L2.T nt,.ref t,cl b.un])/\H t=some (.tup vs)/\A2 (RwAt H) vs b.rs
def LW(W:List Addr)(H:Hp):Prop:=∀s∈W,∃l,H s=some (.lst l)
theorem LW.nil{H:Hp}:LW [] H:=fun _ h=>nomatch h
theorem LW.one{H:Hp}{s:Addr}{xs:List V}(h:H s=some (.lst xs)):LW [s] H:=fun z m=>by rw[zL.mp m];exact⟨_,h⟩
theorem LW.no{W:List Addr}{H:Hp}(t:LW W H){q:Addr}{o:HO}(h:H q=some o)(n:∀l,o ≠ .lst l):q∉W:=fun m=>by
 obtain⟨l,e⟩:=t q m;rw[h]at e;cases e;exact n _ rfl
theorem LW.tup{W:List Addr}{H:Hp}(t:LW W H){q:Addr}{l:List V}(h:H q=some (.tup l)):q∉W:=t.no h (by intro _ z;cases z)
section
variable{W:List Addr}{H H':Hp}(x:Keep W H H')(t:LW W H)
include x t
theorem RwAt.keep{v:V}{r:Row}(h:RwAt H v r):RwAt H' v r:=by
 obtain⟨q,rfl,e⟩:=h;exact⟨q,rfl,x _ _ e (t.tup e)⟩
theorem gt{vs:List V}{rs:List Row}(h:A2 (RwAt H) vs rs):A2 (RwAt H') vs rs:=h.imp fun _ _ _ _ r=>r.keep x t
theorem BkAt.keep{v:V}{b:Bo}(h:BkAt H v b):BkAt H' v b:=by
 obtain⟨q,u,vs,nt,rfl,e1,e2,r⟩:=h;exact⟨q,u,vs,nt,rfl,x _ _ e1 (t.tup e1),x _ _ e2 (t.tup e2),gt x t r⟩
theorem Bg{vs:List V}{bs:List Bo}(h:A2 (BkAt H) vs bs):A2 (BkAt H') vs bs:=h.imp fun _ _ _ _ r=>r.keep x t
end
theorem dB{H H':Hp}(s:Same H H'){vs:List V}{rs:List Row}(h:A2 (RwAt H) vs rs):A2 (RwAt H') vs rs:=gt (W:=[]) (Keep.same s) LW.nil h
theorem nW{H H':Hp}(s:Same H H'){vs:List V}{bs:List Bo}(h:A2 (BkAt H) vs bs):A2 (BkAt H') vs bs:=Bg (W:=[]) (Keep.same s) LW.nil h
def rOk(r:Row):Prop:=cur r.cu=true/\(-1000000000000000<=r.am/\r.am<=1000000000000000)/\r.am≠0
def sp_yr:Sp:=sp1 fun x H Q _=>NoT H/\∃r,RwAt H x r/\rOk r/\Q (.bl true) H
theorem xB(T:Txt K mg a):Fo P w K mg base "is_row" 4 sp_yr:=by
 refine T.y6.g1 ["thing"] fun x0 fA cdv A outer s H Q E ND HU hr h=>?_;obtain⟨hN,r,⟨q,rfl,hq⟩,⟨hc,ha,h0⟩,k⟩:=h;refine⟨hN,_,(af (aW (L2.PW.pt (dw (bB (bv (aH (eA K) rfl T.bz bq (fa2 (fv 0) (d9 (v:=.ty "tuple") rfl T.qL mJ rfl))))) (cS (aO (b8 K HU) (aH (bj K) rfl T.cp bD (fa1 (fv 0))) aa)))) (ag (aJ eE)) aL)
  (ag (aJ (dJ (aH (eA K) rfl T.bz bq (fa2 (az K (fv 0) aa) (d9 (v:=.ty "str") rfl T.oW j8 rfl))) (dJ (aN (il T) hr aE (fa1 (az K (fv 0) aa))) (dJ (aN (qH T) hr aE (fa1 (az K (fv 0) aa))) (d6 (eY (b8 K HU) (az K (fv 0) aa) aa (gm _))))))))),?_⟩
 have et:hX H (.ref q)=some "tuple":=by simp[hX,hq]
 have hS:=SqT.of (K:=K) hq;walk_at "rd";simp only[et];refine itn (by decide) ⟨_,.inr hS,itp rfl ⟨_,_,.inr hS,av (j:=0) rfl,?_⟩⟩;walk_at "rd";refine⟨_,_,.inr hS,av (j:=1) rfl,hN,hc,?_⟩;walk_at "rd";refine⟨_,_,.inr hS,av (j:=2) rfl,hN,?_⟩;walk_at "rd";rw[jy,decide_eq_true ha.1,decide_eq_true ha.2];refine itp rfl ⟨_,_,.inr hS,av (j:=2) rfl,?_⟩;walk_at "rd";rw[decide_eq_false h0];exact k
def sp_Cd:Sp:=sp1 fun x H Q _=>NoT H/\asR x fun q=>∃vs rs,H q=some (.lst vs)/\A2 (RwAt H) vs rs/\(2<=rs.length/\rs.length<=200)/\(∀r∈rs,rOk r)/\Q .non H
theorem qI(T:Txt K mg a):Fo P w K mg base "need_form" 5 sp_Cd:=by
 refine T.rY.g1 ["rows","row"] fun x0 fA cdv A outer s H Q E ND HU hr h=>?_;obtain⟨hN,h1⟩:=h;obtain⟨q,rfl,vs,rs,hq,ha,ln,ho,k⟩:=asR.inv h1;have lv:=ha.len;refine⟨hN,_,(af (aW (L2.PW.pt (dw (bB (bv (aH (eA K) rfl T.bz bq (fa2 (fv 0) (d9 (v:=.ty "list") rfl T.m_ jE rfl))))) (cS (bB (sK eF eF aa (aH (bj K) rfl T.cp bD (fa1 (fv 0))) aa))))) (ag (bU T.sI T.rH bf)) aL)
  (ag (dt (by passes_own) rfl (bF K (fv 0)) (aF (i:=1) ND rfl (Or.inl rfl)) (ag (aW (bB (bv (aN (xB T) hr aE (fa1 (fv 1))))) (ag (bU T.sI T.rH bf)) aL))))),?_⟩
 have et:hX H (.ref q)=some "list":=by simp[hX,hq]
 walk_at "rd";simp only[et];refine itn (by decide) ⟨_,.inl (SqL.of hq),itp (by lia) (itp (by lia) (gK ?_))⟩;walk_at "rd";refine ic (xs:=vs) (SqL.of hq) (ia (fun i σ' H'=>H'=H/\∃z,σ'=[some (.ref q),z]) ⟨rfl,none,rfl⟩ (fun i σ' H' _ h=>by rw[h.1];exact SqL.of hq) ?_ ?_)
 ·rintro i x σ' H' hx ⟨rfl,z,rfl⟩
  obtain⟨r,hr,rr⟩:=ha.at_ hx;walk_at "rd";refine⟨hN,r,rr,ho r (xg hr),_,rfl⟩
 ·rintro σ' H' ⟨rfl,z,rfl⟩
  exact⟨H',Gc.none (Same.refl _),k⟩
end
open PySem L2 K19 K22
section
variable{P:Program}{w:World}{K:W.Frag}{mg:Str->Option Value}{base:Heap}{a:Adr}
open K3
theorem fm{α:Type}{l:List α}{i:Nat}{x:α}(h:l[i]? = some x):l.take (i+1)=l.take i++[x]:=by rw[Yc,h];rfl
theorem v8(o:Option Int)(j:Int):(o.map V.int).getD (.int j) = .int (o.getD j):=by cases o <;> rfl
def IA(H:Hp)(Q:VK)(rs:List Row):Prop:=∀out r ws H',out.Perm ((dk rs).map (·.1))->qV out->H r=none->H' r=some (.lst ws)->A2 (RwAt H') ws (res rs out)->Same H H'->NoT H'->Q (.ref r) H'
def flt(H H':Hp):Hp:=fun p=>match H p with
 |some o=>some o
 |none=>match H' p with
  |some o=>if jo o=true then some o else none
  |none=>none
theorem wK{H H':Hp}{p:Addr}{o:HO}(h:H p=some o):flt H H' p=some o:=by unfold flt;rw[h]
theorem qT{H H':Hp}(s:Same H H'){p:Addr}{o:HO}(h:H' p=some o)(n:jo o=true):flt H H' p=some o:=by
 cases e:H p with
 |some z=>rw[s _ _ e]at h;cases h;exact wK e
 |none=>unfold flt;simp only[e,h,n,if_true]
theorem qU{H H':Hp}{p:Addr}{o:HO}(h:flt H H' p=some o):H p=some o\/(H' p=some o/\jo o=true):=by
 unfold flt at h;cases e:H p with
 |some z=>rw[e]at h;exact .inl h
 |none=>
  simp only[e]at h;cases e2:H' p with
  |none=>rw[e2]at h;cases h
  |some z=>
   simp only[e2]at h;split at h
   ·rename_i q;cases h;exact .inr ⟨rfl,q⟩
   ·cases h
theorem Gc.flt{H H':Hp}(s:Same H H'):Gc H (flt H H') H':=⟨fun _ _ e=>wK e,fun p o e=>(qU e).elim (s p o) (·.1),fun p o e=>(qU e).imp id (·.2)⟩
theorem wH{H H':Hp}(n:NoT H):NoT (flt H H'):=fun p o e=>by
 rcases qU e with q|⟨_,q⟩
 ·exact n p o q
 ·cases o <;> first|rfl|cases q
theorem zA{H H':Hp}(s:Same H H'){vs:List V}{rs:List Row}(h:A2 (RwAt H') vs rs):A2 (RwAt (flt H H')) vs rs:=h.imp fun _ _ _ _ ⟨q,e,r⟩=>⟨q,e,qT s r rfl⟩
theorem zM{H0 F:Hp}{D p:Addr}{ys:List V}{rs:List Row}(r:Row)(s:Same H0 F)(fD:H0 D=none)(hD:F D=some (.lst ys))(hp:F p=none)(aw:A2 (RwAt F) ys rs) :
 upd F p (.tup [L2.T r.pa,L2.T r.cu,.int r.am]) D=some (.lst ys)/\Same H0 (upd (upd F p (.tup [L2.T r.pa,L2.T r.cu,.int r.am])) D (.lst (ys++[.ref p])))/\A2 (RwAt (upd (upd F p (.tup [L2.T r.pa,L2.T r.cu,.int r.am])) D (.lst (ys++[.ref p])))) (ys++[.ref p]) (rs++[r]):=by
 have s1:=au (HO.tup [L2.T r.pa,L2.T r.cu,.int r.am]) hp;have hD1:=s1 _ _ hD;have kp:Keep [D] (upd F p (.tup [L2.T r.pa,L2.T r.cu,.int r.am])) (upd (upd F p (.tup [L2.T r.pa,L2.T r.cu,.int r.am])) D (.lst (ys++[.ref p]))):=Keep.refl.put (.head _);exact⟨hD1,fG (s.trans s1) fD,(gt kp (LW.one hD1) (dB s1 aw)).snoc ⟨p,rfl,(ah (Ne.symm (aC hD hp))).trans ad⟩⟩
def sp_Cp:Sp:=sp1 fun x H Q _=>NoT H/\asR x fun p=>∃vs rs,H p=some (.lst vs)/\A2 (RwAt H) vs rs/\rs.length<=1000/\(dk rs).length<64/\IA H Q rs
theorem zl(d:List (Pt × Int)):(d.map eW).map (·.1)=(d.map (·.1)).map kP:=by rw[ug,ug];rfl
theorem uk(T:Txt K mg a):Fo P w K mg base "sums_of" 1 sp_Cp:=by
 refine T.yi.g1 ["rows","together","path","currency","amount"] fun x0 fA cdv A outer s H Q E ND HU hr h=>?_;obtain⟨hN,h1⟩:=h;obtain⟨p,rfl,vs,rs,hp,ha,len,l64,k⟩:=asR.inv h1;have sz:=szl;refine⟨hN,_,(af (aS 1 ND sL)
  (af (dt (by passes_own) rfl (bF K (fv 0)) (e_ K (n:=3) rfl (aU (aF (i:=2) ND rfl (Or.inl rfl)) (aU (aF (i:=3) ND rfl (Or.inl rfl)) (aU (aF (i:=4) ND rfl (Or.inl rfl)) dP)))) (ag (gY (Zr HU) (fv 1) (bJ (fa2 (fv 2) (fv 3))) (aj aK (sP (Zr HU) (fv 1) (bJ (fa2 (fv 2) (fv 3))) aa ⟨rfl,rfl,rfl,rfl⟩) (fv 4)) rfl)))
  (ag (aJ (br rfl (cl:=_) (x:="path") (xs:=["path","currency"]) (fr:=["together"]) (ks:=[1]) (by walk_at "cq") rfl (bF K (aH (xt rfl) rfl T.mK j9 (fa1 (fv 1)))) (fun _ _ _ _ _=>(e_ K (n:=2) rfl (aU (aF (i:=0) (bX (l:=["path","currency","together"]) (by decide)) rfl (Or.inl rfl)) (aU (aF (i:=1) (bX (l:=["path","currency","together"]) (by decide)) rfl (Or.inl rfl)) dP)))) (fun _ _ _ _ _=>(dO (aO (b8 K HU) (bQ (Zr HU) (fv 2) (bJ (fa2 (fv 0) (fv 1))) (fun _ _=>rfl)) aa))) (fun _ _ _ _ _=>(bJ (fa3 (fv 0) (fv 1) (bQ (Zr HU) (fv 2) (bJ (fa2 (fv 0) (fv 1))) (fun _ _=>rfl)))))))))),?_⟩
 walk_at "rd";intro d hd;refine gK ?_;walk_at "rd";refine ic (SqL.of ((au _ hd) _ _ hp)) (ia (fun i σ' H'=>Same H H'/\∃x2 x3 x4,H' d=some (.dT ((dk (rs.take i)).map eW))/\σ'=[some (.ref p),some (.ref d),x2,x3,x4]) ⟨au _ hd,none,none,none,ad,rfl⟩ (fun i σ' H' _ h=>SqL.of (h.1 _ _ hp)) ?_ ?_)
 ·rintro i x σ' H' hx ⟨sm,x2,x3,x4,hd',rfl⟩
  obtain⟨r,hr,q,rfl,hq⟩:=ha.at_ hx;have hq':=sm _ _ hq;walk_at "rd";refine⟨_,_,rfl,SqT.of hq',rfl,_,_,rfl,_,_,rfl,_,_,rfl,rfl,?_⟩;walk_at "rd";have l1:=(lF (rs.take i)).2.2;have l2:(rs.take i).length<=1000:=by rw[qW];lia
  refine⟨.inr ⟨_,.inl hd'⟩,by walk_at "om",fun p1 hp1=>⟨_,DGet.t (k:=kP (r.pa,r.cu)) ((au _ hp1) _ _ hd') ad,?_⟩⟩;rw[fM,v8];walk_at "rd";have s1:=au (HO.tup [L2.T r.pa,L2.T r.cu]) hp1;refine⟨by walk_at "om",fun p2 hp2=>?_⟩;have s2:=s1.trans (au (HO.tup [L2.T r.pa,L2.T r.cu]) hp2);refine⟨d,_,rfl,DPut.t (k:=kP (r.pa,r.cu)) (s2 _ _ hd') ad (by rw[zK,uS];lia),?_⟩;rw[nj];refine⟨fG (sm.trans s2) hd,_,_,_,?_,rfl,rfl,rfl⟩;rw[ad,fm hr,lZ];rfl
 ·rintro σ' H' ⟨sm,x2,x3,x4,hd',rfl⟩
  rw[ha.len,ZQ]at hd';walk_at "rd";refine lD ?_;walk_at "rd";refine⟨_,(dk rs).map (·.1),hd',zl _,by rw[zK];exact l64,fun out as po oo ao l hl=>?_⟩;have sl:=au (HO.lst (as.map V.ref)) hl;have lo:=po.length_eq;rw[zK]at lo;have la:=ao.len;refine⟨⟨_,SqL.of ad⟩,Ed l (as.map V.ref) (fun D i ys G=>Same (upd H' l (.lst (as.map V.ref))) G/\G D=some (.lst ys)/\upd H' l (.lst (as.map V.ref)) D=none/\A2 (RwAt G) ys (res rs (out.take i))) (by rw[zK,uS];lia) (fun D hD=>⟨au _ hD,ad,hD,.nil⟩) (fun D i ys G h=>⟨h.2.1,SqL.of (h.1 _ _ ad),?_⟩) ?_ ?_⟩
  ·rw[h.2.2.2.len]
   exact uM (C0 _ _) (by rw[qW];lia)
  ·rintro D i y ys G zs N1 N0 hy ⟨sG,hD,fD,aG⟩ hz n1 n0
   rw[List.getElem?_map]at hy;obtain⟨b,hb,rfl⟩:=uE.mp hy;obtain⟨e,he,kb⟩:=ao.at_ hb;have kG:=sG _ _ (sl _ _ kb);have dG:=sG _ _ (sl _ _ hd');have ve:=E0 (po.mem_iff.mp (xg he));obtain⟨z1,z2,rfl⟩:=ex2 hz;walk_at "rd";refine⟨_,_,rfl,SqT.of kG,rfl,_,_,rfl,_,_,rfl,rfl,?_⟩;walk_at "rd";have gd:∀(F:Hp) (q:Addr),KAt F q e->F d=some (.dT ((dk (rs)).map eW))->DGet F d (.ref q) (some (.int (val (rs) e))):=fun F q h1 h2=>by
    have g:=DGet.t (k:=kP e) h2 h1
    rwa [fM,ve]at g
   rw[fm he,zz]at n1 n0;refine⟨⟨[some (L2.T e.1),some (L2.T e.2)],rfl,rfl⟩,by walk_at "om",fun p1 hp1=>?_⟩;have s1:=au (HO.tup (tP e)) hp1;refine⟨d,_,rfl,gd _ p1 ad (s1 _ _ dG),?_⟩;walk_at "rd";by_cases hv:val rs e=0
   ·rw[if_neg fun z=>z hv,Zh]at n0
    exact itp hv (n0 _ ⟨sG.trans s1,s1 _ _ hD,fD,dB s1 aG⟩)
   ·rw[if_pos hv]at n1
    refine itn hv ⟨by walk_at "om",fun p2 hp2=>?_⟩;have s2:=s1.trans (au (HO.tup (tP e)) hp2);refine⟨d,_,rfl,gd _ p2 ad (s2 _ _ dG),by walk_at "om",fun p3 hp3=>?_⟩;obtain⟨m1,m2,m3⟩:=zM ⟨e.1,e.2,val rs e⟩ (sG.trans s2) fD (s2 _ _ hD) hp3 (dB s2 aG);exact n1 _ _ m1 ⟨m2,ad,fD,m3⟩
  ·rintro D ys G ⟨sG,hD,fD,aG⟩
   rw[zK,la,ZQ]at aG;have sg:=(sm.trans sl).trans sG;exact⟨_,Gc.flt sg,k out D ys _ po oo ((sm.trans sl).free fD) (qT sg hD rfl) (zA sg aG) (Gc.flt sg).a (wH hN)⟩
def ev(rs:List Row):List Row:=rs.map fun r=>⟨[],r.cu,r.am⟩
def EvR(rs:List Row):Prop:=∀c,sm (ev rs) ([],c)=0
theorem RwAt.mv(G G':Hp)(v:V)(r:Row)(k:∀t l,G t=some (.tup l)->G' t=some (.tup l))(h:RwAt G v r):RwAt G' v r:=by
 obtain⟨q,e,h⟩:=h;exact⟨q,e,k _ _ h⟩
def sp_A_(U:Addr):Sp:=sp2 fun x _ H Q _=>asR x fun p=>H p=some (ExN U p)/\Q .non (upd H p (ExD U p))
theorem jm(T:Txt K mg a):Mo P w K mg base a.ck "__init__" 1 (sp_A_ a.ck):=by
 refine T.jS.x2 ["self","currency"] fun x0 x1 fA cdv A outer s H Q E ND HU hr h=>?_;obtain⟨p,rfl,hp,k⟩:=asR.inv h;refine⟨_,(ag (Dg T.jO (fv 0) (fv 1))),?_⟩;walk_at "rd";exact⟨hp,k⟩
theorem Fe{rs:List Row}{out:List Pt}(po:out.Perm ((dk (ev rs)).map (·.1))):res (ev rs) out=[]↔EvR rs:=by
 constructor
 ·intro h c
  by_cases m:([],c)∈out
  ·by_cases z:val (ev rs) ([],c)=0
   ·rw[<- qJ];exact z
   ·unfold res at h
    have:=List.map_eq_nil_iff.mp h;have:=Y3.mp this _ m;exact absurd (by simpa using this) z
  ·exact wl fun r mr e=>m (po.mem_iff.mpr (by rw[<- e];exact BO r mr))
 ·intro h
  unfold res;rw[List.map_eq_nil_iff,Y3];intro e me;obtain⟨r,mr,rfl⟩:=(lF (ev rs)).2.1 e (po.mem_iff.mp me);obtain⟨r',m',rfl⟩:=yH.mp mr;have:=h r'.cu;rw[<- qJ]at this
  simpa using this
def sp_CN(U:Addr):Sp:=sp1 fun x H Q E=>NoT H/\asR x fun p=>∃vs rs,H p=some (.lst vs)/\A2 (RwAt H) vs rs/\rs.length<=40/\∀H',Same H H'->NoT H'->(EvR rs->Q .non H')/\E (.ref U) none H'
theorem qi(T:Txt K mg a):Fo P w K mg base "need_even" 4 (sp_CN a.ck):=by
 refine T.t_.x1 ["rows","uneven"] fun x0 fA cdv A outer s H Q E ND HU hr h=>?_;obtain⟨hN,h1⟩:=h;obtain⟨p,rfl,vs,rs,hp,ha,len,k⟩:=asR.inv h1;have lv:=ha.len;have sz:=szl;refine⟨_,(af (aS 1 ND (aN (uk T) hr aE (fa1 (br rfl (cl:=_) (x:="row") (xs:=["row"]) (fr:=[]) (ks:=[]) (by walk_at "cq") rfl (bF K (fv 0)) (fun _ _ _ _ _=>(aF (i:=0) (bX (l:=["row"]) (by decide)) rfl (Or.inl rfl))) (fun _ _ _ _ _=>dN) (fun _ _ _ _ _=>(bJ (fa3 (aX []) (az K (fv 0) aa) (az K (fv 0) aa))))))))
  (ag (aW (aO jL (aH (bj K) rfl T.cp bD (fa1 (fv 1))) aa) (ag (GO T.Bi (jm T) (hr.mono (by decide)) aE B1 rfl rfl T.z8 (fa1 (az K (az K (fv 1) aa) aa)))) aL))),?_⟩
 walk_at "rd";refine lD ?_;walk_at "rd";refine⟨⟨vs,SqL.of hp⟩,ceA RwAt.mv p vs rs (RwAt H) (fun _=>true) (fun r=>⟨[],r.cu,r.am⟩) hp hN ha (by lia) (fun v b mb rb G zs N1 N0 sG nG hz n1 n0=>?_) fun D ws G hD sG nG gD aG=>?_⟩
 ·obtain⟨q,rfl,hq⟩:=rb
  have hq:=sG _ _ hq;obtain⟨z1,rfl⟩:=ex1 hz;walk_at "rd";exact⟨⟨[_],rfl,rfl⟩,_,_,.inr (SqT.of hq),av (j:=1) rfl,_,_,.inr (SqT.of hq),av (j:=2) rfl,by walk_at "om",fun p1 hp1=>n1 rfl _ _ (au _ hp1) (aA nG rfl) ⟨p1,rfl,ad⟩⟩
 ·walk_at "rd"
  rw[ZN.mpr (fun _ _=>rfl)]at aG;have le:(ev rs).length<=40:=by unfold ev;rw[zK];exact len
  refine⟨nG,ws,ev rs,gD,aG,by lia,XR (lF _).2.2 (by lia),fun out r ws' H' po _ fr hr' ar s' n'=>?_⟩;obtain⟨k1,k0⟩:=k H' (sG.trans s') n';walk_at "rd";refine⟨_,.inl (SqL.of hr'),?_⟩;have er:=Fe po;cases hre:res (ev rs) out with
  |nil=>
   rw[hre]at ar;cases ar;exact k1 (er.mp hre)
  |cons y ys=>
   rw[hre]at ar;cases ar with
   |cons r1 ar=>
   obtain⟨q1,rfl,hq1⟩:=r1;refine itp (Int.ofNat_lt.mpr (Nat.succ_pos _)) ⟨_,_,.inl (SqL.of hr'),av (j:=0) rfl,?_⟩;walk_at "rd";exact⟨_,_,.inr (SqT.of hq1),av (j:=1) rfl,by walk_at "om",n',fun p hp=>⟨ad,ad,by rw[jx];exact au _ hp,k0⟩⟩
def sp_xa:Sp:=sp1 fun x H Q _=>NoT H/\asR x fun p=>∃vs rs,H p=some (.tup vs)/\A2 (RwAt H) vs rs/\rs.length<=1000/\∀t ws H',H t=none->H' t=some (.tup ws)->A2 (RwAt H') ws (trn rs)->Same H H'->NoT H'->Q (.ref t) H'
theorem yn(T:Txt K mg a):Fo P w K mg base "turned" 1 sp_xa:=by
 refine T.yS.x1 ["rows"] fun x0 fA cdv A outer s H Q E ND HU hr h=>?_;obtain⟨hN,h1⟩:=h;obtain⟨p,rfl,vs,rs,hp,ha,len,k⟩:=asR.inv h1;have sz:=szl;have sz1:=ID;refine⟨_,(ag (aJ (d7 (tV K) rfl T.qL mJ (fa1 (br rfl (cl:=_) (x:="path") (xs:=["path","currency","amount"]) (fr:=[]) (ks:=[]) (by walk_at "cq") rfl (iO K (fv 0)) (fun _ _ _ _ _=>(e_ K (n:=3) rfl (aU (aF (i:=0) (bX (l:=["path","currency","amount"]) (by decide)) rfl (Or.inl rfl)) (aU (aF (i:=1) (bX (l:=["path","currency","amount"]) (by decide)) rfl (Or.inl rfl)) (aU (aF (i:=2) (bX (l:=["path","currency","amount"]) (by decide)) rfl (Or.inl rfl)) dP))))) (fun _ _ _ _ _=>dN) (fun _ _ _ _ _=>(bJ (fa3 (fv 0) (fv 1) (rK mT (fv 2)))))))))),?_⟩;walk_at "rd";have lv:=ha.len;refine wG ?_;walk_at "rd";refine⟨⟨vs,SqT.of hp⟩,Cv RwAt.mv p vs rs (RwAt H) (fun _=>true) (fun r=>⟨r.pa,r.cu,-r.am⟩) hp hN ha (by lia) (fun v b mb rb G zs N1 N0 sG nG hz n1 n0=>?_) fun D ws G hD sG nG gD aG=>?_⟩
 ·obtain⟨q,rfl,hq⟩:=rb
  have hq:=sG _ _ hq;obtain⟨z1,z2,z3,rfl⟩:=ex3 hz;walk_at "rd";refine⟨_,_,rfl,SqT.of hq,rfl,_,_,rfl,_,_,rfl,_,_,rfl,rfl,?_⟩;walk_at "rd";exact⟨⟨[_,_,_],rfl,rfl⟩,by walk_at "om",fun p1 hp1=>n1 rfl _ _ (au _ hp1) (aA nG rfl) ⟨p1,rfl,ad⟩⟩
 ·walk_at "rd"
  rw[ZN.mpr (fun _ _=>rfl)]at aG;exact⟨ws,.inl ⟨SqL.of gD,fun t ht=>k t ws _ (sG.free ht) ad (dB (au _ ht) aG) (sG.trans (au _ ht)) (aA nG rfl)⟩⟩
end
open PySem L2 K19 K22
section
variable{P:Program}{w:World}{K:W.Frag}{mg:Str->Option Value}{base:Heap}{a:Adr}
open K3
def RF(a:Adr):List Addr:=[a.bY,a.gE,a.gL,a.gs,a.fB,a.cv,a.ck]
theorem RF.all{a:Adr}{p:Addr->Prop}(h:∀c∈RF a,p c):p a.bY/\p a.gE/\p a.gL/\p a.gs/\p a.fB/\p a.cv/\p a.ck:=by
 refine⟨h _ ?_,h _ ?_,h _ ?_,h _ ?_,h _ ?_,h _ ?_,h _ ?_⟩ <;> unfold RF <;> simp only[zG,true_or,or_true]
def CuV(v:V):Prop:=v = .non\/∃l,v=L2.T l
def sp_Dq(a:Adr):Sp:=sp4 fun x y z u H Q E=>NoT H/\asR x fun p=>asI y fun t=>asT z fun l=>asT u fun cy=>∃d cs c,CAt a.aQ a.aI H p d cs/\c∈cs/\c.pa=l/\CuV c.cu/\(opn c.fi c.un t=true->(c.cu = .non\/c.cu=L2.T cy)->Q .non H)/\∀e∈RF a,E (.ref e) none H
theorem lO(T:Txt K mg a):Fo P w K mg base "need_account" 4 (sp_Dq a):=by
 refine T.nC.g4 ["chart","day","path","currency"] fun x0 x1 x2 x3 fA cdv A outer s H Q E ND HU hr h=>?_;obtain⟨hN,h1⟩:=h;obtain⟨p,rfl,h2⟩:=asR.inv h1;obtain⟨t,rfl,h3⟩:=asI.inv h2;obtain⟨l,rfl,h4⟩:=asT.inv h3;obtain⟨cy,rfl,d,cs,c,J,hc,rfl,hcu,k1,k0⟩:=asT.inv h4;obtain⟨_,_,_,_,kn,kc,_⟩:=RF.all k0;have sz:=szl;obtain⟨dx,hp⟩:=J.ob;refine⟨hN,_,(af (aW (bB (bv (cj (fv 0) T.bg (gJ T) (hr.mono (by decide)) aE (fa2 (fv 2) (fv 1))))) (ag (bU T.iH T.iD bf)) aL)
  (ag (aW (L2.PW.pt (gr (cY (cD (cj (fv 0) T.bg (eJ T) (hr.mono (by decide)) aE (fa1 (fv 2))))) (eh (aO (b8 K HU) (cj (fv 0) T.bg (eJ T) (hr.mono (by decide)) aE (fa1 (fv 2))) (fv 3))))) (ag (bU T.i4 T.i7 bf)) aL))),?_⟩
 walk_at "rd";refine⟨_,_,hp,aR (by decide +kernel),hN,d,cs,c,J,hc,rfl,?_⟩;cases ho:opn c.fi c.un t with
 |false=>exact itp rfl ⟨by walk_at "om",kn⟩
 |true=>
  refine itn (by decide) ⟨_,_,hp,aR (by decide +kernel),hN,d,cs,c,J,hc,rfl,?_⟩;rcases hcu with e|⟨l,e⟩
  ·exact itp e (k1 ho (.inl e))
  ·refine itn (by rw[e];intro z;cases z) ⟨_,_,hp,aR (by decide +kernel),hN,d,cs,c,J,hc,rfl,?_⟩
   rw[e];walk_at "rd";by_cases h:l=cy
   ·exact itp h (k1 ho (.inr (by rw[e,h])))
   ·exact itn h ⟨by walk_at "om",kc⟩
def acT(cs:List Acc)(t:Int)(r:Row):Prop:=∃c∈cs,c.pa=r.pa/\opn c.fi c.un t=true/\(c.cu = .non\/c.cu=L2.T r.cu)
def sp_za(a:Adr):Sp:=sp3 fun x y z H Q E=>NoT H/\asR x fun p=>asI y fun t=>asR z fun q=>∃d cs vs rs,CAt a.aQ a.aI H p d cs/\(∀c∈cs,CuV c.cu)/\H q=some (.lst vs)/\A2 (RwAt H) vs rs/\(2<=rs.length/\rs.length<=40)/\(∀r∈rs,rOk r/\∃c∈cs,c.pa=r.pa) /\
 ∀H',Same H H'->NoT H'->((∀r∈rs,acT cs t r)->EvR rs->Q .non H')/\∀e∈RF a,E (.ref e) none H'
theorem qe(T:Txt K mg a):Fo P w K mg base "need_rows" 6 (sp_za a):=by
 refine T.t8.x3 ["chart","day","rows","path","currency","amount"] fun x0 x1 x2 fA cdv A outer s H Q E ND HU hr h=>?_;obtain⟨hN,h1⟩:=h;obtain⟨p,rfl,h2⟩:=asR.inv h1;obtain⟨t,rfl,h3⟩:=asI.inv h2;obtain⟨q,rfl,d,cs,vs,rs,J,hcu,hq,ha,ln,ho,k⟩:=asR.inv h3;have sz:=szl;refine⟨_,(af (bC (aN (qI T) hr aE (fa1 (fv 2))))
  (af (dt (by passes_own) rfl (bF K (fv 2)) (e_ K (n:=3) rfl (aU (aF (i:=3) ND rfl (Or.inl rfl)) (aU (aF (i:=4) ND rfl (Or.inl rfl)) (aU (aF (i:=5) ND rfl (Or.inl rfl)) dP)))) (ag (bC (aN (lO T) hr aE (fa4 (fv 0) (fv 1) (fv 3) (fv 4))))))
  (ag (bC (aN (qi T) hr aE (fa1 (fv 2))))))),?_⟩
 walk_at "rd";refine⟨hN,vs,rs,hq,ha,by lia,fun r m=>(ho r m).1,?_⟩;refine gK ?_;walk_at "rd";refine ic (xs:=vs) (SqL.of hq) (ia (fun i σ' H'=>H'=H/\(∀r∈rs.take i,acT cs t r)/\∃x3 x4 x5,σ'=[some (.ref p),some (.int t),some (.ref q),x3,x4,x5]) ⟨rfl,(fun _ z=>nomatch z),none,none,none,rfl⟩ (fun i σ' H' _ h=>by rw[h.1];exact SqL.of hq) ?_ ?_)
 ·rintro i x σ' H' hx ⟨rfl,hi,x3,x4,x5,rfl⟩
  obtain⟨r,hr,q1,rfl,hq1⟩:=ha.at_ hx;obtain⟨_,c,mc,ec⟩:=ho r (xg hr);walk_at "rd";refine⟨_,_,rfl,SqT.of hq1,rfl,_,_,rfl,_,_,rfl,_,_,rfl,rfl,?_⟩;walk_at "rd";refine⟨hN,d,cs,c,J,mc,ec,hcu c mc,fun h1 h2=>?_,(k _ (Same.refl _) hN).2⟩;refine⟨fun r' m'=>?_,_,_,_,rfl,rfl,rfl⟩;rw[fm hr]at m';rcases y9.mp m' with m'|m'
  ·exact hi r' m'
  ·rw[zL.mp m'];exact⟨c,mc,ec,h1,h2⟩
 ·rintro σ' H' ⟨rfl,hi,x3,x4,x5,rfl⟩
  rw[ha.len,ZQ]at hi;walk_at "rd";refine⟨hN,vs,rs,hq,ha,ln.2,fun H1 s1 n1=>?_⟩;obtain⟨k1,k0⟩:=k H1 s1 n1;exact⟨fun e=>k1 hi e,(RF.all k0).2.2.2.2.2.2⟩
def lts(o:Option Int)(d:Int):Prop:=match o with|none=>True|some m=>m<MO d
def sp_zm(a:Adr):Sp:=sp3 fun x y z H Q E=>NoT H/\asR x fun p=>asI y fun d=>asT z fun l=>nt2 l/\(0<=d/\d<=146096)/\∃dx o,H p=some (dY a.ba dx (cl o))/\(lts o d->Q .non H)/\∀e∈RF a,E (.ref e) none H
theorem dW(T:Txt K mg a):Fo P w K mg base "need_note_and_gate" 6 (sp_zm a):=by
 refine T.ib.g3 ["gate","day","note"] fun x0 x1 x2 fA cdv A outer s H Q E ND HU hr h=>?_;obtain⟨hN,h1⟩:=h;obtain⟨p,rfl,h2⟩:=asR.inv h1;obtain⟨d,rfl,h3⟩:=asI.inv h2;obtain⟨l,rfl,hl,hd,dx,o,hp,k1,k0⟩:=asT.inv h3;have sz:=szl;have kc:=(RF.all k0).2.2.2.1;refine⟨hN,_,(af (aW (bB (bv (aN (uQ T) hr aE (fa1 (fv 2))))) (ag (bU T.xT T.xq bf)) aL)
  (ag (aW (bB (bv (cj (fv 0) T.cz (qj T) (hr.mono (by decide)) aE (fa1 (fv 1))))) (ag (bU T.A9 T.Bl bf)) aL))),?_⟩
 walk_at "rd";refine⟨hN,hl,_,_,hp,aR (by decide +kernel),hN,hd,dx,o,hp,?_⟩;cases o with
 |none=>exact k1 trivial
 |some m=>
  by_cases h:m<MO d
  ·exact itn (by simp[h]) (k1 h)
  ·exact itp (by simp[h]) ⟨by walk_at "om",kc⟩
theorem Aj(x y:V):wZ (zI "put") [(zI "bookings",x),(zI "undoings",y)]=none:=by rw[aR (by decide +kernel),aR (by decide +kernel)];rfl
def C9(a:Adr)(H H':Hp)(j b u:Addr)(bs:List V)(kvs:List (Key × V))(d nt:V)(vs:List V)(o:V):Prop:=∃q t,H q=none/\H' q=some (.tup [.int bs.length,d,nt,.ref t,o])/\H' t=some (.tup vs)/\JAt a.aT H' j b u (bs++[.ref q]) kvs/\Keep [b,u] H H'/\NoT H'
def sp_Db(a:Adr):Sp:=sp6 fun x y z u v r H Q E=>NoT H/\asR x fun p=>asR y fun g=>asR z fun j=>asI u fun t=>asT v fun nt=>asR r fun q=>nt2 nt/\(0<=t/\t<=146096) /\
 ∃d cs vs rs dx o b u bs kvs,CAt a.aQ a.aI H p d cs/\(∀c∈cs,CuV c.cu)/\H q=some (.lst vs)/\A2 (RwAt H) vs rs/\(2<=rs.length/\rs.length<=40)/\(∀r∈rs,rOk r/\∃c∈cs,c.pa=r.pa)/\H g=some (dY a.ba dx (cl o))/\JAt a.aT H j b u bs kvs/\bs.length<=100/\kvs.length<=100 /\
 (∀H',C9 a H H' j b u bs kvs (.int t) (L2.T nt) vs .non->lts o t->(∀r∈rs,acT cs t r)->EvR rs->Q (.int bs.length) H')/\∀e∈RF a,∀H',Same H H'->NoT H'->E (.ref e) none H'
theorem Dc(T:Txt K mg a):Fo P w K mg base "book" 7 (sp_Db a):=by
 refine T.Gd.x6 ["chart","gate","journal","day","note","rows"] fun x0 x1 x2 x3 x4 x5 fA cdv A outer s H Q E ND HU hr h=>?_;obtain⟨hN,h1⟩:=h;obtain⟨p,rfl,h2⟩:=asR.inv h1;obtain⟨g,rfl,h3⟩:=asR.inv h2;obtain⟨j,rfl,h4⟩:=asR.inv h3;obtain⟨t,rfl,h5⟩:=asI.inv h4;obtain⟨nt,rfl,h6⟩:=asT.inv h5;obtain⟨q,rfl,hnt,ht,d,cs,vs,rs,dx,o,b,u,bs,kvs,J,hcu,hq,ha,ln,ho,hg,JJ,l1,l2,k1,k0⟩:=asR.inv h6;have sz:=szl;refine⟨_,(af (aW (bB (bv (aN (iI T) hr aE (fa1 (fv 3))))) (ag (bU T.jt T.jA bf)) aL)
  (af (bC (aN (dW T) hr aE (fa3 (fv 1) (fv 3) (fv 4))))
  (af (bC (aN (qe T) hr aE (fa3 (fv 0) (fv 3) (fv 5))))
  (ag (aJ (cj (fv 2) T.bc (iu T) (hr.mono (by decide)) aE (fa4 (fv 3) (fv 4) (fv 5) cI))))))),?_⟩
 walk_at "rd";rw[jy,decide_eq_true ht.1,decide_eq_true ht.2];refine⟨hN,itn (by decide) ⟨hN,hnt,ht,dx,o,hg,fun hl=>?_,fun e m=>k0 e m _ (Same.refl _) hN⟩⟩;refine⟨hN,d,cs,vs,rs,J,hcu,hq,ha,ln,ho,fun H1 s1 n1=>⟨fun hac hev=>?_,fun e m=>k0 e m _ s1 n1⟩⟩;have J1:=JJ.keep (S:=[]) (Keep.same s1) xz xz xz;obtain⟨dj,hj⟩:=J1.ob;exact⟨_,_,hj,Aj _ _,n1,b,u,bs,kvs,vs,J1,l1,l2,.inl (SqL.of (s1 _ _ hq)),fun t' q' H' _ h2 h3 h4 h5 h6 h7=>k1 H' ⟨q',t',s1.free h3,h4,h2,h5,fun c z e n=>h6 c z (s1 c z e) n,h7⟩ hl hac hev⟩
end
open PySem L2 K19 K22
section
variable{P:Program}{w:World}{K:W.Frag}{mg:Str->Option Value}{base:Heap}{a:Adr}
open K3
theorem HV(x y:V):wZ (zI "booking") [(zI "bookings",x),(zI "undoings",y)]=none:=by rw[aR (by decide +kernel),aR (by decide +kernel)];rfl
theorem GP(x y:V):wZ (zI "undone_by") [(zI "bookings",x),(zI "undoings",y)]=none:=by rw[aR (by decide +kernel),aR (by decide +kernel)];rfl
theorem JAt.tup{C:Addr}{H:Hp}{p b u:Addr}{bs:List V}{kvs:List (Key × V)}(J:JAt C H p b u bs kvs){t:Addr}{l:List V}(h:H t=some (.tup l)):t∉[b,u]:=fun m=>by
 rcases zG.mp m with e|e
 ·rw[e,J.ls]at h;cases h
 ·rw[zL.mp e,J.dc]at h;cases h
def opR(cs:List Acc)(t:Int)(r:Row):Bool:=match fnd cs r.pa with
 |some c=>opn c.fi c.un t
 |none=>false
theorem E_{ws:List V}{bs:List Bool}(h:A2 (fun v c=>v = .bl c) ws bs):ws=bs.map .bl:=by
 induction h with
 |nil=>rfl
 |cons e _ ih=>rw[e,ih];rfl
def sp_Dk(a:Adr):Sp:=sp6 fun x y z u v r H Q E=>NoT H/\asR x fun p=>asR y fun g=>asR z fun j=>asI u fun i=>asI v fun t=>asT r fun nt=>nt2 nt/\0<=i/\0<=t /\
 ∃d cs dx o b u bs kvs bk,CAt a.aQ a.aI H p d cs/\H g=some (dY a.ba dx (cl o))/\JAt a.aT H j b u bs kvs/\bs.length<=100/\kvs.length<=100/\A2 (BkAt H) bs bk/\(∀(n:Nat) x,bk[n]? = some x->x.k=n/\x.rs.length<=40/\∀r∈x.rs,∃c∈cs,c.pa=r.pa) /\
 (∀(n:Nat) x ws H',i=n->bk[n]? = some x->x.un=none->(cU kvs (.inl n)).getD .non = .non->x.d<=t->t<=146096->lts o t->(∀r∈x.rs,opR cs t r=true)->A2 (RwAt H') ws (trn x.rs)->C9 a H H' j b u bs (cW kvs (.inl n) (.int bs.length)) (.int t) (L2.T nt) ws (.int n)->Q (.int bs.length) H')/\∀e∈RF a,∀H',Same H H'->NoT H'->E (.ref e) none H'
theorem B4(T:Txt K mg a):Fo P w K mg base "undo" 7 (sp_Dk a):=by
 refine T.Fw.x6 ["chart","gate","journal","number","day","note","booking"] fun x0 x1 x2 x3 x4 x5 fA cdv A outer s H Q E ND HU hr h=>?_;obtain⟨hN,h1⟩:=h;obtain⟨p,rfl,h2⟩:=asR.inv h1;obtain⟨g,rfl,h3⟩:=asR.inv h2;obtain⟨j,rfl,h4⟩:=asR.inv h3;obtain⟨i,rfl,h5⟩:=asI.inv h4;obtain⟨t,rfl,h6⟩:=asI.inv h5;obtain⟨nt,rfl,hnt,i0,t0,d,cs,dx,o,b,u,bs,kvs,bk,J,hg,JJ,l1,l2,hb,hk,k1,k0⟩:=asT.inv h6;have sz:=szl;have kE:=fun e m=>k0 e m _ (Same.refl _) hN;obtain⟨eb,eu,ed,_,en,_⟩:=RF.all kE;obtain⟨dj,hj⟩:=JJ.ob;refine⟨_,(af (aS 6 ND (cj (fv 2) T.bc (fJ T) (hr.mono (by decide)) aE (fa1 (fv 3))))
  (af (aW (L2.PW.pt (dw (cY (cD (az K (fv 6) aa))) (cS (cY (cD (cj (fv 2) T.bc (ik T) (hr.mono (by decide)) aE (fa1 (fv 3)))))))) (ag (bU T.AT T.BK bf)) aL)
  (af (aW (L2.PW.pt (dw (bB (bv (aN (iI T) hr aE (fa1 (fv 4))))) (cS (aO nP (fv 4) (az K (fv 6) aa))))) (ag (bU T.jt T.jA bf)) aL)
  (af (bC (aN (dW T) hr aE (fa3 (fv 1) (fv 4) (fv 5))))
  (af (aW (jH (bB (bv (aH (l9 K rfl) rfl T.wj qX (fa1 (br rfl (cl:=_) (x:="row") (xs:=["row"]) (fr:=["day","chart"]) (ks:=[4,0]) (by walk_at "cq") rfl (iO K (az K (fv 6) aa)) (fun _ _ _ _ _=>(aF (i:=0) (bX (l:=["row","day","chart"]) (by decide)) rfl (Or.inl rfl))) (fun _ _ _ _ _=>dN) (fun _ _ _ _ _=>(cj (fv 2) T.bg (gJ T) (hr.mono (by decide)) tR (fa2 (az K (fv 0) aa) (fv 1)))))))))) (ag (bU T.iH T.iD bf)) aL)
  (ag (aJ (cj (fv 2) T.bc (iu T) (hr.mono (by decide)) aE (fa4 (fv 4) (fv 5) (aN (yn T) hr aE (fa1 (az K (fv 6) aa))) (fv 3)))))))))),?_⟩
 walk_at "rd";refine⟨_,_,hj,HV _ _,hN,b,u,bs,kvs,JJ,i0,fun _=>eb,fun n v e1 e2=>?_⟩;subst e1;obtain⟨x,hx,q,tq,vs,nq,rfl,hq,htq,hr⟩:=hb.at_ e2;obtain⟨xk,xl,xc⟩:=hk n x hx;walk_at "rd";refine⟨_,_,.inr (SqT.of hq),av (j:=4) rfl,?_⟩;by_cases un:x.un=none
 ·refine itp (by rw[un];rfl) ⟨_,_,hj,GP _ _,hN,b,u,bs,kvs,JJ,n,q,_,rfl,e2,by rw[hq,xk],?_⟩
  by_cases hv:(cU kvs (.inl (n:Int))).getD .non = .non
  ·refine itp hv ⟨hN,?_⟩
   rw[jy,decide_eq_true t0];by_cases ht:t<=146096
   ·rw[decide_eq_true ht]
    refine itn (by decide) ⟨_,_,.inr (SqT.of hq),av (j:=1) rfl,?_⟩;walk_at "rd";by_cases hd:t<x.d
    ·exact itp hd ⟨by walk_at "om",ed⟩
    refine itn hd ⟨hN,hnt,⟨t0,ht⟩,dx,o,hg,fun hl=>⟨hN,wG ?_⟩,kE⟩;walk_at "rd";have lv:=hr.len;refine⟨_,_,.inr (SqT.of hq),av (j:=3) rfl,tq,rfl,⟨vs,SqT.of htq⟩,Cv (S:=fun _ v c=>v = .bl c) (fun _ _ _ _ _ h=>h) tq vs x.rs (RwAt H) (fun _=>true) (opR cs t) htq hN hr (by lia) (fun v r mr rr G zs N1 N0 sG nG hz n1 n0=>?_) fun D ws G hD sG nG gD aG=>?_⟩
    ·obtain⟨q1,rfl,hq1⟩:=rr
     have hq1:=sG _ _ hq1;obtain⟨z1,rfl⟩:=ex1 hz;obtain⟨c,mc,ec⟩:=xc r mr;have J1:=J.same sG;obtain⟨dp,hp⟩:=J1.ob;walk_at "rd";refine⟨⟨[_],rfl,rfl⟩,_,_,hp,aR (by decide +kernel),_,_,.inr (SqT.of hq1),av (j:=0) rfl,nG,⟨d,cs,c,J1,mc,ec,n1 rfl _ _ (Same.refl _) nG ?_⟩⟩;unfold opR;rw[<- ec,pG J.np mc]
    ·walk_at "rd"
     rw[ZN.mpr (fun _ _=>rfl)]at aG;have ew:=E_ aG;rw[ew]at gD;refine⟨_,SqL.of gD,H,Gc.none sG,?_⟩;by_cases ha:(x.rs.map (opR cs t)).all id=true
     ·refine itn (by rw[ha];decide) ⟨_,_,hj,Aj _ _,_,_,.inr (SqT.of hq),av (j:=3) rfl,hN,?_⟩
      walk_at "rd";refine⟨vs,x.rs,htq,hr,by lia,fun t1 ws1 H1 f1 h1 a1 s1 N1=>?_⟩;have J1:=JJ.keep (S:=[]) (Keep.same s1) xz xz xz;refine⟨N1,b,u,bs,kvs,ws1,J1,l1,l2,.inr h1,.inr ⟨_,rfl⟩,fun t2 q2 H2 _ g2 g3 g4 g5 g6 g7=>?_⟩;have kp:Keep [b,u] H H2:=fun c z e m=>g6 c z (s1 c z e) m;refine k1 n x ws1 H2 rfl hx un hv (by lia) ht hl (fun r m=>ZY.mp ha _ (xF m)) ?_ ⟨q2,t2,s1.free g3,g4,g2,g5,kp,g7⟩;exact a1.imp fun v r _ _ h=>RwAt.mv _ _ v r (fun t l e=>g6 _ _ e (J1.tup e)) h
     ·exact itp (by simpa using ha) ⟨by walk_at "om",en⟩
   ·rw[decide_eq_false ht]
    exact itp rfl ⟨by walk_at "om",ed⟩
  ·exact itn hv ⟨by walk_at "om",eu⟩
 ·refine itn (fun z=>un ?_) ⟨by walk_at "om",eu⟩
  cases h:x.un with
  |none=>rfl
  |some m=>rw[h]at z;cases z
end
open PySem L2 K19 K22
section
variable{P:Program}{w:World}{K:W.Frag}{mg:Str->Option Value}{base:Heap}{a:Adr}
open K3
def cA(ns:List Int)(k:Int):Int:=if k<ns.length then ns.getD k.toNat 0+ns.getD k.toNat 0 % 251*381840 else 0
def sp_at(K:W.Frag):Sp:=sp2 fun x y H Q _=>asR x fun p=>asI y fun k=>∃ns:List Int,SqL K H p (ns.map V.int)/\0<=k/\∀i,i=cA ns k->Q (.int i) H
theorem aP(T:Txt K mg a):Fo P w K mg base "_law_cell_at" 1 (sp_at K):=by
 refine T.nM.x2 ["_law_script","_law_k"] fun x0 x1 fA cdv A outer s H Q E ND HU hr h=>?_;obtain⟨p,rfl,h1⟩:=asR.inv h;obtain⟨k,rfl,ns,hp,k0,q⟩:=asI.inv h1;refine⟨_,(af (aW (aO nP (fv 1) (aH (bj K) rfl T.cp bD (fa1 (fv 0)))) (ag (aJ (aj aK (az K (fv 0) (fv 1)) (aj dl (aj a7 (az K (fv 0) (fv 1)) aa) aa)))) aL)
  (ag (aJ aa))),?_⟩
 walk_at "rd";refine⟨_,.inl hp,?_⟩;rw[zK];by_cases hk:k<ns.length
 ·obtain⟨j,rfl⟩:∃j:Nat,k=j:=⟨k.toNat,by lia⟩
  have hj:j<ns.length:=by lia
  have e:atI (ns.map V.int) (j:Int)=some (.int ns[j]):=av (by rw[List.getElem?_map,List.getElem?_eq_getElem hj];rfl);refine itp hk ⟨_,_,.inl hp,e,?_⟩;walk_at "rd";refine⟨_,_,.inl hp,e,?_⟩;walk_at "rd";refine q _ ?_;unfold cA;rw[if_pos hk,ZU,List.getD,List.getElem?_eq_getElem hj];rfl
 ·exact itn hk (q _ (by unfold cA;rw[if_neg hk]))
def sp_Ap:Sp:=sp1 fun x H Q _=>asI x fun y=>Q (.int (365*y+LD y)) H
theorem cZ(T:Txt K mg a):Fo P w K mg base "_law_start" 1 sp_Ap:=by
 refine T.pF.x1 ["_law_year"] fun x0 fA cdv A outer s H Q E ND HU hr h=>?_;obtain⟨y,rfl,k⟩:=asI.inv h;refine⟨_,(ag (aJ (aj aK (aj eP (aj aK (aj dl aa (fv 0)) (aj a9 (aj aK (fv 0) aa) aa)) (aj a9 (aj aK (fv 0) aa) aa)) (aj a9 (aj aK (fv 0) aa) aa)))),?_⟩;walk_at "rd";have e:365*y+(y+3) / 4-(y+99) / 100+(y+399) / 400=365*y+LD y:=by unfold LD;lia
 rw[e];exact k
theorem Hb{y:Int}(h:0<=y):0<=LD y:=by unfold LD;lia
theorem DM(y:Int):FD (12*y)=365*y+LD y:=by
 unfold FD;rw[show 12*y / 12=y by lia,show 12*y % 12=0 by lia,if_neg (by decide)];show _+S 0=_;rw[show S 0=0 by decide];lia
abbrev LNG(y:Int):List Int:=31::(28+(LD (y+1)-LD y))::R10
theorem zx(y:Int):(28:Int)+(if 365*(y+1)+LD (y+1)-(365*y+LD y)=366 then 1 else 0)=28+(LD (y+1)-LD y):=by
 have h:LD (y+1)=LD y+1\/LD (y+1)=LD y:=by
  rw[wm];split
  ·exact .inl rfl
  ·exact .inr (Int.add_zero _)
 rcases h with h|h
 ·rw[h,if_pos (by lia)];lia
 ·rw[h,if_neg (by lia)];lia
def sp_ug:Sp:=sp1 fun x H Q _=>NoT H/\asI x fun y=>∀p,H p=none->Q (.ref p) (upd H p (.lst ((LNG y).map V.int)))
theorem lT(T:Txt K mg a):Fo P w K mg base "_law_lengths" 2 sp_ug:=by
 refine T.nL.x1 ["_law_year","_law_second"] fun x0 fA cdv A outer s H Q E ND HU hr h=>?_;obtain⟨hN,h1⟩:=h;obtain⟨y,rfl,k⟩:=asI.inv h1;have sz:=szl;refine⟨_,(af (aS 1 ND (aj aK aa (d7 CQ rfl T.Ef AA (fa1 (eY (dm K HU) (aj eP (aN (cZ T) hr aE (fa1 (aj aK (fv 0) aa))) (aN (cZ T) hr aE (fa1 (fv 0)))) aa (gm _))))))
  (ag (aJ (cX (FA.pa (aY aa (aY (fv 1) (aY aa (aY aa (aY aa (aY aa (aY aa (aY aa (aY aa (aY aa (aY aa (aY aa di))))))))))))))))),?_⟩
 walk_at "rd";refine⟨by walk_at "om",fun p hp=>?_⟩;rw[zx];exact k p hp
def sp_Dr:Sp:=sp1 fun x H Q _=>NoT H/\asI x fun m=>∀p H',Same H H'->NoT H'->H' p=some (.tup [.int (FD m),.int (FD (m+1)-1)])->Q (.ref p) H'
theorem jh(T:Txt K mg a):Fo P w K mg base "_law_month_ends" 3 sp_Dr:=by
 refine T.jG.x1 ["_law_month_here","_law_lengths_here","_law_first"] fun x0 fA cdv A outer s H Q E ND HU hr h=>?_;obtain⟨hN,h1⟩:=h;obtain⟨m,rfl,k⟩:=asI.inv h1;have sz:=szl;refine⟨_,(af (aS 1 ND (aN (lT T) hr aE (fa1 (aj a9 (fv 0) aa))))
  (af (aS 2 ND (aj aK (aN (cZ T) hr aE (fa1 (aj a9 (fv 0) aa))) (aH (pR K rfl) rfl T.Bv uh (fa1 (ci (nn K) (fv 1) da (c8 (aj a7 (fv 0) aa)))))))
  (ag (aJ (bJ (fa2 (fv 2) (aj eP (aj aK (fv 2) (az K (fv 1) (aj a7 (fv 0) aa))) aa))))))),?_⟩
 walk_at "rd";refine⟨hN,fun p hp=>?_⟩;have s1:=au (HO.lst ((LNG (m / 12)).map V.int)) hp;have N1:NoT (upd H p (HO.lst ((LNG (m / 12)).map V.int))):=aA hN rfl;have g1:upd H p (HO.lst ((LNG (m / 12)).map V.int)) p=some (HO.lst ((LNG (m / 12)).map V.int)):=ad;change FX K (V.ref p) none (some (m % 12)) (upd H p (HO.lst ((LNG (m / 12)).map V.int))) _;generalize upd H p (HO.lst ((LNG (m / 12)).map V.int))=G1 at s1 N1 g1 |-
 have m0:0<=m % 12/\m % 12<12:=by lia
 refine⟨p,_,rfl,SqL.of g1,fun q hq=>?_⟩;rw[DN _ m0.1,<- List.map_take];have s2:=au (HO.lst (((LNG (m / 12)).take (m % 12).toNat).map V.int)) hq;have g2:upd G1 q (HO.lst (((LNG (m / 12)).take (m % 12).toNat).map V.int)) q=some (HO.lst (((LNG (m / 12)).take (m % 12).toNat).map V.int)):=ad;have N2:NoT (upd G1 q (HO.lst (((LNG (m / 12)).take (m % 12).toNat).map V.int))):=aA N1 rfl;generalize upd G1 q (HO.lst (((LNG (m / 12)).take (m % 12).toNat).map V.int))=G2 at s2 g2 N2 |-
 refine⟨_,.inl (SqL.of g2),?_⟩;walk_at "rd";rw[show 365*(m / 12)+LD (m / 12)+((LNG (m / 12)).take (m % 12).toNat).sum=FD m from Ia m];have hl:(m % 12).toNat<(LNG (m / 12)).length:=by show _<12;lia
 have ix:atI ((LNG (m / 12)).map V.int) (m % 12)=some (.int (LG (2000+m / 12) (1+m % 12))):=by
  have e:=Im m;have e2:m % 12=((m % 12).toNat:Int):=by lia
  rw[<- e]
  conv=>lhs;rw[e2]
  exact av (by rw[List.getElem?_map,List.getElem?_eq_getElem hl];simp[List.getD,List.getElem?_eq_getElem hl])
 refine⟨_,_,.inl (SqL.of (s2 _ _ g1)),ix,?_⟩;walk_at "rd";rw[<- wC];refine⟨by walk_at "om",fun p3 hp3=>k p3 _ ((s1.trans s2).trans (au _ hp3)) (aA N2 rfl) ad⟩
def sp_Aw:Sp:=sp1 fun x H Q _=>NoT H/\asI x fun d=>(0<=d/\d<=146096)/\∀H',Same H H'->NoT H'->Q (.int (MO d)) H'
theorem i5(T:Txt K mg a):Fo P w K mg base "_law_month" 4 sp_Aw:=by
 refine T.q_.x1 ["_law_day_here","_law_year","_law_month_here"] fun x0 fA cdv A outer s H Q E ND HU hr h=>?_;obtain⟨hN,h1⟩:=h;obtain⟨d,rfl,⟨d0,d1⟩,k⟩:=asI.inv h1;have sz:=szl;refine⟨_,(af (aS 1 ND (aj a9 (aj dl (fv 0) aa) aa))
  (af (ip (by passes_own) (aO jL (aN (cZ T) hr aE (fa1 (fv 1))) (fv 0)) (ag (aS 1 ND (aj eP (fv 1) aa))))
  (af (ip (by passes_own) (aO eF (aN (cZ T) hr aE (fa1 (aj aK (fv 1) aa))) (fv 0)) (ag (aS 1 ND (aj aK (fv 1) aa))))
  (af (aS 2 ND aa)
  (af (ip (by passes_own) (aO nP (az K (aN (jh T) hr aE (fa1 (aj aK (aj dl aa (fv 1)) (fv 2)))) aa) (fv 0)) (ag (aS 2 ND (aj aK (fv 2) aa))))
  (ag (aJ (aj aK (aj dl aa (fv 1)) (fv 2))))))))),?_⟩
 walk_at "rd";refine⟨fun n σ H1=>∃y:Int,σ=[some (.int d),some (.int y),none]/\H=H1/\0<=y/\n=y.toNat,⟨_,_,rfl,rfl,by lia,rfl⟩,?_⟩;rintro n σ H1 ⟨y,rfl,rfl,y0,rfl⟩;walk_at "rd";by_cases h2:d<365*y+LD y
 ·have y1:1<=y:=by
   by_cases z:y=0
   ·rw[z]at h2
    have:LD 0=0:=by decide
    lia
   ·lia
  exact itp h2 ⟨_,fun σ' H' z=>z,(y-1).toNat,by lia,y-1,rfl,rfl,by lia,rfl⟩
 ·refine itn h2 ⟨fun n σ H1=>∃y:Int,σ=[some (.int d),some (.int y),none]/\H=H1/\0<=y/\365*y+LD y<=d/\n=(d-y).toNat,⟨_,_,rfl,rfl,y0,by lia,rfl⟩,?_⟩
  rintro n σ H1 ⟨y,rfl,rfl,y0,h3,rfl⟩;walk_at "rd";by_cases h4:365*(y+1)+LD (y+1)<=d
  ·have:=Hb (y:=y+1) (by lia)
   exact itp h4 ⟨_,fun σ' H' z=>z,(d-(y+1)).toNat,by lia,y+1,rfl,rfl,by lia,h4,rfl⟩
  ·refine itn h4 ?_
   walk_at "rd";refine⟨fun n σ H1=>∃m:Int,σ=[some (.int d),some (.int y),some (.int m)]/\Same H H1/\NoT H1/\0<=m/\m<=11/\FD (12*y+m)<=d/\n=(11-m).toNat,⟨_,_,rfl,Same.refl _,hN,by lia,by lia,by rw[Int.add_zero,DM];exact h3,rfl⟩,?_⟩;rintro n σ H1 ⟨m,rfl,s1,N1,m0,m1,mf,rfl⟩;walk_at "rd";refine⟨N1,fun p H2 s2 N2 hp=>⟨_,_,.inr (SqT.of hp),av (j:=1) rfl,?_⟩⟩;walk_at "rd";by_cases h5:FD (12*y+m+1)-1<d
   ·have m2:m+1<=11:=by
     by_cases z:m=11
     ·exfalso
      rw[z,show 12*y+11+1=12*(y+1) by lia,DM]at h5;lia
     ·lia
    exact itp h5 ⟨_,fun σ' H' z=>z,(11-(m+1)).toNat,by lia,m+1,rfl,s1.trans s2,N2,by lia,m2,by rw[<- Int.add_assoc];lia,rfl⟩
   ·rw[AK mf (by lia)]at k
    exact itn h5 (k _ (s1.trans s2) N2)
def sp_Gn(K:W.Frag):Sp:=sp2 fun x y H Q _=>asR x fun p=>asI y fun k=>∃ns:List Int,SqL K H p (ns.map V.int)/\0<=k/\∀i:Int,0<=i->i<=145994->Q (.int i) H
theorem lh(T:Txt K mg a):Fo P w K mg base "_law_day" 3 (sp_Gn K):=by
 refine T.u_.x2 ["_law_script","_law_k"] fun x0 x1 fA cdv A outer s H Q E ND HU hr h=>?_;obtain⟨p,rfl,h1⟩:=asR.inv h;obtain⟨j,rfl,ns,hp,k0,k⟩:=asI.inv h1;refine⟨_,(ag (aJ (aH (Ac rfl) rfl T.D6 Bw (fa2 aa (aj aK (aj a7 (aN (aP T) hr aE (fa2 (fv 0) aa)) aa) (aj a7 (aN (aP T) hr aE (fa2 (fv 0) (fv 1))) aa)))))),?_⟩;walk_at "rd";refine⟨ns,hp,fun i _=>⟨ns,hp,k0,fun x _=>?_⟩⟩;refine k _ ?_ ?_
 ·split <;> lia
 ·split <;> lia
end
open PySem L2 K19 K22
section
variable{P:Program}{w:World}{K:W.Frag}{mg:Str->Option Value}{base:Heap}{a:Adr}
open K3
theorem jw{ta:TA}{g:TG}{tb:TS}{D:eO}{σ:St}{H:Hp}(h:ta σ H fun vs H1=>∃j:Int,vs=[.int j] /\ -(2 ^ 62)<=j/\j<2 ^ 62/\FE (Itr 0 j.toNat) g tb D σ H1):nV (DF ta) g tb D σ H:=h
theorem wQ(l:List Nat)(lo hi:Option Int):(gz l lo hi).length<=l.length:=by
 unfold gz;rw[qW,List.length_drop];lia
theorem mh{l:List Nat}{lo hi:Option Int}{x:Nat}(h:x∈gz l lo hi):x∈l:=by
 unfold gz at h;exact List.mem_of_mem_drop (Xk h)
abbrev AH:List Nat:=[97,98,99,100,101,102,103,104]
theorem BD{l:List Nat}(h:l.length=8)(x:Int):∃z∈l,atI l (x % 8)=some z:=by
 obtain⟨j,e⟩:=ZT (ZR x (show(8:Int)≠0 by decide));have b:=ZW x (show(0:Int)<8 by decide);rw[e]at b |-
 have hj:j<l.length:=by lia
 exact⟨l[j],YB hj,av (List.getElem?_eq_getElem hj)⟩
structure NmOk(ls:List (List Nat)):Prop where
 len:ls.length=5
 nd:ls.Nodup
 nm:∀l∈ls,nm l=true
def sgs:List (List Nat):=[[107],[109],[112],[107,109],[122]]
theorem HJ{u v s:List Nat}(hs:s∈sgs)(lu:u.length+v.length<=10)(hu:∀x∈u,x∈AH)(hv:∀x∈v,x∈AH):nm (u++s++v)=true:=by
 have hs2:1<=s.length/\s.length<=2/\∀x∈s,97<=x/\x<=122:=by
  have:∀s∈sgs,1<=s.length/\s.length<=2/\∀x∈s,97<=x/\x<=122:=by decide
  exact this s hs
 have ha:∀x∈AH,97<=x/\x<=122:=by decide
 have l:(u++s++v).length=u.length+s.length+v.length:=by rw[yw,yw]
 unfold nm lie;rw[decide_eq_true (by lia),decide_eq_true (by lia),Yh,Yh,ZY];intro x m;have:97<=x/\x<=122:=by
  rcases y9.mp m with m|m
  ·rcases y9.mp m with m|m
   ·exact ha x (hu x m)
   ·exact hs2.2.2 x m
  ·exact ha x (hv x m)
 rw[decide_eq_true this.1,decide_eq_true this.2];rfl
theorem NmOk.of{u v:List Nat}(lu:u.length+v.length<=10)(hu:∀x∈u,x∈AH)(hv:∀x∈v,x∈AH):NmOk (sgs.map fun s=>u++s++v):=by
 refine⟨rfl,?_,fun l m=>?_⟩
 ·refine Yp.mpr ((show sgs.Nodup by decide).imp fun {x y} h e=>h ?_)
  exact List.append_cancel_left (List.append_cancel_right e)
 ·obtain⟨s,ms,rfl⟩:=yH.mp m
  exact HJ ms lu hu hv
theorem AQ:∀ls:List (List Nat),A2 (fun(v:V) (c:List Nat)=>v=L2.T c) (ls.map L2.T) ls
 | []=>.nil
 |_::r=>.cons rfl (AQ r)
theorem wn{ws:List V}{ls:List (List Nat)}(h:A2 (fun(v:V) (c:List Nat)=>v=L2.T c) ws ls):ws=ls.map L2.T:=by
 induction h with
 |nil=>rfl
 |cons e _ ih=>rw[xx,e,ih]
def sp_Ag:Sp:=sp1 fun x H Q _=>NoT H/\asI x fun c=>∀p H' (ls:List (List Nat)),Same H H'->NoT H'->H p=none->H' p=some (.lst (ls.map L2.T))->NmOk ls->Q (.ref p) H'
theorem on(T:Txt K mg a):Fo P w K mg base "_law_names" 1 sp_Ag:=by
 refine T.p9.x1 ["_law_cell","_law_word","_law_more","_law_k","_law_at"] fun x0 fA cdv A outer s H Q E ND HU hr h=>?_;obtain⟨hN,h1⟩:=h;obtain⟨c,rfl,k⟩:=asI.inv h1;have sz:=szl;refine⟨_,(af (aS 1 ND (aX []))
  (af (aS 2 ND (aj a9 (fv 0) aa))
  (af (dt (by passes_own) rfl (iB rfl T.iJ (fa1 (aj a7 (fv 0) aa))) (aF (i:=3) ND rfl (Or.inl rfl)) (af (aS 1 ND (aj aK (fv 1) (az K (aX [97,98,99,100,101,102,103,104]) (aj a7 (fv 2) aa))))
  (ag (aS 2 ND (aj a9 (fv 2) aa)))))
  (af (aS 4 ND (aj a7 (aj a9 (fv 0) aa) (aj aK (aH (bj K) rfl T.cp bD (fa1 (fv 1))) aa)))
  (ag (aJ (br rfl (cl:=_) (x:="_law_sign") (xs:=["_law_sign"]) (fr:=["_law_word","_law_at"]) (ks:=[1,4]) (by walk_at "cq") rfl (bF K (cX (fa5 (aX [107]) (aX [109]) (aX [112]) (aX [107,109]) (aX [122])))) (fun _ _ _ _ _=>(aF (i:=0) (bX (l:=["_law_sign","_law_word","_law_at"]) (by decide)) rfl (Or.inl rfl))) (fun _ _ _ _ _=>dN) (fun _ _ _ _ _=>(aj aK (aj aK (ci nE (fv 1) da (c8 (fv 2))) (fv 0)) (ci nE (fv 1) (c8 (fv 2)) da)))))))))),?_⟩
 walk_at "rd";refine jw ?_;walk_at "rd";refine⟨by lia,by lia,iA (lo:=0) (n:=(c % 6).toNat) (fun i σ' H'=>H=H'/\∃wd x2 x3,wd.length=i/\(∀x∈wd,x∈AH)/\σ'=[some (.int c),some (L2.T wd),some (.int x2),x3,none]) ⟨rfl,[],_,_,rfl,(fun _ m=>nomatch m),rfl⟩ ?_ ?_⟩
 ·rintro i σ' H' hi ⟨rfl,wd,x2,x3,lw,hw,rfl⟩
  obtain⟨z,mz,ez⟩:=BD (l:=AH) rfl x2;walk_at "rd";refine⟨by show 8<=sizeLine;lia,?_⟩;show match atI AH (x2 % 8) with|some c=>_|none=>False
  rw[ez];refine⟨by lia,wd++[z],_,_,by rw[yw,lw];rfl,fun x m=>?_,rfl,rfl,rfl⟩;rcases y9.mp m with m|m
  ·exact hw x m
  ·rw[zL.mp m];exact mz
 ·rintro σ' H' ⟨rfl,wd,x2,x3,lw,hw,rfl⟩
  walk_at "rd";refine⟨by lia,by lia,lD ?_⟩;walk_at "rd";refine⟨by walk_at "om",fun p hp=>⟨⟨_,SqL.of ad⟩,?_⟩⟩;generalize c / 8 % ((wd.length:Int)+1)=t;have l1:=wQ wd none (some t);have l2:=wQ wd (some t) none;have s1:=au (HO.lst (sgs.map L2.T)) hp;refine ceA (S:=fun _ v c=>v=L2.T c) (fun _ _ _ _ _ h=>h) p (sgs.map L2.T) sgs (fun v c=>v=L2.T c) (fun _=>true) (fun s=>gz wd none (some t)++s++gz wd (some t) none) ad (aA hN rfl) (AQ sgs) (by show 5<sizeLine;lia) (fun v s ms hs G zs M1 M0 sG nG hz n1 n0=>?_) fun D ws G hD sG nG gD aG=>?_
  ·subst hs
   obtain⟨z1,rfl⟩:=ex1 hz;have ls:s.length<=2:=(show ∀s∈sgs,s.length<=2 by decide) s ms;walk_at "rd";exact⟨⟨[_],rfl,rfl⟩,by lia,by lia,by lia,by rw[yw];lia,n1 rfl _ _ (Same.refl _) nG rfl⟩
  ·rw[ZN.mpr (fun _ _=>rfl)]at aG
   rw[wn aG]at gD;exact k D G _ (s1.trans sG) nG (s1.free hD) gD (NmOk.of (by lia) (fun x m=>hw x (mh m)) fun x m=>hw x (mh m))
def CurOf(c:Int)(ls:List (List Nat)):Prop:=∃z1 z2,atI ([65,66,67,68,69,70,71,72]:List Nat) (c / 3 % 8)=some z1/\atI ([83,84,85,86,87,88,89,90]:List Nat) (c / 24 % 8)=some z2/\ls=[75,76,77].map fun x=>gz [z1,z2] none (some (c % 3))++[x]++gz [z1,z2] (some (c % 3)) none
theorem CurOf.one{c:Int}{ls ls':List (List Nat)}(h:CurOf c ls)(h':CurOf c ls'):ls=ls':=by
 obtain⟨z1,z2,e1,e2,rfl⟩:=h;obtain⟨y1,y2,f1,f2,rfl⟩:=h';rw[e1]at f1;rw[e2]at f2;cases f1;cases f2;rfl
def sp_Ch:Sp:=sp1 fun x H Q _=>NoT H/\asI x fun c=>∀p H' (ls:List (List Nat)),Same H H'->NoT H'->H p=none->H' p=some (.lst (ls.map L2.T))->ls.length=3->(∀l∈ls,cur l=true)->CurOf c ls->Q (.ref p) H'
theorem fL(T:Txt K mg a):Fo P w K mg base "_law_currencies" 1 sp_Ch:=by
 refine T.ju.x1 ["_law_cell","_law_two"] fun x0 fA cdv A outer s H Q E ND HU hr h=>?_;obtain⟨hN,h1⟩:=h;obtain⟨c,rfl,k⟩:=asI.inv h1;have sz:=szl;refine⟨_,(af (aS 1 ND (aj aK (az K (aX [65,66,67,68,69,70,71,72]) (aj a7 (aj a9 (fv 0) aa) aa)) (az K (aX [83,84,85,86,87,88,89,90]) (aj a7 (aj a9 (fv 0) aa) aa))))
  (ag (aJ (br rfl (cl:=_) (x:="_law_sign") (xs:=["_law_sign"]) (fr:=["_law_two","_law_cell"]) (ks:=[1,0]) (by walk_at "cq") rfl (zW (aX [75,76,77])) (fun _ _ _ _ _=>(aF (i:=0) (bX (l:=["_law_sign","_law_two","_law_cell"]) (by decide)) rfl (Or.inl rfl))) (fun _ _ _ _ _=>dN) (fun _ _ _ _ _=>(aj aK (aj aK (ci nE (fv 1) da (c8 (aj a7 (fv 2) aa))) (fv 0)) (ci nE (fv 1) (c8 (aj a7 (fv 2) aa)) da))))))),?_⟩
 walk_at "rd";obtain⟨z1,m1,e1⟩:=BD (l:=[65,66,67,68,69,70,71,72]) rfl (c / 3);obtain⟨z2,m2,e2⟩:=BD (l:=[83,84,85,86,87,88,89,90]) rfl (c / 24);rw[e1];refine⟨by walk_at "om",?_⟩;dsimp only;rw[e2];refine⟨by walk_at "om",by walk_at "om",?_⟩;have up:∀x∈[z1,z2],65<=x/\x<=90:=by
  have a1:∀x∈([65,66,67,68,69,70,71,72]:List Nat),65<=x/\x<=90:=by decide
  have a2:∀x∈([83,84,85,86,87,88,89,90]:List Nat),65<=x/\x<=90:=by decide
  intro x m;simp only[zG,xz,or_false]at m;rcases m with rfl|rfl
  ·exact a1 _ m1
  ·exact a2 _ m2
 have l2:(gz [z1,z2] none (some (c % 3))).length+(gz [z1,z2] (some (c % 3)) none).length=2:=by
  rcases(by lia:c % 3=0\/c % 3=1\/c % 3=2) with e|e|e <;> rw[e] <;> rfl
 refine cmS (fun _=>True) (fun _ _ _=>trivial) [75,76,77] (fun _=>true) (fun x=>L2.T (gz [z1,z2] none (some (c % 3))++[x]++gz [z1,z2] (some (c % 3)) none)) (fun R r=>r) (by decide) (by show 3<=sizeLine;lia) (fun c _ H R _ r=>r) (fun x _ _ H R _ r=>?_) (fun D hD=>?_)
 ·walk_at "rd"
  exact⟨by walk_at "om",by lia,by walk_at "om",by rw[yw,pM];lia,r⟩
 ·refine k D _ ([75,76,77].map fun x=>gz [z1,z2] none (some (c % 3))++[x]++gz [z1,z2] (some (c % 3)) none) (au _ hD) (aA hN rfl) hD ad rfl (fun l m=>?_) ⟨z1,z2,e1,e2,rfl⟩
  obtain⟨x,mx,rfl⟩:=yH.mp m;have hx:65<=x/\x<=90:=(show ∀x∈([75,76,77]:List Nat),65<=x/\x<=90 by decide) x mx;unfold cur lie;rw[decide_eq_true (by rw[yw,yw,pM];lia),Yh,ZY];intro y my;have:65<=y/\y<=90:=by
   rcases y9.mp my with my|my
   ·rcases y9.mp my with my|my
    ·exact up y (mh my)
    ·rw[zL.mp my];exact hx
   ·exact up y (mh my)
  rw[decide_eq_true this.1,decide_eq_true this.2];rfl
end
open PySem L2 K19 K22
section
variable{P:Program}{w:World}{K:W.Frag}{mg:Str->Option Value}{base:Heap}{a:Adr}
open K3
structure La where
 pa:List Nat
 cu:Option (List Nat)
 fi:Int
 un:Option Int
 ls:Addr
def cuV:Option (List Nat)->V
 |none=>.non
 |some l=>L2.T l
def kyL(x:La):Key × V:=(.inr ⟨⟨x.pa⟩⟩,.ref x.ls)
abbrev laL(x:La):HO:=.lst [cuV x.cu,.int x.fi,cl x.un]
structure AcAt(H:Hp)(d:Addr)(as:List La):Prop where
 dc:Rd H d (.dK (as.map kyL))
 ls:∀x∈as,H x.ls=some (laL x)
theorem AcAt.val{H:Hp}{d:Addr}{as:List La}(nd:(as.map (·.pa)).Nodup){x:La}(m:x∈as):cU (as.map kyL) (.inr ⟨⟨x.pa⟩⟩)=some (.ref x.ls):=by
 induction as with
 |nil=>cases m
 |cons y r ih=>
  rw[xx]at nd;obtain⟨n1,n2⟩:=Zd.mp nd;by_cases c:y.pa=x.pa
  ·rw[xx,bO (by unfold kyL;rw[c])]
   rcases zG.mp m with rfl|m
   ·rfl
   ·exact absurd (c ▸ xF (f:=(·.pa)) m) n1
  ·rw[xx,bG (fun z=>c (by simpa [kyL] using z))]
   rcases zG.mp m with rfl|m
   ·exact absurd rfl c
   ·exact ih n2 m
theorem AcAt.get{H:Hp}{d:Addr}{as:List La}(h:AcAt H d as)(nd:(as.map (·.pa)).Nodup){x:La}(m:x∈as):DGet H d (L2.T x.pa) (some (.ref x.ls)):=
 .inl ⟨_,.inr ⟨⟨x.pa⟩⟩,h.dc,rfl,(AcAt.val (H:=H) (d:=d) nd m).symm⟩
theorem jC{l:List Nat}(h:nm l=true):58∉l:=fun m=>by have:=(ke h).2.2 58 m;lia
structure POk(l:List Nat):Prop where
 pn:jD l=true
 lo:∀c∈l,c<128
 ln:l.length+1<=13*(spN 58 l).length
theorem POk.len{l:List Nat}(h:POk l):l.length<=100:=by
 have:=h.pn;unfold jD at this;simp only[Zi,decide_eq_true_eq]at this;have:=h.ln;lia
theorem POk.top{l:List Nat}(hl:nm l=true):POk l:=by
 have e:=jR 58 _ (jC hl);obtain⟨h1,h2,h3⟩:=ke hl;refine⟨?_,fun x hx=>by have:=h3 x hx;lia,by rw[e];simp;lia⟩;unfold jD;rw[e];simp[hl]
theorem POk.ext{u n:List Nat}(hn:nm n=true)(h:POk u)(l5:(spN 58 u).length<=5):POk (u++58::n):=by
 have e:=fV (v:=u) (jC hn);obtain⟨h1,h2,h3⟩:=ke hn;have hp:=h.pn;unfold jD at hp;simp only[Zi,decide_eq_true_eq]at hp;refine⟨?_,fun x hx=>?_,?_⟩
 ·unfold jD
  rw[e,yw,List.all_append];simp only[Zi,decide_eq_true_eq];exact⟨⟨by lia,by simp;lia⟩,hp.2,by simp[hn]⟩
 ·rcases y9.mp hx with m|m
  ·exact h.lo x m
  ·rcases zG.mp m with rfl|m
   ·decide
   ·have:=h3 x m;lia
 ·have:=h.ln
  rw[e,yw,yw,pM,uO];lia
structure Ok1(as:List La)(x:La):Prop where
 nw:∀y∈as,y.pa≠x.pa
 po:POk x.pa
 fi:0<=x.fi/\x.fi<=145940
 un:∀t,x.un=some t->x.fi<t/\t<=146096
 cu:∀l,x.cu=some l->cur l=true
 st:(nm x.pa=true/\x.fi=0/\x.un=none/\x.cu=none)\/(∃u n,u∈as/\x.pa=u.pa++58::n/\58∉n/\u.un=none/\u.fi<=x.fi)
def AsOk(as:List La):Prop:=∀i x,as[i]? = some x->Ok1 (as.take i) x
theorem AsOk.snoc{as:List La}{x:La}(h:AsOk as)(hx:Ok1 as x):AsOk (as++[x]):=fun i y e=>by
 rcases Nat.lt_trichotomy i as.length with l|l|l
 ·rw[List.getElem?_append_left l]at e
  rw[List.take_append_of_le_length (by lia)];exact h i y e
 ·subst l
  rw[List.getElem?_append_right (z4 _),Nat.sub_self]at e;cases e;rw[List.take_left']
  ·exact hx
  ·rfl
 ·rw[List.getElem?_append_right (by lia),show i-as.length=(i-as.length-1)+1 by lia]at e
  cases e
theorem AsOk.nd{as:List La}(h:AsOk as):(as.map (·.pa)).Nodup:=by
 rw[List.nodup_iff_pairwise_ne];refine Zk.mpr fun i j hi hj hij e=>?_;rw[zK]at hi hj;rw[ZD,ZD]at e;have o:=h j as[j] (by simp);refine o.nw as[i] ?_ e;rw[List.mem_iff_getElem];exact⟨i,by rw[qW];lia,by rw[List.getElem_take]⟩
structure Tp(x:La):Prop where
 nm:nm x.pa=true
 cu:x.cu=none
 fi:x.fi=0
 un:x.un=none
structure As7(as:List La):Prop where
 ok:AsOk as
 len:as.length<=7
 top:∃x y r,as=x::y::r/\Tp x/\Tp y
def P7(n:Nat->List Nat):List (List Nat):=[n 0,n 1,n 0++58::n 2,n 0++58::n 3,n 1++58::n 2,n 1++58::n 4,(n 0++58::n 2)++58::n 0]
theorem Cg{l:List Nat}(h:58∉l):spN 58 l=[l]:=jR 58 _ h
theorem HF{n:Nat->List Nat}(hn:∀i,i<5->58∉n i)(ne:∀i j,i<j->j<5->n i≠n j):(P7 n).Nodup:=by
 have key:((P7 n).map (spN 58)).Nodup:=by
  have h0:=hn 0 (by decide);have h1:=hn 1 (by decide);have h2:=hn 2 (by decide);have h3:=hn 3 (by decide);have h4:=hn 4 (by decide);have e:(P7 n).map (spN 58)=[[n 0],[n 1],[n 0,n 2],[n 0,n 3],[n 1,n 2],[n 1,n 4],[n 0,n 2,n 0]]:=by
   unfold P7;simp only[xx,YO,fV h0,fV h2,fV h3,fV h4,Cg h0,Cg h1,ZC,List.nil_append]
  rw[e];have a01:=ne 0 1 (by decide) (by decide);have a23:=ne 2 3 (by decide) (by decide);have a24:=ne 2 4 (by decide) (by decide);simp[a01,a23,a24,Ne.symm a01]
 exact(Yp.mp key).imp fun h e=>h (by rw[e])
theorem qz{as:List La}{x:La}(h:∀y∈as,y.pa≠x.pa):cW (as.map kyL) (.inr ⟨⟨x.pa⟩⟩) (.ref x.ls)=(as++[x]).map kyL:=by
 rw[nc,vd]
 ·rfl
 ·induction as with
  |nil=>rfl
  |cons y r ih=>rw[xx,bG (fun z=>h y (.head _) (by simpa [kyL] using z)),ih fun z m=>h z (.tail _ m)]
structure AF(n:Nat->List Nat)(as:List La)(m:Nat):Prop where
 pa:as.map (·.pa)=(P7 n).take m
 ok:AsOk as
 un:∀j u,j<=2->as[j]? = some u->u.un=none
 tp:∀j u,j<2->as[j]? = some u->Tp u
 le:m<=7
structure NF(n:Nat->List Nat):Prop where
 n_:∀i,i<5->nm (n i)=true
 nd:(P7 n).Nodup
 po:∀l∈P7 n,POk l
theorem NF.of{ls:List (List Nat)}(h:NmOk ls):NF fun i=>ls.getD i []:=by
 have hl:=h.len;have e:∀i,i<5->ls.getD i []∈ls:=fun i hi=>by
  have:i<ls.length:=by lia
  simp[List.getD,List.getElem?_eq_getElem this]
 have a:∀i,i<5->nm (ls.getD i [])=true:=fun i hi=>h.nm _ (e i hi);refine⟨a,HF (fun i hi=>jC (a i hi)) fun i j hij hj q=>?_,fun l m=>?_⟩
 ·have hi2:i<ls.length:=by lia
  have hj2:j<ls.length:=by lia
  simp only[List.getD,List.getElem?_eq_getElem hi2,List.getElem?_eq_getElem hj2,Option.getD_some]at q;have:=Zk.mp h.nd i j hi2 hj2 hij;exact this q
 ·have t:=fun i hi=>POk.top (a i hi)
  have l1:∀i,i<5->(spN 58 (ls.getD i [])).length=1:=fun i hi=>by rw[Cg (jC (a i hi))];rfl
  have x:=fun i j hi hj=>(t i hi).ext (a j hj) (by rw[l1 i hi];decide);unfold P7 at m;simp only[zG,xz,or_false]at m;rcases m with rfl|rfl|rfl|rfl|rfl|rfl|rfl
  ·exact t 0 (by decide)
  ·exact t 1 (by decide)
  ·exact x 0 2 (by decide) (by decide)
  ·exact x 0 3 (by decide) (by decide)
  ·exact x 1 2 (by decide) (by decide)
  ·exact x 1 4 (by decide) (by decide)
  ·exact(x 0 2 (by decide) (by decide)).ext (a 0 (by decide)) (by rw[fV (jC (a 2 (by decide))),yw,l1 0 (by decide)];show 1+1<=5;decide)
section
variable{n:Nat->List Nat}{as:List La}{m:Nat}{x:La}
theorem AF.len(h:AF n as m):as.length=m:=by
 have:=congrArg YS h.pa;rw[zK,qW]at this;have l7:(P7 n).length=7:=rfl;have:=h.le;lia
theorem AF.nw(h:AF n as m)(hn:NF n)(hx:(P7 n)[m]? = some x.pa):∀y∈as,y.pa≠x.pa:=fun y my e=>by
 have:y.pa∈(P7 n).take m:=h.pa ▸ xF my;obtain⟨i,hi,ei⟩:=List.mem_iff_getElem.mp this;rw[qW]at hi;rw[List.getElem_take]at ei;obtain⟨hm,em⟩:=List.getElem?_eq_some_iff.mp hx;have:=Zk.mp hn.nd i m (by lia) hm (by lia);exact this (ei.trans (e.trans em.symm))
theorem AF.snoc(h:AF n as m)(hx:(P7 n)[m]? = some x.pa)(o:Ok1 as x)(hu:m<=2->x.un=none)(hw:m<2->Tp x):AF n (as++[x]) (m+1):=by
 have l7:(P7 n).length=7:=rfl;have hm:=(List.getElem?_eq_some_iff.mp hx).1;have ln:=h.len;have at_:∀j u,(as++[x])[j]? = some u->as[j]? = some u\/(j=m/\u=x):=fun j u e=>by
  rcases Nat.lt_trichotomy j as.length with l|l|l
  ·rw[List.getElem?_append_left l]at e
   exact .inl e
  ·subst l
   rw[List.getElem?_append_right (z4 _),Nat.sub_self]at e;cases e;exact .inr ⟨ln,rfl⟩
  ·rw[List.getElem?_append_right (by lia),show j-as.length=(j-as.length-1)+1 by lia]at e
   cases e
 refine⟨?_,h.ok.snoc o,fun j u hj e=>?_,fun j u hj e=>?_,by lia⟩
 ·rw[vd,h.pa,Yc,hx];rfl
 ·rcases at_ j u e with e|⟨rfl,rfl⟩
  ·exact h.un j u hj e
  ·exact hu hj
 ·rcases at_ j u e with e|⟨rfl,rfl⟩
  ·exact h.tp j u hj e
  ·exact hw hj
theorem AF.at_(h:AF n as m){j:Nat}{p:List Nat}(hj:j<m)(e:(P7 n)[j]? = some p):∃u,as[j]? = some u/\u.pa=p:=by
 have:=congrArg (·[j]?) h.pa;rw[List.getElem?_map,List.getElem?_take,if_pos hj,e]at this;cases e2:as[j]? with
 |none=>rw[e2]at this;cases this
 |some u=>rw[e2]at this;exact⟨u,rfl,se this⟩
end
end
open PySem L2 K19 K22
section
variable{P:Program}{w:World}{K:W.Frag}{mg:Str->Option Value}{base:Heap}{a:Adr}
open K3
theorem alloc{H:Hp}{p:Addr}(o:HO)(h:H p=none)(n:NoT H)(f:ig o=true):∃G,upd H p o=G/\Same H G/\G p=some o/\NoT G:=⟨_,rfl,au _ h,ad,aA n f⟩
abbrev sgA(sc pn pc:Addr)(bs:Int)(d:Addr)(x5 x6 x7 x8 x9 x10:Option V):St:=[some (.ref sc),some (.ref pn),some (.ref pc),some (.int bs),some (.ref d),x5,x6,x7,x8,x9,x10]
def Fz:Stmt->List Stmt
 | .For _ _ b _ _=>b
 |_=>[]
noncomputable abbrev zj:List Stmt:=Fz ((aq aV).getD 5 (.Pass ⟨0,0,0,0⟩))
theorem Hm{c0 c1:List Nat}{H:Hp}{Q:VK}{i:Int}(h0:0<=i)(h1:i<4)(q:∀cu,(cu=none\/cu=some c0\/cu=some c1)->Q (cuV cu) H):mS [V.non,V.non,L2.T c0,L2.T c1] H H Q (.int i):=by
 obtain⟨j,rfl⟩:∃j:Nat,i=j:=⟨i.toNat,by lia⟩;unfold mS;rcases(by lia:j=0\/j=1\/j=2\/j=3) with rfl|rfl|rfl|rfl
 ·exact q none (.inl rfl)
 ·exact q none (.inl rfl)
 ·exact q (some c0) (.inr (.inl rfl))
 ·exact q (some c1) (.inr (.inr rfl))
theorem bA5(T:Txt K mg a){fA:Addr}{cdv:Value}{A:Around}{outer:List Env}{s:Shared}{H:Hp}{E:XK}(hr:Room 2 (A.deeper (ZO "_law_accounts" (ae aV) s.heap.objs.size fA cdv))):∃u,PSs (bW (XE P w) P w K mg base b_ "_law_accounts" (ae aV) fA cdv A outer s H E) (Ys 5 zj) u /\
 ∀(D:eO) sc pn pc bs d x5 x6 (c:Int) pa (fi:Int) (un:Option Int) (cy:List (List Nat)) kvs G,NoT G->G pc=some (.lst (cy.map L2.T))->cy.length=3->(∀l∈cy,cur l=true)->G d=some (.dK kvs)->kvs.length<=100 ->
  (∀p cu,(∀l,cu=some l->cur l=true)->G p=none->D.nx (sgA sc pn pc bs d x5 x6 (some (.int c)) (some (L2.T pa)) (some (.int fi)) (some (cl un))) (upd (upd G p (.lst [cuV cu,.int fi,cl un])) d (.dK (cW kvs (.inr ⟨⟨pa⟩⟩) (.ref p))))) ->
  u D (sgA sc pn pc bs d x5 x6 (some (.int c)) (some (L2.T pa)) (some (.int fi)) (some (cl un))) G:=by
 have sz:=szl;have ND:=gH.nd;have HU:=bV hr;refine⟨_,(ag (gY (Zr HU) (fv 4) (fv 8) (cX (fa3 (rn (fa4 cI cI (az K (fv 2) aa) (az K (fv 2) aa)) (aj a7 (aj a9 (fv 7) aa) aa) (fun _ _=>rfl)) (fv 9) (fv 10))) rfl)),fun D sc pn pc bs d x5 x6 c pa fi un cy kvs G nG hpc lcy ccy hd lkv k=>?_⟩;obtain⟨c0,c1,c2,rfl⟩:=ex3 lcy;walk_at "rd";refine⟨nG,_,_,.inl (SqL.of hpc),av (j:=0) rfl,_,_,.inl (SqL.of hpc),av (j:=1) rfl,by walk_at "om",fun p _=>Hm (by lia) (by lia) fun cu hcu=>?_⟩;refine⟨by walk_at "om",fun p1 hp1=>⟨d,_,rfl,DPut.k (k:=.inr ⟨⟨pa⟩⟩) ((au _ hp1) _ _ hd) (by rw[uS];lia),?_⟩⟩;refine k p1 cu (fun l e=>?_) hp1;rcases hcu with h|h|h
 ·rw[h]at e;cases e
 ·rw[h]at e;cases e;exact ccy _ (.head _)
 ·rw[h]at e;cases e;exact ccy _ (.tail _ (.head _))
theorem bA0(T:Txt K mg a){fA:Addr}{cdv:Value}{A:Around}{outer:List Env}{s:Shared}{H:Hp}{E:XK}(hr:Room 2 (A.deeper (ZO "_law_accounts" (ae aV) s.heap.objs.size fA cdv))){u5:TS}(hu5:PSs (bW (XE P w) P w K mg base b_ "_law_accounts" (ae aV) fA cdv A outer s H E) (Ys 5 zj) u5):∃ub:TS,PSs (bW (XE P w) P w K mg base b_ "_law_accounts" (ae aV) fA cdv A outer s H E) zj ub /\
 ∀(D:eO) sc pn pc bs d p5 (i:Int) x7 x8 x9 x10 svs q up (x:Int) (xs:List V) nx (ns:List Int) kvs uls ucu (ufi:Int) uun G,SqL K G sc (ns.map V.int)->0<=i->G p5=some (.lst svs)->atI svs i=some (.ref q)->G q=some (.tup [L2.T up,.int x])->G pn=some (.lst xs)->atI xs x=some (L2.T nx)->up.length<=100->nx.length<=12->G d=some (.dK kvs)->cU kvs (.inr ⟨⟨up⟩⟩)=some (.ref uls)->G uls=some (.lst [ucu,.int ufi,uun])->0<=ufi->ufi<=145940->0<=bs->bs<145900 ->
  (∀(c fi:Int) un,ufi<=fi->0<=fi->fi<=145940->(∀t,un=some t->fi<t/\t<=146096)->(i=0->un=none)->u5 D (sgA sc pn pc bs d (some (.ref p5)) (some (.int i)) (some (.int c)) (some (L2.T (up++[58]++nx))) (some (.int fi)) (some (cl un))) G) ->
  ub D (sgA sc pn pc bs d (some (.ref p5)) (some (.int i)) x7 x8 x9 x10) G:=by
 have sz:=szl;have ND:=gH.nd;have HU:=bV hr
 skip
 refine⟨_,(af (aS 7 ND (aN (aP T) hr aE (fa2 (fv 0) (aj aK aa (fv 6)))))
  (af (aS 8 ND (aj aK (aj aK (az K (az K (fv 5) (fv 6)) aa) (aX [58])) (az K (fv 1) (az K (az K (fv 5) (fv 6)) aa))))
  (af (aS 9 ND (aH (Cl rfl) rfl T.DQ Bd (fa3 (az K (bQ (Zr HU) (fv 4) (az K (az K (fv 5) (fv 6)) aa) (fun _ _=>rfl)) aa) (aj aK (aj eP (fv 3) aa) (aj a7 (fv 7) aa)) aa)))
  (af (aS 10 ND cI)
  (af (aW (L2.PW.pt (gr (aO (dm K HU) (aj a7 (aj a9 (fv 7) aa) aa) aa) (eh (aO (b8 K HU) (fv 6) aa)))) (ag (aS 10 ND (aj aK (aj aK (fv 9) aa) (aj a7 (aj a9 (fv 7) aa) aa)))) aL)
  hu5))))),fun D sc pn pc bs d p5 i x7 x8 x9 x10 svs q up x xs nx ns kvs uls ucu ufi uun G hS i0 h5 e5 hq hpn ex lup lnx hd hv hu f0 f1 b0 b1 k=>?_⟩
 have dget:=DGet.k (k:=.inr ⟨⟨up⟩⟩) hd;rw[hv]at dget;walk_at "rd";refine⟨ns,hS,by lia,fun c _=>⟨_,_,.inl (SqL.of h5),e5,?_⟩⟩;walk_at "rd";refine⟨_,_,.inr (SqT.of hq),av (j:=0) rfl,?_⟩;walk_at "rd";refine⟨by lia,_,_,.inl (SqL.of h5),e5,?_⟩;walk_at "rd";refine⟨_,_,.inr (SqT.of hq),av (j:=1) rfl,?_⟩;walk_at "rd";refine⟨_,_,.inl (SqL.of hpn),ex,?_⟩;walk_at "rd";refine⟨by rw[yw];show up.length+1+_<=_;lia,_,_,.inl (SqL.of h5),e5,?_⟩;walk_at "rd";refine⟨_,_,.inr (SqT.of hq),av (j:=0) rfl,?_⟩;walk_at "rd";refine⟨d,_,rfl,dget,?_⟩;walk_at "rd";refine⟨_,_,.inl (SqL.of hu),av (j:=1) rfl,?_⟩;walk_at "rd";intro m m1 m2 m3 m4;have mx:m<=145940:=by lia
 have no:=k c m none m1 m3 mx (fun t e=>nomatch e) fun _=>rfl;by_cases c1:c / 60 % 3=1
 ·refine itp c1 ?_
  by_cases i1:i=0
  ·exact itp i1 no
  ·refine itn i1 (k c m (some _) m1 m3 mx (fun t e=>?_) fun z=>absurd z i1)
   cases e;lia
 ·exact itn c1 no
end
open PySem L2 K19 K22
section
variable{P:Program}{w:World}{K:W.Frag}{mg:Str->Option Value}{base:Heap}{a:Adr}
open K3
theorem yY{ls:List (List Nat)}(nok:NmOk ls)(i:Nat)(hi:i<5):atI (ls.map L2.T) (i:Int)=some (L2.T (ls.getD i [])):=av (by
 have:i<ls.length:=by rw[nok.len];exact hi
 rw[List.getElem?_map,List.getElem?_eq_getElem this];simp[List.getD,List.getElem?_eq_getElem this])
def NL(H:Hp)(as:List La):Prop:=(as.map (·.ls)).Nodup/\∀x∈as,H x.ls=none
theorem NL.snoc{H:Hp}{as:List La}{x:La}(h:NL H as)(n:∀y∈as,y.ls≠x.ls)(f:H x.ls=none):NL H (as++[x]):=by
 refine⟨by rw[vd];exact dZ h.1 fun m=>by obtain⟨y,my,e⟩:=yH.mp m;exact n y my e,fun y m=>?_⟩;rcases y9.mp m with m|m
 ·exact h.2 y m
 ·rw[zL.mp m];exact f
def sp_BM(K:W.Frag):Sp:=sp1 fun x H Q _=>NoT H/\asR x fun sc=>∃ns:List Int,SqL K H sc (ns.map V.int)/\∀d as H',Same H H'->NoT H'->H d=none->H' d=some (.dK (as.map kyL))->AcAt H' d as->As7 as->NL H as->Q (.ref d) H'
theorem kH(T:Txt K mg a):Fo P w K mg base "_law_accounts" 3 (sp_BM K):=by
 refine T.lM.x1 b_ fun x0 fA cdv A outer s H Q E ND HU hr h=>?_;obtain⟨hN,h1⟩:=h;obtain⟨sc,rfl,ns,hS,k⟩:=asR.inv h1;have sz:=szl
 skip
 obtain⟨u5,hu5,k5⟩:=@bA5 P w K mg base a T (fA:=fA) (cdv:=cdv) (A:=A) (outer:=outer) (s:=s) (H:=H) (E:=E) hr;obtain⟨ub,hub,kb⟩:=bA0 T hr hu5;have c4:∃u,PSs (bW (XE P w) P w K mg base b_ "_law_accounts" (ae aV) fA cdv A outer s H E) (Ys 4 (aq aV)) u/\∀pn pc (bs:Int) d (ls cy:List (List Nat)) (as:List La) H1,0<=bs->bs<145900->H1 pn=some (.lst (ls.map L2.T))->NmOk ls->H1 pc=some (.lst (cy.map L2.T))->cy.length=3->(∀l∈cy,cur l=true)->H1 d=some (.dK (as.map kyL))->(∀x∈as,H1 x.ls=some (laL x))->AF (fun i=>ls.getD i []) as 2->Same H H1->NoT H1->H d=none->NL H as ->
  u { nx:=fun _ H'=>Q .non H',rt:=Q } (sgA sc pn pc bs d none none none none none none) H1:=by
  refine⟨_,(af (aS 5 ND (cX (fa5 (bJ (fa2 (az K (fv 1) aa) aa)) (bJ (fa2 (az K (fv 1) aa) aa)) (bJ (fa2 (az K (fv 1) aa) aa)) (bJ (fa2 (az K (fv 1) aa) aa)) (bJ (fa2 (aj aK (aj aK (az K (fv 1) aa) (aX [58])) (az K (fv 1) aa)) aa)))))
   (af (dt (by passes_own) rfl (iB rfl T.iJ (fa1 aa)) (aF (i:=6) ND rfl (Or.inl rfl)) hub)
   (ag (aJ (fv 4))))),fun pn pc bs d ls cy as H1 b0 b1 hpn nok hpc lcy ccy hd hls F s1 N1 hd0 nlA=>?_⟩
  have NFn:=NF.of nok;have l5:=nok.len;have at5:=yY nok;generalize hn:(fun i=>ls.getD i [])=n at F NFn;have en:∀i,ls.getD i []=n i:=fun i=>congrFun hn i;simp only[en]at at5 |-
  have pl:∀l∈P7 n,l.length<=100:=fun l m=>(NFn.po l m).len;have nl:∀i:Nat,i<5->(n i).length<=12:=fun i hi=>(ke (NFn.n_ i hi)).2.1;walk_at "rd";refine⟨_,_,.inl (SqL.of hpn),at5 0 (by decide),by walk_at "om",fun p0 h0=>?_⟩;obtain⟨G0,e0,s0,g0,N0⟩:=alloc (HO.tup [L2.T (n 0),V.int 2]) h0 N1 rfl;rw[e0];refine⟨_,_,.inl (SqL.of (s0 _ _ hpn)),at5 0 (by decide),by walk_at "om",fun p1 h1=>?_⟩;obtain⟨G1,e1,s11,g1,N11⟩:=alloc (HO.tup [L2.T (n 0),V.int 3]) h1 N0 rfl;rw[e1];have s01:=s0.trans s11;refine⟨_,_,.inl (SqL.of (s01 _ _ hpn)),at5 1 (by decide),by walk_at "om",fun p2 h2=>?_⟩;obtain⟨G2,e2,s12,g2,N12⟩:=alloc (HO.tup [L2.T (n 1),V.int 2]) h2 N11 rfl;rw[e2];have s02:=s01.trans s12;refine⟨_,_,.inl (SqL.of (s02 _ _ hpn)),at5 1 (by decide),by walk_at "om",fun p3 h3=>?_⟩;obtain⟨G3,e3,s13,g3,N13⟩:=alloc (HO.tup [L2.T (n 1),V.int 4]) h3 N12 rfl;rw[e3];have s03:=s02.trans s13;refine⟨_,_,.inl (SqL.of (s03 _ _ hpn)),at5 0 (by decide),?_⟩;have n0:=nl 0 (by decide);have n2:=nl 2 (by decide);walk_at "rd";refine⟨by lia,_,_,.inl (SqL.of (s03 _ _ hpn)),at5 2 (by decide),?_⟩;walk_at "rd";refine⟨by rw[yw];show(n 0).length+1+_<=_;lia,by walk_at "om",fun p4 h4=>?_⟩;obtain⟨G4,e4,s14,g4,N14⟩:=alloc (HO.tup [L2.T (n 0++[58]++n 2),V.int 0]) h4 N13 rfl;rw[e4];refine⟨by walk_at "om",fun p5 h5=>?_⟩;obtain⟨G5,e5,s15,g5,N15⟩:=alloc (HO.lst [V.ref p0,V.ref p1,V.ref p2,V.ref p3,V.ref p4]) h5 N14 rfl;rw[e5];have s45:=s14.trans s15;have s05:=s03.trans s45;have tab:∀i:Nat,i<5->∃q up x j,atI [V.ref p0,V.ref p1,V.ref p2,V.ref p3,V.ref p4] (0+(i:Int))=some (.ref q)/\G5 q=some (.tup [L2.T up,.int ((x:Nat):Int)])/\x<5/\j<=2/\j<2+i/\(P7 n)[j]? = some up/\(P7 n)[2+i]? = some (up++58::n x):=fun i hi=>by
   rw[Int.zero_add];rcases(by lia:i=0\/i=1\/i=2\/i=3\/i=4) with rfl|rfl|rfl|rfl|rfl
   ·exact⟨p0,n 0,2,0,av rfl,(s11.trans (s12.trans (s13.trans s45))) _ _ g0,by decide,by decide,by decide,rfl,rfl⟩
   ·exact⟨p1,n 0,3,0,av rfl,(s12.trans (s13.trans s45)) _ _ g1,by decide,by decide,by decide,rfl,rfl⟩
   ·exact⟨p2,n 1,2,1,av rfl,(s13.trans s45) _ _ g2,by decide,by decide,by decide,rfl,rfl⟩
   ·exact⟨p3,n 1,4,1,av rfl,s45 _ _ g3,by decide,by decide,by decide,rfl,rfl⟩
   ·refine⟨p4,n 0++58::n 2,0,2,av rfl,?_,by decide,by decide,by decide,rfl,rfl⟩
    have:=s15 _ _ g4;rw[YL]at this;exact this
  have od:∀ {p:Addr} {o:HO},G5 p=some o->(∀kvs,o ≠ .dK kvs)->p∉[d]:=fun {p o} e n m=>by
   rw[zL.mp m,s05 _ _ hd]at e;cases e;exact n _ rfl
  have lno:∀(l:List V) (kvs:List (Key × V)),HO.lst l ≠ .dK kvs:=fun _ _ z=>nomatch z;have hpn5:=s05 _ _ hpn;have hpc5:=s05 _ _ hpc;refine jw ?_;walk_at "rd";refine iA (lo:=0) (n:=5) (fun i σ' G=>Keep [d] G5 G/\NoT G/\∃as x6 x7 x8 x9 x10,G d=some (.dK (as.map kyL))/\(∀x∈as,G x.ls=some (laL x))/\AF n as (2+i)/\NL H as/\σ'=sgA sc pn pc bs d (some (.ref p5)) x6 x7 x8 x9 x10) ⟨Keep.refl,N15,as,_,_,_,_,_,s05 _ _ hd,fun x m=>s05 _ _ (hls x m),F,nlA,rfl⟩ ?_ ?_
  ·rintro i σ' G hi ⟨kp,nG,as,x6,x7,x8,x9,x10,hdG,hlG,FG,nlG,rfl⟩
   obtain⟨q,up,x,j,eq,hq,lx,j3,ji,ej,ex⟩:=tab i hi;obtain⟨u,hu,pu⟩:=FG.at_ ji ej;have mu:=xg hu;have hqG:=kp _ _ hq (od hq fun _ z=>nomatch z);have g5G:=kp _ _ g5 (od g5 (lno _));have hnG:=kp _ _ hpn5 (od hpn5 (lno _));have hcG:=kp _ _ hpc5 (od hpc5 (lno _));have sH:Same H G:=fun p o e=>kp _ _ (s05 _ _ (s1 _ _ e)) (by intro m;rw[zL.mp m,hd0]at e;cases e);have nd:=FG.ok.nd;have dget:=AcAt.val (H:=G) (d:=d) nd mu;rw[pu]at dget;have ou:=FG.ok j u hu;have e58:up++[58]++n x=up++58::n x:=by rw[YL];rfl
   walk_at "rd";refine kb _ sc pn pc bs d p5 _ _ _ _ _ _ q up x _ (n x) ns _ u.ls _ u.fi _ G (hS.same sH) (by lia) g5G eq hqG hnG (at5 x lx) (pl _ (xg ej)) (nl x lx) hdG dget (hlG u mu) ou.fi.1 ou.fi.2 b0 b1 fun c fi un f1 f2 f3 f4 f5=>?_;rw[e58];refine k5 _ sc pn pc bs d _ _ c _ fi un cy _ G nG hcG lcy ccy hdG (by rw[zK];have:=FG.len;lia) fun p cu hcu hp=>?_;have X:Ok1 as ⟨up++58::n x,cu,fi,un,p⟩:=⟨FG.nw NFn (x:=⟨up++58::n x,cu,fi,un,p⟩) ex,NFn.po _ (xg ex),⟨f2,f3⟩,f4,hcu,.inr ⟨u,n x,mu,by rw[pu],jC (NFn.n_ x lx),FG.un j u j3 hu,f1⟩⟩;rw[qz (x:=⟨up++58::n x,cu,fi,un,p⟩) X.nw];have pd:p≠d:=Ne.symm (aC hdG hp);refine⟨(kp.new hp).put (.head _),aA (aA nG rfl) rfl,_,_,_,_,_,_,ad,fun y my=>?_,FG.snoc ex X (fun h3=>f5 (by lia)) (fun h1=>by lia),nlG.snoc (fun y my z=>aC (hlG y my) hp z) (sH.free hp),rfl⟩;rcases y9.mp my with my|my
   ·have e:=hlG y my
    rw[ah (a6 e hdG),ah (aC e hp)];exact e
   ·rw[zL.mp my]
    exact(ah pd).trans ad
  ·rintro σ' G ⟨kp,nG,as,x6,x7,x8,x9,x10,hdG,hlG,FG,nlG,rfl⟩
   walk_at "rd";have sH:Same H G:=fun p o e=>kp _ _ (s05 _ _ (s1 _ _ e)) (by intro m;rw[zL.mp m,hd0]at e;cases e);have ln:=FG.len;refine k d as G sH nG hd0 hdG ⟨.inl hdG,hlG⟩ ⟨FG.ok,by lia,?_⟩ nlG
   match as,ln,FG.tp with
   |x::y::r,_,tp=>exact⟨x,y,r,rfl,tp 0 x (by decide) rfl,tp 1 y (by decide) rfl⟩
 obtain⟨u4,hu4,c4⟩:=c4;refine⟨_,(af (aS 1 ND (aN (on T) hr aE (fa1 (aN (aP T) hr aE (fa2 (fv 0) aa)))))
  (af (aS 2 ND (aN (fL T) hr aE (fa1 (aN (aP T) hr aE (fa2 (fv 0) aa)))))
  (af (aS 3 ND (aj a7 (aN (aP T) hr aE (fa2 (fv 0) aa)) aa))
  (af (aS 4 ND (Ci (tF (az K (fv 1) aa) (cX (fa3 cI aa cI)) (tF (az K (fv 1) aa) (cX (fa3 cI aa cI)) Ck)) rfl rfl (by simp) (by decide)))
  hu4)))),?_⟩
 walk_at "rd";refine⟨ns,hS,fun _ _=>⟨hN,fun pn H1 ls s1 N1 hpn0 hpn nok=>⟨ns,hS.same s1,fun _ _=>⟨N1,fun pc H2 cy s2 N2 hpc0 hpc lcy ccy _=>⟨ns,(hS.same s1).same s2,fun c _ d hd=>?_⟩⟩⟩⟩⟩;obtain⟨G0,e0,s0,g0,M0⟩:=alloc (HO.dK []) hd N2 rfl;rw[e0];have hp0:=s0 _ _ (s2 _ _ hpn);refine⟨_,_,.inl (SqL.of hp0),yY nok 0 (by decide),by walk_at "om",fun q0 f0=>?_⟩;obtain⟨G1,e1,s11,g1,M1⟩:=alloc (HO.lst [V.non,V.int 0,V.non]) f0 M0 rfl;rw[e1];refine⟨_,_,.inl (SqL.of (s11 _ _ hp0)),yY nok 1 (by decide),by walk_at "om",fun q1 f1=>?_⟩;obtain⟨G2,e2,s12,g2,M2⟩:=alloc (HO.lst [V.non,V.int 0,V.non]) f1 M1 rfl;rw[e2];have s02:=s11.trans s12;refine⟨s02 _ _ g0,[(.inr ⟨⟨ls.getD 0 []⟩⟩,.ref q0),(.inr ⟨⟨ls.getD 1 []⟩⟩,.ref q1)],rfl,by show 2<=15;decide,?_⟩;have NFn:=NF.of nok;have t0:∀q,Tp ⟨ls.getD 0 [],none,0,none,q⟩:=fun q=>⟨NFn.n_ 0 (by decide),rfl,rfl,rfl⟩;have t1:∀q,Tp ⟨ls.getD 1 [],none,0,none,q⟩:=fun q=>⟨NFn.n_ 1 (by decide),rfl,rfl,rfl⟩;have A0:AF (fun i=>ls.getD i []) [] 0:=⟨rfl,(fun _ _ e=>nomatch e),(fun _ _ _ e=>nomatch e),(fun _ _ _ e=>nomatch e),by decide⟩;have ok_:∀(as:List La) (x:La),Tp x->(∀y∈as,y.pa≠x.pa)->POk x.pa->Ok1 as x:=fun as x tp nw po=>⟨nw,po,by rw[tp.fi];decide,(fun t e=>by rw[tp.un]at e;cases e),(fun t e=>by rw[tp.cu]at e;cases e),.inl ⟨tp.nm,tp.fi,tp.un,tp.cu⟩⟩;have A1:=A0.snoc (x:=⟨ls.getD 0 [],none,0,none,q0⟩) rfl (ok_ _ _ (t0 q0) (fun _ z=>nomatch z) (NFn.po _ (.head _))) (fun _=>rfl) (fun _=>t0 q0);have A2':=A1.snoc (x:=⟨ls.getD 1 [],none,0,none,q1⟩) rfl (ok_ _ _ (t1 q1) (A1.nw NFn (x:=⟨ls.getD 1 [],none,0,none,q1⟩) rfl) (NFn.po _ (.tail _ (.head _)))) (fun _=>rfl) (fun _=>t1 q1);show u4 _ _ (upd G2 d (.dK (cW (cW (([]:List La).map kyL) (.inr ⟨⟨ls.getD 0 []⟩⟩) (.ref q0)) (.inr ⟨⟨ls.getD 1 []⟩⟩) (.ref q1))));have ek:=qz (as:=[]++[⟨ls.getD 0 [],none,0,none,q0⟩]) (x:=⟨ls.getD 1 [],none,0,none,q1⟩) (A1.nw NFn (x:=⟨ls.getD 1 [],none,0,none,q1⟩) rfl);rw[<- qz (as:=[]) (x:=⟨ls.getD 0 [],none,0,none,q0⟩) (fun _ z=>nomatch z)]at ek;rw[show cW (cW (([]:List La).map kyL) (.inr ⟨⟨ls.getD 0 []⟩⟩) (.ref q0)) (.inr ⟨⟨ls.getD 1 []⟩⟩) (.ref q1)=_ from ek];have g0':=s02 _ _ g0;have ol:∀ {p:Addr} {l:List V},G2 p=some (.lst l)->∀o,upd G2 d o p=some (.lst l):=fun {p l} e o=>(ah fun z=>by rw[z,g0']at e;cases e).trans e;have d0:H d=none:=s1.free (s2.free hd);refine c4 pn pc _ d ls cy _ _ (ZR _ (by decide)) (ZW _ (by decide)) (ol (s02 _ _ hp0) _) nok (ol (s02 _ _ (s0 _ _ hpc)) _) lcy ccy ad (fun x mx=>?_) A2' (fun p o e=>(ah (aC e d0)).trans ((s1.trans (s2.trans (s0.trans s02))) _ _ e)) (aA M2 rfl) d0 ?_
 rotate_left 1
 ·have fH:∀ {q:Addr},G0 q=none->H q=none:=fun e=>(s1.trans (s2.trans s0)).free e
  exact NL.snoc (as:=[]++[⟨ls.getD 0 [],none,0,none,q0⟩]) (NL.snoc (as:=[]) ⟨.nil,(fun _ z=>nomatch z)⟩ (fun _ z=>nomatch z) (fH f0)) (fun y my=>by rw[zL.mp my];exact aC g1 f1) (fH (s11.free f1))
 rcases zG.mp mx with rfl|mx
 ·exact ol (s12 _ _ g1) _
 ·rw[zL.mp mx];exact ol g2 _
end
open PySem L2 K19 K22
section
variable{P:Program}{w:World}{K:W.Frag}{mg:Str->Option Value}{base:Heap}{a:Adr}
open K3
structure CR(as:List La)(c:Acc)(x:La):Prop where
 pa:c.pa=x.pa
 cu:c.cu=cuV x.cu
 fi:c.fi=x.fi
 bu:c.be≠[]->x.un=none
 be:c.be≠[]->∃y∈as,∃n,y.pa=x.pa++58::n
structure CF(as:List La)(c:Acc)(x:La):Prop where
 pa:c.pa=x.pa
 cu:c.cu=cuV x.cu
 fi:c.fi=x.fi
 un:c.un=x.un
 be:c.be≠[]->∃y∈as,∃n,y.pa=x.pa++58::n
theorem BH{α β:Type}{R:α->β->Prop}{xs:List α}{ys:List β}(h:A2 R xs ys){x:α}(m:x∈xs):∃y∈ys,R x y:=by
 induction h with
 |nil=>cases m
 |cons r _ ih=>
  rcases zG.mp m with rfl|m
  ·exact⟨_,.head _,r⟩
  ·obtain⟨y,my,r⟩:=ih m;exact⟨y,.tail _ my,r⟩
theorem ya{α β:Type}{R:α->β->Prop}{xs:List α}{ys:List β}(h:A2 R xs ys){y:β}(m:y∈ys):∃x∈xs,R x y:=by
 induction h with
 |nil=>cases m
 |cons r _ ih=>
  rcases zG.mp m with rfl|m
  ·exact⟨_,.head _,r⟩
  ·obtain⟨y,my,r⟩:=ih m;exact⟨y,.tail _ my,r⟩
theorem qY{α β:Type}{R:α->β->Prop}{f:α->α}:∀ {xs:List α} {ys:List β},(∀x y,y∈ys->R x y->R (f x) y)->A2 R xs ys->A2 R (xs.map f) ys
 |_,_,_,.nil=>.nil
 |_,_,k,.cons r h=>.cons (k _ _ (.head _) r) (qY (fun x y m=>k x y (.tail _ m)) h)
theorem zq{al:List La}{cs:List Acc}{as:List La}{l:List Nat}{f:Acc->Acc}(hf:∀z,(f z).pa=z.pa/\(f z).cu=z.cu/\(f z).fi=z.fi)(hb:∀x∈as,x.pa=l->∀z:Acc,(f z).be≠[]->z.be≠[]\/(x.un=none/\∃y∈al,∃n,y.pa=x.pa++58::n))(h:A2 (CR al) cs as):A2 (CR al) (fO cs l f) as:=by
 refine qY (fun c x mx r=>?_) h;by_cases e:c.pa=l
 ·rw[if_pos e]
  refine⟨(hf c).1.trans r.pa,(hf c).2.1.trans r.cu,(hf c).2.2.trans r.fi,fun z=>?_,fun z=>?_⟩
  ·rcases hb x mx (r.pa.symm.trans e) c z with z|z
   ·exact r.bu z
   ·exact z.1
  ·rcases hb x mx (r.pa.symm.trans e) c z with z|z
   ·exact r.be z
   ·exact z.2
 ·rw[if_neg e];exact r
theorem wk{cs:List Acc}:∀ {as:List La} {R S:Acc->La->Prop},A2 R cs as->(∀(j:Nat) c x,cs[j]? = some c->as[j]? = some x->R c x->S c x)->A2 S cs as
 |_,_,_,.nil,_=>.nil
 |_,_,_,.cons r h,k=>.cons (k 0 _ _ rfl rfl r) (wk h fun j c x e1 e2=>k (j+1) c x e1 e2)
def OldK(H G:Hp)(d:Addr):Prop:=∀p o,H p=some o->p≠d->G p=some o
theorem OldK.keep{H G G':Hp}{d:Addr}{S:List Addr}(h:OldK H G d)(k:Keep S G G')(n:∀p∈S,H p=none):OldK H G' d:=fun p o e np=>k _ _ (h p o e np) fun m=>by rw[n p m]at e;cases e
theorem zh{cs:List Acc}{l:List Nat}(h:∀c∈cs,c.pa≠l):fnd cs l=none:=List.find?_eq_none.mpr fun c m=>by simpa using h c m
theorem Bj{as:List La}(nd:(as.map (·.pa)).Nodup){x y:La}(mx:x∈as)(my:y∈as)(e:x.pa=y.pa):x=y:=by
 induction as with
 |nil=>cases mx
 |cons z r ih=>
  rw[xx]at nd;obtain⟨n1,n2⟩:=Zd.mp nd;rcases zG.mp mx with rfl|mx1
  ·rcases zG.mp my with rfl|my1
   ·rfl
   ·exact absurd (by rw[e];exact xF (f:=(·.pa)) my1) n1
  ·rcases zG.mp my with rfl|my1
   ·exact absurd (by rw[<- e];exact xF (f:=(·.pa)) mx1) n1
   ·exact ih n2 mx1 my1
structure CI(C A:Addr)(H G:Hp)(d ch cd:Addr)(al:List La)(cs:List Acc)(as:List La)(n:Nat):Prop where
 old:OldK H G d
 nT:NoT G
 at_:CAt C A G ch cd cs
 cr:A2 (CR al) cs as
 fr:∀c∈cs,H c.ob=none/\H c.bl=none
 lb:∀c∈cs,c.be.length<=n
theorem CI.dict{C A:Addr}{H G:Hp}{d ch cd:Addr}{al:List La}{cs:List Acc}{as:List La}{n:Nat}{u:HO}(h:CI C A H G d ch cd al cs as n)(hd:H d=some u)(h1:H ch=none)(h2:H cd=none){o:HO}(f:ig o=true):CI C A H (upd G d o) d ch cd al cs as n:=by
 have ne:∀ {p:Addr},H p=none->p∉[d]:=fun e m=>by rw[zL.mp m,hd]at e;cases e
 exact⟨fun p z e np=>(ah np).trans (h.old p z e np),aA h.nT f,h.at_.keep (S:=[d]) (Keep.refl.put (.head _)) (ne h1) (ne h2) fun c m=>⟨ne (h.fr c m).1,ne (h.fr c m).2⟩,h.cr,h.fr,h.lb⟩
theorem AE{G:Hp}{as:List La}{i:Nat}{y v:V}(h:oO G (.dK (as.map kyL)) i y v):∃x,as[i]? = some x/\y=L2.T x.pa/\v = .ref x.ls:=by
 obtain⟨kk,e,rfl⟩:=h;rw[List.getElem?_map]at e;obtain⟨x,ex,e2⟩:=uE.mp e;cases e2;exact⟨x,ex,rfl,rfl⟩
theorem wB(x:V):wZ (zI "shut") [(zI "by_path",x)]=none:=by rw[aR (by decide +kernel)];rfl
theorem zZ(x:V):wZ (zI "add") [(zI "by_path",x)]=none:=by rw[aR (by decide +kernel)];rfl
theorem EZ(x:V):wZ (zI "add_top") [(zI "by_path",x)]=none:=by rw[aR (by decide +kernel)];rfl
theorem uL{G:Hp}{d:Addr}{o:Obj}{as:List La}(nd:(as.map (·.pa)).Nodup){x:La}(m:x∈as)(h:G d=some (.frz o (.dK (as.map kyL)))):DGet G d (L2.T x.pa) (some (.ref x.ls)):=
 .inl ⟨_,.inr ⟨⟨x.pa⟩⟩,.inr ⟨o,h⟩,rfl,(AcAt.val (H:=G) (d:=d) nd m).symm⟩
def sp_BP(C A:Addr):Sp:=sp1 fun x H Q _=>NoT H/\asR x fun d=>∃as,H d=some (.dK (as.map kyL))/\AcAt H d as/\As7 as/\∀ch cd cs H',CAt C A H' ch cd cs->A2 (CF as) cs as->(∀c∈cs,H c.ob=none/\H c.bl=none/\c.be.length<=7)->H ch=none->H cd=none->Same H H'->NoT H'->Q (.ref ch) H'
theorem oG(T:Txt K mg a):Fo P w K mg base "_law_chart" 8 (sp_BP a.aQ a.aI):=by
 refine T.qG.x1 ["_law_accounts_here","_law_chart_here","_law_path","_law_currency","_law_first","_law_until"] fun x0 fA cdv A outer s H Q E ND HU hr h=>?_;obtain⟨hN,h1⟩:=h;obtain⟨d,rfl,as,hd,AC,A7,k⟩:=asR.inv h1;have sz:=szl;have nd:=A7.ok.nd;have l7:=A7.len
 skip
 have c2:∃u,PSs (bW (XE P w) P w K mg base ["_law_accounts_here","_law_chart_here","_law_path","_law_currency","_law_first","_law_until"] "_law_chart" (ae (top 66)) fA cdv A outer s H E) (Ys 2 (aq (top 66))) u/\∀ch cd cs x2 x3 x4 x5 G,CI a.aQ a.aI H G d ch cd as cs as 7->(∀c∈cs,c.un=none)->G d=some (.dK (as.map kyL))->H ch=none->H cd=none ->
  u { nx:=fun _ H'=>Q .non H',rt:=Q } [some (.ref d),some (.ref ch),x2,x3,x4,x5] G:=by
  refine⟨_,(af (pP (dt (by passes_own) rfl (iC (fv 0)) (aF (i:=2) ND rfl (Or.inl rfl)) (ag (aW (cY (cD (az K (bQ (Zr HU) (fv 0) (fv 2) (fun _ _=>rfl)) aa))) (ag (bC (cj (fv 1) T.bg (iY T) (hr.mono (by decide)) aE (fa2 (fv 2) (az K (bQ (Zr HU) (fv 0) (fv 2) (fun _ _=>rfl)) aa))))) aL))))
   (ag (aJ (fv 1)))),fun ch cd cs x2 x3 x4 x5 G I un0 hdG hch0 hcd0=>Be ?_⟩
  walk_at "rd";refine⟨d,.dK (as.map kyL),rfl,rfl,.inl hdG,fun o _=>zi (fun i σ' G'=>G' d=some (.frz o (.dK (as.map kyL)))/\∃cs x2,CI a.aQ a.aI H G' d ch cd as cs as 7/\(∀j c,i<=j->cs[j]? = some c->c.un=none)/\(∀j c x,j<i->cs[j]? = some c->as[j]? = some x->c.un=x.un)/\σ'=[some (.ref d),some (.ref ch),x2,x3,x4,x5]) ⟨ad,cs,_,?_,(fun j c _ e=>un0 c (xg e)),(fun _ _ _ h=>absurd h (Nat.not_lt_zero _)),rfl⟩ (fun i σ' G' h=>h.1) ?_ ?_⟩
  ·exact I.dict hd hch0 hcd0 rfl
  ·rintro i y v σ' G' hi en ⟨hf,cs,x2,I,un,u2,rfl⟩
   obtain⟨x,ex,rfl,rfl⟩:=AE en;have mx:=xg ex;have ok:=A7.ok i x ex;have dg:=uL nd mx hf;have hx:G' x.ls=some (.lst [cuV x.cu,.int x.fi,cl x.un]):=I.old _ _ (AC.ls x mx) (a6 (AC.ls x mx) hd);have lp:=ok.po.len;obtain⟨dx,hch⟩:=I.at_.ob;walk_at "rd";refine⟨d,.ref x.ls,rfl,dg,?_⟩;walk_at "rd";refine⟨_,_,.inl (SqL.of hx),av (j:=2) rfl,?_⟩;cases eu:x.un with
   |none=>
    refine itp rfl ⟨hf,cs,_,I,(fun j c hj e=>un j c (by lia) e),(fun j c y hj e1 e2=>?_),rfl⟩;rcases Nat.lt_or_eq_of_le (Nat.le_of_lt_succ hj) with lt|rfl
    ·exact u2 j c y lt e1 e2
    ·rw[ex]at e2;cases e2
     rw[un j c (z4 _) e1,eu]
   |some t=>
    refine itn (by intro z;cases z) ?_;walk_at "rd";have ut:=ok.un t eu;obtain⟨c,hc,rc⟩:∃c,cs[i]? = some c/\CR as c x:=by
     have l1:=I.cr.len;have l2:=(List.getElem?_eq_some_iff.mp ex).1;have hi:i<cs.length:=by lia
     obtain⟨y,ey,r⟩:=I.cr.at_ (List.getElem?_eq_getElem hi);rw[ex]at ey;cases ey;exact⟨cs[i],List.getElem?_eq_getElem hi,r⟩
    have mc:=xg hc;have fx:=ok.fi;have be0:c.be=[]:=by
     cases eb:c.be with
     |nil=>rfl
     |cons _ _=>have:=rc.bu (by rw[eb];intro z;cases z);rw[eu]at this;cases this
    have eV:cl (some t)=V.int t:=rfl;rw[eu,eV]at hx;refine⟨dx,_,hch,wB _,d,.ref x.ls,rfl,dg,?_⟩;walk_at "rd";refine⟨_,_,.inl (SqL.of hx),av (j:=2) rfl,I.nT,⟨ok.po.lo,by lia⟩,?_⟩;walk_at "rd";refine⟨⟨by lia,ut.2⟩,cd,cs,c,I.at_,mc,rc.pa,ok.po.pn,un i c (z4 _) hc,by rw[rc.fi];exact ut.1,be0,fun H2 J2 K2 N2=>?_⟩;have nob:∀p∈cs.map (·.ob),H p=none:=fun p m=>by
     obtain⟨z,mz,rfl⟩:=yH.mp m;exact(I.fr z mz).1
    have fr2:∀z∈fO cs x.pa (shu t),∃y∈cs,z.ob=y.ob/\z.bl=y.bl/\z.be=y.be:=fun z mz=>by
     obtain⟨y,my,e⟩:=eI mz;refine⟨y,my,?_⟩;rw[e];split <;> exact⟨rfl,rfl,rfl⟩
    refine⟨K2 _ _ hf (fun m=>by rw[nob _ m]at hd;cases hd),_,_,⟨I.old.keep K2 nob,N2,J2,zq (fun _=>⟨rfl,rfl,rfl⟩) (fun y my ey z hz=>.inl hz) I.cr,fun z mz=>?_,fun z mz=>?_⟩,(fun j z hj e=>?_),(fun j z y hj e e3=>?_),rfl⟩
    ·obtain⟨y,my,e1,e2,_⟩:=fr2 z mz
     rw[e1,e2];exact I.fr y my
    ·obtain⟨y,my,_,_,e3⟩:=fr2 z mz
     rw[e3];exact I.lb y my
    ·unfold fO at e
     rw[List.getElem?_map]at e;obtain⟨y,ey,rfl⟩:=uE.mp e;obtain⟨w1,ew,r1⟩:=I.cr.at_ ey;have ne:¬ y.pa=x.pa:=fun z=>by
      have:=(A7.ok j w1 ew).nw x (by
       rw[List.mem_iff_getElem?];exact⟨i,by rw[List.getElem?_take,if_pos (by lia)];exact ex⟩)
      exact this (z.symm.trans r1.pa)
     rw[if_neg ne];exact un j y (by lia) ey
    ·unfold fO at e
     rw[List.getElem?_map]at e;obtain⟨y',ey,rfl⟩:=uE.mp e;rcases Nat.lt_or_eq_of_le (Nat.le_of_lt_succ hj) with lt|rfl
     ·obtain⟨w1,ew,r1⟩:=I.cr.at_ ey
      have ne:¬ y'.pa=x.pa:=fun z=>by
       refine ok.nw w1 ?_ (r1.pa.symm.trans z);rw[List.mem_iff_getElem?];exact⟨j,by rw[List.getElem?_take,if_pos lt];exact ew⟩
      rw[if_neg ne];exact u2 j y' y lt ey e3
     ·rw[ex]at e3;cases e3
      rw[hc]at ey;cases ey;rw[if_pos rc.pa,eu];rfl
  ·rintro σ' G' ⟨hf,cs,x2,I,un,u2,rfl⟩
   walk_at "rd";refine⟨d,o,_,hf,.inl ⟨hdG,rfl,?_⟩⟩;have I2:=I.dict (o:=.dK (as.map kyL)) hd hch0 hcd0 rfl;refine k ch cd cs _ I2.at_ (wk I2.cr fun j c x e1 e2 r=>⟨r.pa,r.cu,r.fi,u2 j c x ?_ e1 e2,r.be⟩) (fun c m=>⟨(I2.fr c m).1,(I2.fr c m).2,I2.lb c m⟩) hch0 hcd0 (fun p z e=>?_) I2.nT
   ·have:=(List.getElem?_eq_some_iff.mp e2).1
    show j<(as.map kyL).length;rw[zK];exact this
   ·by_cases hp:p=d
    ·rw[hp,ad];rw[hp,hd]at e;exact e
    ·exact I2.old p z e hp
 obtain⟨u2,hu2,c2⟩:=c2;refine⟨_,(af (aS 1 ND (vK T.zF (jI T) (hr.mono (by decide)) rfl T.Dh aE))
  (af (pP (dt (by passes_own) rfl (iC (fv 0)) (aF (i:=2) ND rfl (Or.inl rfl)) (af (nJ (bQ (Zr HU) (fv 0) (fv 2) (fun _ _=>rfl)) (vU K (n:=3) rfl (aU (aF (i:=3) ND rfl (Or.inl rfl)) (aU (aF (i:=4) ND rfl (Or.inl rfl)) (aU (aF (i:=5) ND rfl (Or.inl rfl)) dP)))))
  (ag (aW (jk DD (aX [58]) (fv 2) (by with_unfolding_all rfl)) (ag (bC (cj (fv 1) T.bg (jJ T) (hr.mono (by decide)) aE (fa3 (fv 2) (fv 3) (fv 4))))) (ag (bC (cj (fv 1) T.bg (kX T) (hr.mono (by decide)) aE (fa2 (fv 2) (aX [104,97,118,101]))))))))))
  hu2)),?_⟩
 walk_at "rd";intro ch dx hch hdx ndx;refine⟨aA (aA hN rfl) rfl,dx,ad,fun cd H1 hcd J1 kp N1=>Be ?_⟩;have k0:=gN hch hdx kp;have hcd0:=d4 hcd;walk_at "rd";have I0:CI a.aQ a.aI H H1 d ch cd as [] (as.take 0) 0:=⟨fun p o e _=>k0 _ _ e xz,N1,J1,.nil,(fun _ m=>nomatch m),fun _ m=>nomatch m⟩;refine⟨d,.dK (as.map kyL),rfl,rfl,.inl (k0 _ _ hd xz),fun o _=>zi (fun i σ' G'=>G' d=some (.frz o (.dK (as.map kyL)))/\∃cs x2 x3 x4 x5,CI a.aQ a.aI H G' d ch cd as cs (as.take i) i/\(∀c∈cs,c.un=none)/\σ'=[some (.ref d),some (.ref ch),x2,x3,x4,x5]) ⟨ad,[],_,_,_,_,I0.dict hd hch hcd0 rfl,(fun _ m=>nomatch m),rfl⟩ (fun i σ' G' h=>h.1) ?_ ?_⟩
 ·rintro i y v σ' G' hi en ⟨hf,cs,x2,x3,x4,x5,I,un,rfl⟩
  obtain⟨x,ex,rfl,rfl⟩:=AE en;have mx:=xg ex;have ok:=A7.ok i x ex;have dg:=uL nd mx hf;have hx:G' x.ls=some (.lst [cuV x.cu,.int x.fi,cl x.un]):=I.old _ _ (AC.ls x mx) (a6 (AC.ls x mx) hd);have lp:=ok.po.len;obtain⟨dx,hch1⟩:=I.at_.ob;have i8:i<as.length:=(List.getElem?_eq_some_iff.mp ex).1;have lc:cs.length<=8:=by have:=I.cr.len;rw[qW]at this;lia
  have ef:fnd cs x.pa=none:=zh fun c mc e=>by
   obtain⟨z,mz,r⟩:=BH I.cr mc;exact ok.nw z mz (r.pa.symm.trans e)
  have et:as.take (i+1)=as.take i++[x]:=by rw[Yc,ex];rfl
  walk_at "rd";refine⟨d,.ref x.ls,rfl,dg,x.ls,_,rfl,SqL.of hx,rfl,?_⟩;walk_at "rd";refine⟨_,_,⟨rfl,rfl⟩,_,_,rfl,_,_,rfl,rfl,?_⟩;have fre:∀ {p:Addr},G' p=none->H p=none:=fun {p} e=>by
   cases e1:H p with
   |none=>rfl
   |some z=>
    by_cases hp:p=d
    ·rw[hp,hf]at e;cases e
    ·rw[I.old p z e1 hp]at e;cases e
  have sub:∀ {y:La},y∈as.take i->y∈as:=fun m=>Xk m;rcases ok.st with ⟨t1,t2,t3,t4⟩|⟨u,n,mu,ep,n58,uu,uf⟩
  ·refine itn (fun z=>jC t1 (of_decide_eq_true z)) ?_
   walk_at "rd";refine⟨dx,_,hch1,EZ _,I.nT,t1,(by decide),cd,cs,I.at_,by lia,ef,fun c H2 p1 p2 p3 p4 p5 p6 p7 J2 K2 N2=>?_⟩;refine⟨K2 _ _ hf (fun m=>by rw[zL.mp m,hcd0]at hd;cases hd),_,_,_,_,_,⟨I.old.keep K2 (fun p m=>by rw[zL.mp m];exact hcd0),N2,J2,?_,fun z mz=>?_,fun z mz=>?_⟩,fun z mz=>?_,rfl,rfl,rfl,rfl⟩
   ·rw[et];exact I.cr.snoc ⟨p1,by rw[p2,t4];rfl,p3.trans t2.symm,(fun z=>absurd p5 z),fun z=>absurd p5 z⟩
   ·rcases y9.mp mz with mz|mz
    ·exact I.fr z mz
    ·rw[zL.mp mz];exact⟨fre p6,fre p7⟩
   ·rcases y9.mp mz with mz|mz
    ·have:=I.lb z mz;lia
    ·rw[zL.mp mz,p5];exact ud _
   ·rcases y9.mp mz with mz|mz
    ·exact un z mz
    ·rw[zL.mp mz];exact p4
  ·obtain⟨cu',mcu,rcu⟩:=ya I.cr mu
   refine itp (by rw[ep];simp) ?_;walk_at "rd";have hc:cuV x.cu=V.non\/∃cl,cuV x.cu=L2.T cl/\cur cl=true:=by
    cases ec:x.cu with
    |none=>exact .inl rfl
    |some l=>exact .inr ⟨l,rfl,ok.cu l ec⟩
   have fx:=ok.fi;have ncl:∀p∈cd::cs.map (·.bl),H p=none:=fun p m=>by
    rcases zG.mp m with rfl|m
    ·exact hcd0
    ·obtain⟨z,mz,rfl⟩:=yH.mp m
     exact(I.fr z mz).2
   refine⟨dx,_,hch1,zZ _,I.nT,⟨ok.po.lo,by lia⟩,hc,⟨fx.1,by lia⟩,u.pa,n,cd,cs,cu',ep,n58,ok.po.pn,I.at_,by lia,(fun c m=>by have:=I.lb c m;lia),ef,mcu,rcu.pa,un cu' mcu,by rw[rcu.fi];exact uf,fun c H2 p1 p2 p3 p4 p5 p6 p7 J2 K2 N2=>?_⟩;have fr2:∀z∈fO cs u.pa (grw x.pa),∃y∈cs,z.ob=y.ob/\z.bl=y.bl/\z.un=y.un/\z.be.length<=y.be.length+1:=fun z mz=>by
    obtain⟨y,my,e⟩:=eI mz;refine⟨y,my,?_⟩;rw[e];split
    ·exact⟨rfl,rfl,rfl,by show(y.be++[x.pa]).length<=_;rw[yw];exact z4 _⟩
    ·exact⟨rfl,rfl,rfl,Z6 _⟩
   refine⟨K2 _ _ hf (fun m=>by rw[ncl _ m]at hd;cases hd),_,_,_,_,_,⟨I.old.keep K2 ncl,N2,J2,?_,fun z mz=>?_,fun z mz=>?_⟩,fun z mz=>?_,rfl,rfl,rfl,rfl⟩
   ·rw[et]
    refine(zq (f:=grw x.pa) (fun _=>⟨rfl,rfl,rfl⟩) (fun y my ey z hz=>.inr ⟨?_,x,mx,n,?_⟩) I.cr).snoc ⟨p1,p2,p3,(fun z=>absurd p5 z),fun z=>absurd p5 z⟩
    ·rw[Bj nd (sub my) (sub mu) ey];exact uu
    ·rw[ep,ey]
   ·rcases y9.mp mz with mz|mz
    ·obtain⟨y,my,e1,e2,_⟩:=fr2 z mz
     rw[e1,e2];exact I.fr y my
    ·rw[zL.mp mz];exact⟨fre p6,fre p7⟩
   ·rcases y9.mp mz with mz|mz
    ·obtain⟨y,my,_,_,_,e3⟩:=fr2 z mz
     have:=I.lb y my;lia
    ·rw[zL.mp mz,p5];exact ud _
   ·rcases y9.mp mz with mz|mz
    ·obtain⟨y,my,_,_,e3,_⟩:=fr2 z mz
     rw[e3];exact un y my
    ·rw[zL.mp mz];exact p4
 ·rintro σ' G' ⟨hf,cs,x2,x3,x4,x5,I,un,rfl⟩
  walk_at "rd";refine⟨d,o,_,hf,.inl ⟨k0 _ _ hd xz,rfl,?_⟩⟩;have el:as.take (fN (.dK (as.map kyL)))=as:=Zc (by show _<=(as.map kyL).length;rw[zK];exact z4 _);rw[el]at I;have ln:fN (.dK (as.map kyL))=as.length:=zK ..;have I2:=I.dict (o:=.dK (as.map kyL)) hd hch hcd0 rfl;exact c2 ch cd cs _ _ _ _ _ ⟨I2.old,I2.nT,I2.at_,I2.cr,I2.fr,fun c m=>by have:=I2.lb c m;lia⟩ un ad hch hcd0
end
open PySem L2 K19 K22
section
variable{P:Program}{w:World}{K:W.Frag}{mg:Str->Option Value}{base:Heap}{a:Adr}
open K3
structure AsI(as:List La)(m:Nat):Prop where
 nd:(as.map (·.pa)).Nodup
 len:as.length<=m
 ok:∀x∈as,POk x.pa/\(0<=x.fi/\x.fi<=145994)/\∀l,x.cu=some l->cur l=true
 top:∃x y r,as=x::y::r/\Tp x/\Tp y
theorem As7.I{as:List La}(h:As7 as):AsI as 7:=⟨h.ok.nd,h.len,fun x m=>by
 obtain⟨i,e⟩:=List.getElem?_of_mem m;have o:=h.ok i x e;exact⟨o.po,⟨o.fi.1,by have:=o.fi.2;lia⟩,o.cu⟩,h.top⟩
def sp_CB:Sp:=sp3 fun x y z H Q _=>NoT H/\asR x fun d=>asT y fun l=>asI z fun day=>∃as x,AcAt H d as/\(as.map (·.pa)).Nodup/\x∈as/\x.pa=l/\Q (.bl (opn x.fi x.un day)) H
theorem hV(T:Txt K mg a):Fo P w K mg base "_law_is_open" 1 sp_CB:=by
 refine T.mF.g3 ["_law_accounts_here","_law_path","_law_day_here","_law_first","_law_until"] fun x0 x1 x2 fA cdv A outer s H Q E ND HU hr h=>?_;obtain⟨hN,h1⟩:=h;obtain⟨d,rfl,h2⟩:=asR.inv h1;obtain⟨l,rfl,h3⟩:=asT.inv h2;obtain⟨day,rfl,as,x,AC,nd,mx,rfl,k⟩:=asI.inv h3;have sz:=szl;refine⟨hN,_,(af (nJ (ci (nn K) (bQ (Zr HU) (fv 0) (fv 1) (fun _ _=>rfl)) (c8 aa) da) (vU K (n:=2) rfl (aU (aF (i:=3) ND rfl (Or.inl rfl)) (aU (aF (i:=4) ND rfl (Or.inl rfl)) dP))))
  (ag (aJ (dJ (eY eF (fv 3) (fv 2) (gm _)) (d6 (Am (pH (j_ (fv 4))) (d6 (eY nP (fv 2) (fv 4) (gm _))))))))),?_⟩
 walk_at "rd";refine⟨d,.ref x.ls,rfl,AC.get nd mx,?_⟩;walk_at "rd";refine⟨x.ls,_,rfl,SqL.of (AC.ls x mx),fun p hp=>?_⟩;have s1:=au (HO.lst (h_ [cuV x.cu,V.int x.fi,cl x.un] (some 1) none)) hp;have g1:upd H p (HO.lst (h_ [cuV x.cu,V.int x.fi,cl x.un] (some 1) none)) p=some (HO.lst [V.int x.fi,cl x.un]):=ad.trans rfl;generalize upd H p (HO.lst (h_ [cuV x.cu,V.int x.fi,cl x.un] (some 1) none))=G1 at s1 g1 |-
 refine⟨p,[V.int x.fi,cl x.un],rfl,SqL.of g1,rfl,_,_,rfl,_,_,rfl,rfl,?_⟩;walk_at "rd";have fin:∀b:Bool,opn x.fi x.un day=b->∃G,Gc H G G1/\Q (.bl b) G:=fun b e=>⟨H,Gc.none s1,by rw[<- e];exact k⟩;by_cases h1:x.fi<=day
 ·refine itp h1 ?_
  have e1:opn x.fi x.un day=lat x.un day:=by unfold opn;rw[decide_eq_true h1];rfl
  cases eu:x.un with
  |none=>exact itp rfl (fin _ (by rw[e1,eu];rfl))
  |some t=>exact itn (by intro z;cases z) (fin _ (by rw[e1,eu];rfl))
 ·refine itn h1 (fin _ ?_)
  unfold opn;rw[decide_eq_false h1];rfl
def qv(as:List La)(q:La->Bool)(v:V):Bool:=as.any fun x=>decide (v=L2.T x.pa)&&q x
theorem jg{as:List La}{q:La->Bool}(nd:(as.map (·.pa)).Nodup){x:La}(m:x∈as):qv as q (L2.T x.pa)=q x:=by
 unfold qv;cases e:q x with
 |true=>exact List.any_eq_true.mpr ⟨x,m,by rw[e,decide_eq_true rfl];rfl⟩
 |false=>
  refine List.any_eq_false.mpr fun y my=>?_;by_cases h:L2.T x.pa=L2.T y.pa
  ·have hp:x.pa=y.pa:=by simpa using h
   rw[<- Bj nd m my hp,e,Bool.and_false];decide
  ·rw[decide_eq_false h,Bool.false_and];decide
def tk(as:List La)(day:Int)(cy:List Nat)(v:V):Bool:=qv as (fun x=>opn x.fi x.un day&&inV (cuV x.cu) [.non,L2.T cy]) v
theorem DU{as:List La}{day:Int}{cy:List Nat}(nd:(as.map (·.pa)).Nodup){x:La}(m:x∈as):tk as day cy (L2.T x.pa)=(opn x.fi x.un day&&inV (cuV x.cu) [.non,L2.T cy]):=jg nd m
theorem v3{G:Hp}{p pr:Addr}{ys:List V}{rs:List Row}(r:Row)(hpr:G pr=some (.lst ys))(hp:G p=none)(ay:A2 (RwAt G) ys rs)(nG:NoT G) :
 Keep [pr] G (upd (upd G p (.tup [L2.T r.pa,L2.T r.cu,.int r.am])) pr (.lst (ys++[.ref p])))/\NoT (upd (upd G p (.tup [L2.T r.pa,L2.T r.cu,.int r.am])) pr (.lst (ys++[.ref p])))/\upd (upd G p (.tup [L2.T r.pa,L2.T r.cu,.int r.am])) pr (.lst (ys++[.ref p])) pr=some (.lst (ys++[.ref p]))/\A2 (RwAt (upd (upd G p (.tup [L2.T r.pa,L2.T r.cu,.int r.am])) pr (.lst (ys++[.ref p])))) (ys++[.ref p]) (rs++[r]):=by
 have kG:Keep [pr] G (upd (upd G p (.tup [L2.T r.pa,L2.T r.cu,.int r.am])) pr (.lst (ys++[.ref p]))):=(Keep.refl.new hp).put (.head _);exact⟨kG,aA (aA nG rfl) rfl,ad,(gt kG (LW.one hpr) ay).snoc ⟨p,rfl,(ah (Ne.symm (aC hpr hp))).trans ad⟩⟩
def sp_y9:Sp:=sp3 fun x y z H Q _=>NoT H/\asR x fun d=>asI y fun day=>asT z fun cy=>0<=day/\∃as m,H d=some (.dK (as.map kyL))/\AcAt H d as/\AsI as m/\m<=100/\∀q vs H',H q=none->H' q=some (.lst vs)->vs≠[]->vs.length<=m->(∀v∈vs,∃x∈as,v=L2.T x.pa)->Same H H'->NoT H'->Q (.ref q) H'
theorem oC(T:Txt K mg a):Fo P w K mg base "_law_paths" 2 sp_y9:=by
 refine T.qE.x3 ["_law_accounts_here","_law_day_here","_law_currency"] fun x0 x1 x2 fA cdv A outer s H Q E ND HU hr h=>?_;obtain⟨hN,h1⟩:=h;obtain⟨d,rfl,h2⟩:=asR.inv h1;obtain⟨day,rfl,h3⟩:=asI.inv h2;obtain⟨c1,rfl,d0,as,m,hd,AC,AI,m100,k⟩:=asT.inv h3;have sz:=szl;have nd:=AI.nd;have lm:=AI.len;refine⟨_,(ag (aJ (qh (br rfl (cl:=_) (x:="_law_path") (xs:=["_law_path"]) (fr:=["_law_accounts_here","_law_day_here","_law_currency"]) (ks:=[0,1,2]) (by walk_at "cq") rfl (iC (fv 0)) (fun _ _ _ _ _=>(aF (i:=0) (bX (l:=["_law_path","_law_accounts_here","_law_day_here","_law_currency"]) (by decide)) rfl (Or.inl rfl))) (fun _ _ _ _ _=>(dO (jH (L2.PW.pt (gr (bv (aN (hV T) hr tR (fa3 (fv 1) (fv 0) (fv 2)))) (eh (jk (EE K) (az K (bQ (Zr HU) (fv 1) (fv 0) (fun _ _=>rfl)) aa) (bJ (fa2 cI (fv 3))) (by with_unfolding_all rfl)))))))) (fun _ _ _ _ _=>(fv 0)))))),?_⟩;walk_at "rd";refine cmK d (as.map kyL) (tk as day c1) (fun v=>v) (fun R r=>r) (.inl hd) (by rw[zK,uS];lia) (fun v mv D ys o R hD nD r=>?_) (fun v mv _ D ys o R hD nD r=>r) fun D hD=>?_
 ·have eV:∃x∈as,v=L2.T x.pa:=by
   obtain⟨e,me,rfl⟩:=yH.mp mv;obtain⟨x,mx,rfl⟩:=yH.mp me;exact⟨x,mx,rfl⟩
  obtain⟨x,mx,rfl⟩:=eV;have et:tk as day c1 (L2.T x.pa)=(opn x.fi x.un day&&inV (cuV x.cu) [.non,L2.T c1]):=DU nd mx;rw[et]at r;have nG:NoT (upd (upd H d (HO.frz o (HO.dK (as.map kyL)))) D (HO.lst ys)):=aA (aA hN rfl) rfl;have AG:AcAt (upd (upd H d (HO.frz o (HO.dK (as.map kyL)))) D (HO.lst ys)) d as:=⟨.inr ⟨o,(ah (Ne.symm nD)).trans ad⟩,fun y my=>by
   have e:=AC.ls y my;rw[ah (aC e hD),ah (a6 e hd)];exact e⟩
  generalize upd (upd H d (HO.frz o (HO.dK (as.map kyL)))) D (HO.lst ys)=G at r nG AG |-
  walk_at "rd";refine⟨nG,nG,as,x,AG,nd,mx,rfl,?_⟩;cases eo:opn x.fi x.un day with
  |false=>
   rw[eo,Bool.false_and]at r;exact itn (by decide) r
  |true=>
   rw[eo,Yh]at r;refine itp rfl ⟨d,.ref x.ls,rfl,AG.get nd mx,?_⟩;walk_at "rd";exact⟨_,_,.inl (SqL.of (AG.ls x mx)),av (j:=0) rfl,by walk_at "om",fun p hp=>⟨_,.inr (SqT.of ad),by cases x.cu <;> rfl,rfl,G,Gc.none (au _ hp),r⟩⟩
 ·have vin:∀v∈((as.map kyL).map fun e=>kV e.1).filter (tk as day c1),∃x∈as,v=L2.T x.pa:=fun v m=>by
   obtain⟨e,me,rfl⟩:=yH.mp (Z7.mp m).1;obtain⟨x,mx,rfl⟩:=yH.mp me;exact⟨x,mx,rfl⟩
  have vne:L2.T ((as.map (·.pa)).headD [])∈((as.map kyL).map fun e=>kV e.1).filter (tk as day c1):=by
   obtain⟨x,y,r,rfl,tx,_⟩:=AI.top;refine Z7.mpr ⟨.head _,?_⟩;show tk _ day c1 (L2.T x.pa)=true;rw[DU nd (.head _),tx.cu,tx.fi,tx.un];unfold opn;rw[decide_eq_true d0];rfl
  have vl:(((as.map kyL).map fun e=>kV e.1).filter (tk as day c1)).length<=m:=uM (Zf _ _) (by rw[zK,zK];exact lm);rw[show ∀l:List V,l.map (fun v=>v)=l from fun l=>Y0 l];exact k D _ _ hD ad (List.ne_nil_of_mem vne) vl vin (au _ hD) (aA hN rfl)
end
open PySem L2 K19 K22
section
variable{P:Program}{w:World}{K:W.Frag}{mg:Str->Option Value}{base:Heap}{a:Adr}
open K3
abbrev sgE(sc:Addr)(fs:Int)(d:Addr)(day cell:Int)(pr:Addr)(x6 x7 x8 x9 x10 x11 x12 x13:Option V):St:=[some (.ref sc),some (.int fs),some (.ref d),some (.int day),some (.int cell),some (.ref pr),x6,x7,x8,x9,x10,x11,x12,x13]
noncomputable abbrev Aa:List Stmt:=Fz ((aq aZ).getD 2 (.Pass ⟨0,0,0,0⟩))
def CyI(ns:List Int)(l:List Nat):Prop:=∃ls,CurOf (cA ns 1) ls/\l∈ls/\ls.length=3/\cur l=true
structure RwL(ns:List Int)(as:List La)(r:Row):Prop where
 pa:∃x∈as,x.pa=r.pa
 cu:CyI ns r.cu
 am:r.am≠0 /\ -400000000000000<=r.am/\r.am<=400000000000000
theorem Bu{as:List La}{vs:List V}(ne:vs≠[])(vin:∀v∈vs,∃x∈as,v=L2.T x.pa)(x:Int):∃y∈as,atI vs (x % (vs.length:Int))=some (L2.T y.pa):=by
 have p1:=YC.mpr ne;have p0:(0:Int)<vs.length:=by lia
 obtain⟨j,e⟩:=ZT (ZR x (Int.ne_of_gt p0));have b:=ZW x p0;rw[e]at b |-
 have hj:j<vs.length:=by lia
 obtain⟨y,my,ey⟩:=vin vs[j] (YB hj);exact⟨y,my,by rw[<- ey];exact av (List.getElem?_eq_getElem hj)⟩
theorem vO{x c:Int}(h:1<=x/\x<=400000000000000):(x*(1-2*(c / 24 % 2))≠0 /\ -400000000000000<=x*(1-2*(c / 24 % 2))/\x*(1-2*(c / 24 % 2))<=400000000000000)/\((0-x)*(1-2*(c / 24 % 2))≠0 /\ -400000000000000<=(0-x)*(1-2*(c / 24 % 2))/\(0-x)*(1-2*(c / 24 % 2))<=400000000000000):=by
 rcases(by lia:c / 24 % 2=0\/c / 24 % 2=1) with e|e <;> rw[e] <;> lia
theorem bE6(T:Txt K mg a){fA:Addr}{cdv:Value}{A:Around}{outer:List Env}{s:Shared}{H:Hp}{E:XK}(hr:Room 2 (A.deeper (ZO "_law_even_rows" (ae aZ) s.heap.objs.size fA cdv))):∃u,PSs (bW (XE P w) P w K mg base cQ "_law_even_rows" (ae aZ) fA cdv A outer s H E) (Ys 6 Aa) u /\
 ∀(D:eO) sc fs d day cell pr x6 (more:Int) c1 pp (most:Int) x12 x13 (ns:List Int) (as:List La) pv ys rs G,NoT G->G pp=some (.lst pv)->pv≠[]->pv.length<=100->(∀v∈pv,∃x∈as,v=L2.T x.pa)->G pr=some (.lst ys)->A2 (RwAt G) ys rs->rs.length<=100->pp≠pr->0<most->most<=100000000000000->CyI ns c1 ->
  (∀x11 x12 x13 ys' rs' G',Keep [pr] G G'->NoT G'->G' pr=some (.lst ys')->A2 (RwAt G') ys' rs'->rs.length+2<=rs'.length->rs'.length<=rs.length+4->(∀r∈rs',r∈rs\/RwL ns as r)->D.nx (sgE sc fs d day cell pr x6 (some (.int more)) (some (L2.T c1)) (some (.ref pp)) (some (.int most)) x11 x12 x13) G') ->
  u D (sgE sc fs d day cell pr x6 (some (.int more)) (some (L2.T c1)) (some (.ref pp)) (some (.int most)) (some (.int 0)) x12 x13) G:=by
 have sz:=szl;have ND:=fW.nd;have HU:=bV hr;refine⟨_,(af (dt (by passes_own) rfl (iB rfl T.iJ (fa1 (aj aK aa (aj a7 (aj a9 (fv 7) aa) aa)))) (aF (i:=12) ND rfl (Or.inl rfl)) (af (aS 13 ND (aj aK aa (aj a7 (aj aK (aj a9 (fv 7) (aj aK aa (aj dl aa (fv 12)))) (aj dl aa (fv 12))) (fv 10))))
  (af (aS 11 ND (aj aK (fv 11) (fv 13)))
  (ag (bC (eQ K ZA ZH ZI d8 (fv 5) (fa1 (bJ (fa3 (az K (fv 9) (aj a7 (aj a9 (fv 7) (aj aK aa (aj dl aa (fv 12)))) (aH (bj K) rfl T.cp bD (fa1 (fv 9))))) (fv 8) (aj dl (fv 13) (aj eP aa (aj dl aa (aj a7 (aj a9 (fv 4) aa) aa)))))))))))))
  (ag (bC (eQ K ZA ZH ZI d8 (fv 5) (fa1 (bJ (fa3 (az K (fv 9) (aj a7 (aj a9 (fv 7) aa) (aH (bj K) rfl T.cp bD (fa1 (fv 9))))) (fv 8) (aj dl (aj eP aa (fv 11)) (aj eP aa (aj dl aa (aj a7 (aj a9 (fv 4) aa) aa))))))))))),fun D sc fs d day cell pr x6 more c1 pp most x12 x13 ns as pv ys rs G nG hpp pne ppl pin hpr ay lrs npr m0 m1 hc1 k=>?_⟩
 walk_at "rd";refine jw ?_;walk_at "rd";refine⟨by lia,by lia,iA (lo:=0) (n:=(1+more / 3 % 3).toNat) (fun i σ' G'=>Keep [pr] G G'/\NoT G'/\∃ys' rs' tot x12 x13,G' pr=some (.lst ys')/\A2 (RwAt G') ys' rs'/\rs'.length=rs.length+i/\(∀r∈rs',r∈rs\/RwL ns as r)/\(i:Int)<=tot/\tot<=100000000000000*i/\σ'=sgE sc fs d day cell pr x6 (some (.int more)) (some (L2.T c1)) (some (.ref pp)) (some (.int most)) (some (.int tot)) x12 x13) ⟨Keep.refl,nG,ys,rs,0,_,_,hpr,ay,rfl,(fun r m=>.inl m),Xo _,Xo _,rfl⟩ ?_ ?_⟩
 ·rintro i σ' G' hi ⟨kp,nG,ys,rs',tot,x12,x13,hpr',ay,lr',hin,t0,t1,rfl⟩
  have gP:=kp _ _ hpp (by simpa using npr);have li:i<4:=by lia
  obtain⟨y,my,ey⟩:=Bu pne pin (more / (11+5*(0+(i:Int))));have ly:=ay.len;have b0:=ZR (more / (9+14*(0+(i:Int)))+7*(0+(i:Int))) (Int.ne_of_gt m0);have b1:=ZW (more / (9+14*(0+(i:Int)))+7*(0+(i:Int))) m0;have lp:=YC.mpr pne;walk_at "rd";refine⟨⟨by lia,by lia⟩,m0,?_⟩;generalize (more / (9+14*(0+(i:Int)))+7*(0+(i:Int))) % most=md at b0 b1;refine⟨.inl ⟨_,SqL.of hpr'⟩,⟨by lia,by lia⟩,_,.inl (SqL.of gP),by lia,_,_,.inl (SqL.of gP),ey,.inl ⟨by lia,by lia⟩,by walk_at "om",fun p hp=>⟨pr,ys,_,rfl,rfl,(ah (aC hpr' hp)).trans hpr',by lia,?_⟩⟩;have sg:=(vO (x:=1+md) (c:=cell) ⟨by lia,by lia⟩).1;obtain⟨q1,q2,q3,q4⟩:=v3 ⟨y.pa,c1,(1+md)*(1-2*(cell / 24 % 2))⟩ hpr' hp ay nG;refine⟨kp.trans q1,q2,_,_,_,_,_,q3,q4,by rw[yw,lr'];rfl,fun r m=>?_,by lia,by lia,rfl,rfl,rfl⟩;rcases y9.mp m with m|m
  ·exact hin r m
  ·rw[zL.mp m];exact .inr ⟨⟨y,my,rfl⟩,hc1,sg⟩
 ·rintro σ' G' ⟨kp,nG,ys,rs',tot,x12,x13,hpr',ay,lr',hin,t0,t1,rfl⟩
  have gP:=kp _ _ hpp (by simpa using npr);obtain⟨y,my,ey⟩:=Bu pne pin (more / 13);have ly:=ay.len;have lp:=YC.mpr pne;have t2:1<=tot/\tot<=400000000000000:=by lia
  walk_at "rd";refine⟨.inl ⟨_,SqL.of hpr'⟩,_,.inl (SqL.of gP),by lia,_,_,.inl (SqL.of gP),ey,.inl ⟨by lia,by lia⟩,by walk_at "om",fun p hp=>⟨pr,ys,_,rfl,rfl,(ah (aC hpr' hp)).trans hpr',by lia,?_⟩⟩;have sg:=(vO (x:=tot) (c:=cell) t2).2;obtain⟨q1,q2,q3,q4⟩:=v3 ⟨y.pa,c1,(0-tot)*(1-2*(cell / 24 % 2))⟩ hpr' hp ay nG;refine k _ _ _ _ _ _ (kp.trans q1) q2 q3 q4 (by rw[yw,pM];lia) (by rw[yw,pM];lia) fun r m=>?_;rcases y9.mp m with m|m
  ·exact hin r m
  ·rw[zL.mp m];exact .inr ⟨⟨y,my,rfl⟩,hc1,sg⟩
theorem bE0(T:Txt K mg a){fA:Addr}{cdv:Value}{A:Around}{outer:List Env}{s:Shared}{H:Hp}{E:XK}(hr:Room 2 (A.deeper (ZO "_law_even_rows" (ae aZ) s.heap.objs.size fA cdv))){u6:TS}(hu6:PSs (bW (XE P w) P w K mg base cQ "_law_even_rows" (ae aZ) fA cdv A outer s H E) (Ys 6 Aa) u6):∃ub:TS,PSs (bW (XE P w) P w K mg base cQ "_law_even_rows" (ae aZ) fA cdv A outer s H E) Aa ub /\
 ∀(D:eO) sc fs d day cell pr (i:Int) x7 x8 x9 x10 x11 x12 x13 (ns:List Int) (as:List La) m G,NoT G->SqL K G sc (ns.map V.int)->0<=fs->0<=i->0<=day->G d=some (.dK (as.map kyL))->AcAt G d as->AsI as m->m<=100 ->
  (∀more c1 pp (most:Int) pv G',Same G G'->NoT G'->G pp=none->G' pp=some (.lst pv)->pv≠[]->pv.length<=100->(∀v∈pv,∃x∈as,v=L2.T x.pa)->0<most->most<=100000000000000->CyI ns c1->u6 D (sgE sc fs d day cell pr (some (.int i)) (some (.int more)) (some (L2.T c1)) (some (.ref pp)) (some (.int most)) (some (.int 0)) x12 x13) G') ->
  ub D (sgE sc fs d day cell pr (some (.int i)) x7 x8 x9 x10 x11 x12 x13) G:=by
 have sz:=szl;have ND:=fW.nd;have HU:=bV hr
 skip
 refine⟨_,(af (aS 7 ND (aN (aP T) hr aE (fa2 (fv 0) (aj aK (aj aK (fv 1) aa) (fv 6)))))
  (af (aS 8 ND (az K (aN (fL T) hr aE (fa1 (aN (aP T) hr aE (fa2 (fv 0) aa)))) (aj a7 (fv 7) aa)))
  (af (aS 9 ND (aN (oC T) hr aE (fa3 (fv 2) (fv 3) (fv 8))))
  (af (aW (aO (dm K HU) (aj a7 (aj a9 (fv 4) aa) aa) aa) (ag (aS 9 ND (d7 (tJ rfl) rfl T.m_ jE (fa1 (fv 2))))) aL)
  (af (aS 10 ND (rn (fa3 aa aa (aj ul aa aa)) (aj a7 (aj a9 (fv 4) aa) aa) (fun _ _=>rfl)))
  (af (aS 11 ND aa)
  hu6)))))),fun D sc fs d day cell pr i x7 x8 x9 x10 x11 x12 x13 ns as m G nG hS f0 i0 d0 hd AC AI m100 k=>?_⟩
 walk_at "rd";refine⟨ns,hS,by lia,fun more _=>⟨ns,hS,fun c ec=>⟨nG,fun pc G1 cy s1 N1 _ hpc lcy ccy cof=>?_⟩⟩⟩;obtain⟨c1,mc1,e1⟩:∃c1∈cy,atI (cy.map L2.T) (more % 3)=some (L2.T c1):=by
  obtain⟨j,e⟩:=ZT (ZR more (show(3:Int)≠0 by decide));have b:=ZW more (show(0:Int)<3 by decide);rw[e]at b |-
  have hj:j<cy.length:=by lia
  exact⟨cy[j],YB hj,av (by simp[hj])⟩
 have dn1:=s1 _ _ hd;have AC1:AcAt G1 d as:=⟨.inl dn1,fun x mx=>s1 _ _ (AC.ls x mx)⟩;refine⟨_,_,.inl (SqL.of hpc),e1,N1,?_⟩;walk_at "rd";refine⟨d0,as,m,dn1,AC1,AI,m100,fun pp pv G2 fp hpp pne pl pin s2 N2=>?_⟩;have hcy:CyI ns c1:=⟨cy,ec ▸ cof,mc1,lcy,ccy _ mc1⟩;have pos:0<([9,1000,10 ^ Int.toNat 14]:List Int).getD (cell / 8 % 3).toNat 0/\([9,1000,10 ^ Int.toNat 14]:List Int).getD (cell / 8 % 3).toNat 0<=100000000000000:=by
  rcases(by lia:cell / 8 % 3=0\/cell / 8 % 3=1\/cell / 8 % 3=2) with e|e|e <;> rw[e] <;> decide
 by_cases c4:cell / 2 % 4=1
 ·refine itp c4 ?_
  have kin:∀v∈(as.map kyL).map fun e=>kV e.1,∃x∈as,v=L2.T x.pa:=fun v mv=>by
   obtain⟨e,me,rfl⟩:=yH.mp mv;obtain⟨x,mx,rfl⟩:=yH.mp me;exact⟨x,mx,rfl⟩
  have kne:((as.map kyL).map fun e=>kV e.1)≠[]:=by
   obtain⟨x,y,r,rfl,_⟩:=AI.top;intro z;cases z
  have kl:((as.map kyL).map fun e=>kV e.1).length<=100:=by
   rw[zK,zK];have:=AI.len;lia
  refine⟨_,s2 _ _ dn1,fun l hl=>⟨aA N2 rfl,by decide,by walk_at "om",fun _ _=>pq (ns:=[9,1000,10 ^ Int.toNat 14]) (by lia) (by show _<(3:Int);lia) ?_⟩⟩;exact k more c1 l _ _ _ ((s1.trans s2).trans (au _ hl)) (aA N2 rfl) ((s1.trans s2).free hl) ad kne kl kin pos.1 pos.2 hcy
 ·refine itn c4 ⟨N2,by decide,by walk_at "om",fun _ _=>pq (ns:=[9,1000,10 ^ Int.toNat 14]) (by lia) (by show _<(3:Int);lia) ?_⟩
  exact k more c1 pp _ pv G2 (s1.trans s2) N2 (s1.free fp) hpp pne (by lia) pin pos.1 pos.2 hcy
def sp_zI(K:W.Frag):Sp:=sp4 fun x y z t H Q _=>NoT H/\asR x fun sc=>asI y fun fs=>asR z fun d=>asI t fun day=>0<=fs/\0<=day/\∃(ns:List Int) (as:List La) (m:Nat),SqL K H sc (ns.map V.int)/\H d=some (.dK (as.map kyL))/\AcAt H d as/\AsI as m/\m<=100 /\
 ∀q vs rs H',H q=none->H' q=some (.lst vs)->A2 (RwAt H') vs rs->2<=rs.length->rs.length<=8->(∀r∈rs,RwL ns as r)->Same H H'->NoT H'->Q (.ref q) H'
theorem jK(T:Txt K mg a):Fo P w K mg base "_law_even_rows" 3 (sp_zI K):=by
 refine T.k7.x4 cQ fun x0 x1 x2 x3 fA cdv A outer s H Q E ND HU hr h=>?_;obtain⟨hN,h1⟩:=h;obtain⟨sc,rfl,h2⟩:=asR.inv h1;obtain⟨fs,rfl,h3⟩:=asI.inv h2;obtain⟨d,rfl,h4⟩:=asR.inv h3;obtain⟨day,rfl,f0,d0,ns,as,m,hS,hd,AC,AI,m100,k⟩:=asI.inv h4;have sz:=szl;obtain⟨u6,hu6,k6⟩:=@bE6 P w K mg base a T (fA:=fA) (cdv:=cdv) (A:=A) (outer:=outer) (s:=s) (H:=H) (E:=E) hr;obtain⟨ub,hub,kb⟩:=bE0 T hr hu6;refine⟨_,(af (aS 4 ND (aN (aP T) hr aE (fa2 (fv 0) (fv 1))))
  (af (aS 5 ND (cX (FA.pa di)))
  (af (dt (by passes_own) rfl (iB rfl T.iJ (fa1 (aj aK aa (aj a7 (fv 4) aa)))) (aF (i:=6) ND rfl (Or.inl rfl)) hub)
  (ag (aJ (fv 5)))))),?_⟩
 walk_at "rd";refine⟨ns,hS,f0,fun cell _=>⟨ud _,fun pr hpr=>?_⟩⟩;obtain⟨G1,e1,s1,g1,N1⟩:=alloc (HO.lst []) hpr hN rfl;rw[e1];refine jw ?_;walk_at "rd";refine⟨by lia,by lia,iA (lo:=0) (n:=(1+cell % 2).toNat) (fun i σ' G=>Keep [pr] G1 G/\NoT G/\∃ys rs x6 x7 x8 x9 x10 x11 x12 x13,G pr=some (.lst ys)/\A2 (RwAt G) ys rs/\2*i<=rs.length/\rs.length<=4*i/\(∀r∈rs,RwL ns as r)/\σ'=sgE sc fs d day cell pr x6 x7 x8 x9 x10 x11 x12 x13) ⟨Keep.refl,N1,[],[],_,_,_,_,_,_,_,_,g1,.nil,z4 _,z4 _,(fun _ z=>nomatch z),rfl⟩ ?_ ?_⟩
 ·rintro i σ' G hi ⟨kp,nG,ys,rs,x6,x7,x8,x9,x10,x11,x12,x13,hp,ay,l1,l2,hin,rfl⟩
  have sH:Same H G:=fun p o e=>kp _ _ (s1 _ _ e) (by intro m;rw[zL.mp m,hpr]at e;cases e);walk_at "rd";refine kb _ sc fs d day cell pr _ _ _ _ _ _ _ _ ns as m G nG (hS.same sH) f0 (by lia) d0 (sH _ _ hd) ⟨.inl (sH _ _ hd),fun x mx=>sH _ _ (AC.ls x mx)⟩ AI m100 fun more c1 pp most pv G' s' n' fpp hpp pne pl pin m0 m1 hcy=>?_;refine k6 _ sc fs d day cell pr _ more c1 pp most _ _ ns as pv ys rs G' n' hpp pne pl pin (s' _ _ hp) (dB s' ay) (by lia) (fun z=>by rw[z,hp]at fpp;cases fpp) m0 m1 hcy fun x11 x12 x13 ys' rs' G'' kp' nG' hp' ay' l1' l2' hin'=>?_;exact⟨fun c z e n=>kp' c z (s' c z (kp c z e n)) n,nG',_,_,_,_,_,_,_,_,_,_,hp',ay',by lia,by lia,(fun r mr=>(hin' r mr).elim (hin r) id),rfl⟩
 ·rintro σ' G ⟨kp,nG,ys,rs,x6,x7,x8,x9,x10,x11,x12,x13,hp,ay,l1,l2,hin,rfl⟩
  have sH:Same H G:=fun p o e=>kp _ _ (s1 _ _ e) (by intro m;rw[zL.mp m,hpr]at e;cases e);walk_at "rd";exact k pr ys rs G hpr hp ay (by lia) (by lia) hin sH nG
end
open PySem L2 K19 K22
section
variable{P:Program}{w:World}{K:W.Frag}{mg:Str->Option Value}{base:Heap}{a:Adr}
open K3
theorem C5{K:W.Frag}{te:TE}{σ:St}{H:Hp}{Q:VK}(h:te σ H fun v H1=>Gz K v H1 Q):Gx K te σ H Q:=h
theorem CT{ws:List V}{bs:List Int}(h:A2 (fun v c=>v = .int c) ws bs):ws=bs.map .int:=by
 induction h with
 |nil=>rfl
 |cons e _ ih=>rw[e,ih];rfl
theorem zB(c:List Nat):∀rs:List Row,((rs.filter fun r=>decide (r.cu=c)).map (·.am)).sum=sm (ev rs) ([],c)
 | []=>rfl
 |r::q=>by
  have ih:=zB c q;have e:sm (ev (r::q)) ([],c)=(if (([]:List Nat),r.cu)=([],c) then r.am else 0)+sm (ev q) ([],c):=rfl;rw[e,<- ih];by_cases h:r.cu=c
  ·rw[Zo (by simpa using h),if_pos (by rw[h])];rfl
  ·rw[Zn (by simpa using h),if_neg (fun z=>h (Prod.mk.inj z).2),Int.zero_add]
def sp_Av:Sp:=sp1 fun x H Q _=>NoT H/\asR x fun p=>∃vs rs,H p=some (.tup vs)/\A2 (RwAt H) vs rs/\rs.length<=40/\EvR rs/\∀H',Same H H'->NoT H'->Q (.bl true) H'
theorem qB(T:Txt K mg a):Fo P w K mg base "_law_even" 1 sp_Av:=by
 refine T.rN.x1 ["_law_rows","_law_currency"] fun x0 fA cdv A outer s H Q E ND HU hr h=>?_;obtain⟨hN,h1⟩:=h;obtain⟨p,rfl,vs,rs,hp,ha,len,hev,k⟩:=asR.inv h1;have sz:=szl;have lv:=ha.len;refine⟨_,(af (dt (by passes_own) rfl (bF K (u9 K rfl rfl T.mK j9 rfl T.HM Eo (br rfl (cl:=_) (x:="_law_row") (xs:=["_law_row"]) (fr:=[]) (ks:=[]) (by walk_at "cq") rfl (iO K (fv 0)) (fun _ _ _ _ _=>(aF (i:=0) (bX (l:=["_law_row"]) (by decide)) rfl (Or.inl rfl))) (fun _ _ _ _ _=>dN) (fun _ _ _ _ _=>(az K (fv 0) aa))))) (aF (i:=1) ND rfl (Or.inr rfl)) (ag (aW (jH (aO (b8 K HU) (aH (pR K rfl) rfl T.Bv uh (fa1 (br rfl (cl:=_) (x:="_law_row") (xs:=["_law_row"]) (fr:=["_law_currency"]) (ks:=[1]) (by walk_at "cq") rfl (iO K (fv 0)) (fun _ _ _ _ _=>(aF (i:=0) (bX (l:=["_law_row","_law_currency"]) (by decide)) rfl (Or.inl rfl))) (fun _ _ _ _ _=>(dO (aO (dm K HU) (az K (fv 0) aa) (fv 1)))) (fun _ _ _ _ _=>(az K (fv 0) aa))))) aa)) (ag (aJ eE)) aL)))
  (ag (aJ eE))),?_⟩
 walk_at "rd";refine gK (C5 (wG ?_));walk_at "rd";refine⟨⟨vs,SqT.of hp⟩,Cv (S:=fun _ v c=>v=L2.T c) (fun _ _ _ _ _ h=>h) p vs rs (RwAt H) (fun _=>true) (·.cu) hp hN ha (by lia) (fun v r mr rr G zs N1 N0 sG nG hz n1 n0=>?_) fun D ws G hD sG nG gD aG=>?_⟩
 ·obtain⟨q1,rfl,hq1⟩:=rr
  have hq1:=sG _ _ hq1;obtain⟨z1,rfl⟩:=ex1 hz;walk_at "rd";exact⟨⟨[_],rfl,rfl⟩,_,_,.inr (SqT.of hq1),av (j:=1) rfl,n1 rfl _ _ (Same.refl _) nG rfl⟩
 ·rw[ZN.mpr (fun _ _=>rfl)]at aG
  rw[wn aG]at gD;have ll:(rs.map (·.cu)).length<=40:=by rw[zK];exact len
  refine⟨D,_,rfl,SqL.of gD,by lia,fun ds nd sub=>XR (kF nd sub) (by lia),fun out io no hio l hl=>?_⟩;obtain⟨G1,e1,s1,g1,N1⟩:=alloc (HO.lst (out.map L2.T)) hl nG rfl;rw[e1];have s01:=sG.trans s1;refine gK ?_;walk_at "rd";refine ic (xs:=out.map L2.T) (SqL.of g1) (ia (fun i σ' G'=>Same G1 G'/\NoT G'/\∃z,σ'=[some (.ref p),z]) ⟨Same.refl _,N1,none,rfl⟩ (fun i σ' G' _ h=>SqL.of (h.1 _ _ g1)) ?_ ?_)
  ·rintro i x σ' G' hx ⟨s2,n2,z,rfl⟩
   rw[List.getElem?_map]at hx;obtain⟨c,_,rfl⟩:=uE.mp hx;walk_at "rd";refine⟨n2,wG ?_⟩;walk_at "rd";have sH:=s01.trans s2;refine⟨⟨vs,SqT.of (sH _ _ hp)⟩,Cv (S:=fun _ v c=>v = .int c) (fun _ _ _ _ _ h=>h) p vs rs (RwAt G') (fun r=>decide (r.cu=c)) (·.am) (sH _ _ hp) n2 (dB sH ha) (by lia) (fun v r mr rr G zs N1 N0 sG nG hz n1 n0=>?_) fun D ws G hD sG nG gD aG=>?_⟩
   ·obtain⟨q1,rfl,hq1⟩:=rr
    have hq1:=sG _ _ hq1;obtain⟨z1,rfl⟩:=ex1 hz;walk_at "rd";refine⟨⟨[_],rfl,rfl⟩,_,_,.inr (SqT.of hq1),av (j:=1) rfl,?_⟩;walk_at "rd";by_cases h:r.cu=c
    ·exact itp h ⟨_,_,.inr (SqT.of hq1),av (j:=2) rfl,n1 (decide_eq_true h) _ _ (Same.refl _) nG rfl⟩
    ·exact itn h (n0 (decide_eq_false h) _ (Same.refl _) nG)
   ·rw[CT aG]at gD
    refine⟨_,.inl (SqL.of gD),?_⟩;rw[zB,hev c];walk_at "rd";exact⟨G',Gc.none sG,s2,n2,_,rfl⟩
  ·rintro σ' G' ⟨s2,n2,z,rfl⟩
   walk_at "rd";exact k _ (s01.trans s2) n2
def BX(as:List La)(t:Int)(r:Row):Prop:=r.am≠0/\∃z∈as,z.pa=r.pa/\opn z.fi z.un t=true/\(z.cu=none\/z.cu=some r.cu)
def sp_Co:Sp:=sp3 fun x y z H Q _=>NoT H/\asR x fun d=>asR z fun q=>∃o as b,y=cl o/\AcAt H d as/\(as.map (·.pa)).Nodup/\BkAt H (.ref q) b/\(0<=b.d/\b.d<=146096)/\lts o b.d/\(2<=b.rs.length/\b.rs.length<=40)/\EvR b.rs/\(∀r∈b.rs,BX as b.d r)/\∀H',Same H H'->NoT H'->Q (.bl true) H'
theorem AcAt.same{H H':Hp}{d:Addr}{as:List La}(h:AcAt H d as)(s:Same H H'):AcAt H' d as:=⟨h.dc.elim (fun e=>.inl (s _ _ e)) fun⟨o,e⟩=>.inr ⟨o,s _ _ e⟩,fun x m=>s _ _ (h.ls x m)⟩
theorem qC(T:Txt K mg a):Fo P w K mg base "_law_fits" 5 sp_Co:=by
 refine T.tG.x3 ["_law_accounts_here","_law_closed","_law_booking","_law_number","_law_day_here","_law_note","_law_rows","_law_undoes_here","_law_path","_law_currency","_law_amount"] fun x0 x1 x2 fA cdv A outer s H Q E ND HU hr h=>?_;obtain⟨hN,h1⟩:=h;obtain⟨d,rfl,h2⟩:=asR.inv h1;obtain⟨q,rfl,o,as,b,rfl,AC,nd,⟨q',t,vs,nt,e',hq,ht,ha⟩,hd,hl,ln,hev,hf,k⟩:=asR.inv h2;cases e';have sz:=szl;have lv:=ha.len
 skip
 have c2:∃u,PSs (bW (XE P w) P w K mg base ["_law_accounts_here","_law_closed","_law_booking","_law_number","_law_day_here","_law_note","_law_rows","_law_undoes_here","_law_path","_law_currency","_law_amount"] "_law_fits" (ae (top 76)) fA cdv A outer s H E) (Ys 2 (aq (top 76))) u/\∀G,Same H G->NoT G->u { nx:=fun _ H'=>Q .non H',rt:=Q } [some (.ref d),some (cl o),some (.ref q),some (.int b.k),some (.int b.d),some (L2.T nt),some (.ref t),some (cl b.un),none,none,none] G:=by
  refine⟨_,(af (dt (by passes_own) rfl (iO K (fv 6)) (e_ K (n:=3) rfl (aU (aF (i:=8) ND rfl (Or.inl rfl)) (aU (aF (i:=9) ND rfl (Or.inl rfl)) (aU (aF (i:=10) ND rfl (Or.inl rfl)) dP)))) (af (aW (L2.PW.pt (dw (cY (oZ (Zr HU) (fv 8) (fv 0)) (by with_unfolding_all rfl)) (dw (bB (bv (aN (hV T) hr aE (fa3 (fv 0) (fv 8) (fv 4))))) (cS (aO (dm K HU) (fv 10) aa))))) (ag (aJ eE)) aL)
   (ag (aW (jH (jk (kr K) (az K (bQ (Zr HU) (fv 0) (fv 8) (fun _ _=>rfl)) aa) (bJ (fa2 cI (fv 9))) (by with_unfolding_all rfl))) (ag (aJ eE)) aL))))
   (ag (aJ eE))),fun G sG nG=>?_⟩
  walk_at "rd";refine t6 ?_;walk_at "rd";refine rX (SqT.of (sG _ _ ht)) (vX (fun i σ' G'=>Same H G'/\NoT G'/\∃x8 x9 x10,σ'=[some (.ref d),some (cl o),some (.ref q),some (.int b.k),some (.int b.d),some (L2.T nt),some (.ref t),some (cl b.un),x8,x9,x10]) ⟨sG,nG,_,_,_,rfl⟩ (fun j σ' G' _ h=>SqT.of (h.1 _ _ ht)) ?_ ?_)
  ·rintro i x σ' G' hx ⟨s1,n1,x8,x9,x10,rfl⟩
   obtain⟨r,hr,q1,rfl,hq1⟩:=ha.at_ hx;have hq1:=s1 _ _ hq1;obtain⟨r0,z,mz,ez,ho,hc⟩:=hf r (xg hr);have A1:=AC.same s1;have dg:=A1.get nd mz;rw[ez]at dg;walk_at "rd";refine⟨_,_,rfl,SqT.of hq1,rfl,_,_,rfl,_,_,rfl,_,_,rfl,rfl,?_⟩;walk_at "rd";refine⟨d,_,rfl,dg,itn (by intro z;cases z) ⟨n1,as,z,A1,nd,mz,ez,?_⟩⟩;rw[ho];refine itn (by decide) (itn r0 ⟨n1,d,_,rfl,dg,?_⟩);walk_at "rd";have inv:inV (cuV z.cu) [.non,L2.T r.cu]=true:=by rcases hc with h|h <;> rw[h] <;> simp[inV,cuV,eqV]
   refine⟨_,_,.inl (SqL.of (A1.ls z mz)),av (j:=0) rfl,by walk_at "om",fun p hp=>⟨_,.inr (SqT.of ad),by cases z.cu <;> rfl,rfl,G',Gc.none (au _ hp),?_⟩⟩;rw[inv];exact itn (by decide) ⟨s1,n1,_,_,_,rfl,rfl,rfl⟩
  ·rintro σ' G' ⟨s1,n1,x8,x9,x10,rfl⟩
   walk_at "rd";exact k _ s1 n1
 obtain⟨u2,hu2,c2⟩:=c2;refine⟨_,(af (nJ (fv 2) (e_ K (n:=5) rfl (aU (aF (i:=3) ND rfl (Or.inl rfl)) (aU (aF (i:=4) ND rfl (Or.inl rfl)) (aU (aF (i:=5) ND rfl (Or.inl rfl)) (aU (aF (i:=6) ND rfl (Or.inl rfl)) (aU (aF (i:=7) ND rfl (Or.inl rfl)) dP)))))))
  (af (aW (L2.PW.pt (dw (L2.PW.pt (gr (cY (cD (fv 1))) (eh (aO eF (aN (i5 T) hr aE (fa1 (fv 4))) (fv 1))))) (dw (bB (sK eF eF aa (aH (bj K) rfl T.cp bD (fa1 (fv 6))) aa)) (cS (bB (bv (aN (qB T) hr aE (fa1 (fv 6))))))))) (ag (aJ eE)) aL)
  hu2)),?_⟩
 walk_at "rd";refine⟨q,_,rfl,SqT.of hq,rfl,_,_,rfl,_,_,rfl,_,_,rfl,_,_,rfl,_,_,rfl,rfl,?_⟩;cases o with
 |none=>
  refine itp rfl ?_;walk_at "rd";exact⟨vs,.inr (SqT.of ht),itp (by lia) (itp (by lia) ⟨hN,vs,b.rs,ht,ha,ln.2,hev,c2⟩)⟩
 |some mm=>
  refine itn (by intro z;cases z) ⟨hN,?_⟩;walk_at "rd";refine⟨hd,fun G s n=>?_⟩;show gLe (.int (MO b.d)) (.int mm) G _;walk_at "rd";exact itn (Int.not_le.mpr hl) ⟨vs,.inr (SqT.of (s _ _ ht)),itp (by lia) (itp (by lia) ⟨n,vs,b.rs,s _ _ ht,dB s ha,ln.2,hev,fun G' s' n'=>c2 G' (s.trans s') n'⟩)⟩
end
open PySem L2 K19 K22
section
variable{P:Program}{w:World}{K:W.Frag}{mg:Str->Option Value}{base:Heap}{a:Adr}
open K3
def UnOk(bk:List Bo)(b:Bo):Prop:=b.un=none\/∃(n:Nat) (x:Bo),b.un=some (n:Int)/\bk[n]? = some x/\x.k=n/\x.k<b.k/\x.d<=b.d/\x.un=none/\(bk.filter fun y=>decide (y.un=some (n:Int))).length=1/\b.rs=trn x.rs
theorem GZ{K:W.Frag}{H:Hp}{p q:Addr}{x y:List Nat}(hp:H p=some (.tup [L2.T x,L2.T y]))(hq:H q=some (.tup [L2.T x,L2.T y])):EqR K H p q true:=by
 have fl:∀x:V,dX x=true->eqV x x=true->EqH K H 50 x x true:=fun x f e=>by have:=EqH.flat (K:=K) (H:=H) (n:=50) f f;rwa [e]at this
 have h:=EqR.tup (K:=K) (H:=H) (e:=fun _=>true) (SqT.of hp) (SqT.of hq) fun j u v gx gy=>by
  rcases j with _|_|j
  ·cases gx;cases gy;exact fl _ rfl (by simp[eqV,L2.T])
  ·cases gx;cases gy;exact fl _ rfl (by simp[eqV,L2.T])
  ·simp at gx
 exact h
def sp_yg:Sp:=sp2 fun x y H Q _=>NoT H/\asR x fun e=>asR y fun q=>∃vs bk b,H e=some (.lst vs)/\A2 (BkAt H) vs bk/\bk.length<=100/\BkAt H (.ref q) b/\b.rs.length<=40/\UnOk bk b/\∀H',Same H H'->NoT H'->Q (.bl true) H'
theorem mB(T:Txt K mg a):Fo P w K mg base "_law_undoes" 1 sp_yg:=by
 refine T.ow.x2 ["_law_every","_law_booking","_law_old","_law_row","_law_other"] fun x0 x1 fA cdv A outer s H Q E ND HU hr h=>?_;obtain⟨hN,h1⟩:=h;obtain⟨e,rfl,h2⟩:=asR.inv h1;obtain⟨q,rfl,vs,bk,b,he,hv,lb,⟨q',t,ws,nt,e',hq,ht,ha⟩,l40,hu,k⟩:=asR.inv h2;cases e';have sz:=szl;have lv:=hv.len;refine⟨_,(af (aW (cY (j_ (az K (fv 1) aa))) (ag (aJ eE)) aL)
  (af (aS 2 ND (az K (fv 0) (az K (fv 1) aa)))
  (af (aW (L2.PW.pt (dw (aO HD (az K (fv 2) aa) (az K (fv 1) aa)) (dw (aO jL (az K (fv 2) aa) (az K (fv 1) aa)) (cS (cY (cD (az K (fv 2) aa))))))) (ag (aJ eE)) aL)
  (af (aW (jH (L2.PW.pt (dw (aO (b8 K HU) (aH (bj K) rfl T.cp bD (fa1 (br rfl (cl:=_) (x:="_law_one") (xs:=["_law_one"]) (fr:=["_law_old"]) (ks:=[2]) (by walk_at "cq") rfl (bF K (fv 0)) (fun _ _ _ _ _=>(aF (i:=0) (bX (l:=["_law_one","_law_old"]) (by decide)) rfl (Or.inl rfl))) (fun _ _ _ _ _=>(dO (aO (dm K HU) (az K (fv 0) aa) (az K (fv 1) aa)))) (fun _ _ _ _ _=>(fv 0))))) aa) (cS (aO (b8 K HU) (aH (bj K) rfl T.cp bD (fa1 (az K (fv 2) aa))) (aH (bj K) rfl T.cp bD (fa1 (az K (fv 1) aa)))))))) (ag (aJ eE)) aL)
  (af (dt (by passes_own) rfl (BV K rfl T.Hc (az K (fv 2) aa) (az K (fv 1) aa)) (e_ K (n:=2) rfl (aU (aF (i:=3) ND rfl (Or.inl rfl)) (aU (aF (i:=4) ND rfl (Or.inl rfl)) dP))) (ag (aW (L2.PW.pt (dw (aO (b8 K HU) (ci (mi K) (fv 3) da (c8 aa)) (ci (mi K) (fv 4) da (c8 aa))) (cS (aO (b8 K HU) (aj aK (az K (fv 3) aa) (az K (fv 4) aa)) aa)))) (ag (aJ eE)) aL)))
  (ag (aJ eE))))))),?_⟩
 walk_at "rd";refine⟨_,_,.inr (SqT.of hq),av (j:=4) rfl,?_⟩;rcases hu with hu|⟨n,x,hu,hx,xk,xlt,xd,xu,one,er⟩
 ·rw[hu];exact itp rfl (k _ (Same.refl _) hN)
 ·have hcl:cl b.un = .int n:=by rw[hu];rfl
  rw[hcl]at hq |-
  refine itn (by intro z;cases z) ?_;obtain⟨v,hvx⟩:∃v,vs[n]? = some v:=⟨vs[n]'(by have:=(List.getElem?_eq_some_iff.mp hx).1;lia),List.getElem?_eq_getElem _⟩;obtain⟨x',hx',qx,tx,us,nx,rfl,hqx,htx,hax⟩:=hv.at_ hvx;rw[hx]at hx';cases hx';walk_at "rd";refine⟨_,_,.inr (SqT.of hq),av (j:=4) rfl,?_⟩;walk_at "rd";refine⟨_,_,.inl (SqL.of he),av hvx,?_⟩;walk_at "rd";refine⟨_,_,.inr (SqT.of hqx),av (j:=0) rfl,_,_,.inr (SqT.of hq),av (j:=0) rfl,?_⟩;walk_at "rd";refine itn (Int.not_le.mpr xlt) ⟨_,_,.inr (SqT.of hqx),av (j:=1) rfl,_,_,.inr (SqT.of hq),av (j:=1) rfl,?_⟩;walk_at "rd";refine itn (Int.not_lt.mpr xd) ⟨_,_,.inr (SqT.of hqx),av (j:=4) rfl,itp (by rw[xu];rfl) ⟨hN,lD ?_⟩⟩;walk_at "rd";refine⟨⟨vs,SqL.of he⟩,ceA (S:=fun _ _ _=>True) (fun _ _ _ _ _ h=>h) e vs bk (BkAt H) (fun y=>decide (y.un=some (n:Int))) id he hN hv (by lia) (fun v y my ry G zs N1 N0 sG nG hz n1 n0=>?_) fun D zs G hD sG nG gD aG=>?_⟩
  ·obtain⟨qy,ty,uy,ny,rfl,hqy,_,_⟩:=ry
   obtain⟨z1,rfl⟩:=ex1 hz;walk_at "rd";refine⟨⟨[_],rfl,rfl⟩,_,_,.inr (SqT.of (sG _ _ hqy)),av (j:=4) rfl,_,_,.inr (SqT.of (sG _ _ hqx)),av (j:=0) rfl,?_⟩;rw[xk];cases yu:y.un with
   |none=>
    show iR K false .non (.int n) G _;walk_at "rd";exact n0 (by rw[yu];rfl) _ (Same.refl _) nG
   |some m=>
    show iR K false (.int m) (.int n) G _;walk_at "rd";by_cases h:m=n
    ·exact itp h (n1 (by rw[yu,h];exact decide_eq_true rfl) _ _ (Same.refl _) nG trivial)
    ·exact itn h (n0 (by rw[yu];exact decide_eq_false fun z=>h (se z)) _ (Same.refl _) nG)
  ·have l1:zs.length=1:=by rw[aG.len,Y0];exact one
   have ll:us.length=ws.length:=by rw[hax.len,ha.len,er];unfold trn;rw[zK]
   walk_at "rd";refine⟨_,.inl (SqL.of gD),?_⟩;rw[l1];refine itp rfl ⟨_,_,.inr (SqT.of (sG _ _ hqx)),av (j:=3) rfl,?_⟩;walk_at "rd";refine⟨_,.inr (SqT.of (sG _ _ htx)),_,_,.inr (SqT.of (sG _ _ hq)),av (j:=3) rfl,?_⟩;walk_at "rd";refine⟨_,.inr (SqT.of (sG _ _ ht)),?_⟩;refine⟨H,Gc.none sG,itp (by rw[ll]) (zr ?_)⟩;walk_at "rd";refine⟨_,_,.inr (SqT.of hqx),av (j:=3) rfl,_,_,.inr (SqT.of hq),av (j:=3) rfl,?_⟩;walk_at "rd";refine⟨tx,t,rfl,rfl,⟨us,SqT.of htx⟩,⟨ws,SqT.of ht⟩,zD ll (fun i σ' G'=>Same H G'/\NoT G'/\∃x3 x4,σ'=[some (.ref e),some (.ref q),some (.ref qx),x3,x4]) ⟨Same.refl _,hN,_,_,rfl⟩ (fun i σ' G' h=>⟨SqT.of (h.1 _ _ htx),SqT.of (h.1 _ _ ht)⟩) ?_ ?_⟩
   ·rintro i u v σ' G' p hu hw hp ⟨s1,n1,x3,x4,rfl⟩
    obtain⟨r,hr,q1,rfl,hq1⟩:=hax.at_ hu;obtain⟨r',hr',q2,rfl,hq2⟩:=ha.at_ hw;have er':r'=⟨r.pa,r.cu,-r.am⟩:=by
     rw[er]at hr';unfold trn at hr';rw[List.getElem?_map,hr]at hr';exact(se hr').symm
    subst er';have s2:=au (HO.tup [V.ref q1,V.ref q2]) hp;have s12:=s1.trans s2;walk_at "rd";refine⟨_,_,rfl,SqT.of ad,rfl,_,_,rfl,_,_,rfl,rfl,?_⟩;walk_at "rd";refine⟨q1,_,rfl,SqT.of (s12 _ _ hq1),(by show ¬ (HT.sIx 3 0 none=0/\HT.sIx 3 3 (some 2)=3);decide),fun p1 hp1=>?_⟩;obtain⟨G1,e1,t1,g1,N1⟩:=alloc (HO.tup (h_ [L2.T r.pa,L2.T r.cu,V.int r.am] none (some 2))) hp1 (aA n1 rfl) rfl;rw[e1];refine⟨q2,_,rfl,SqT.of (t1 _ _ (s12 _ _ hq2)),(by show ¬ (HT.sIx 3 0 none=0/\HT.sIx 3 3 (some 2)=3);decide),fun p2 hp2=>?_⟩;obtain⟨G2,e2,t2,g2,N2⟩:=alloc (HO.tup (h_ [L2.T r.pa,L2.T r.cu,V.int (-r.am)] none (some 2))) hp2 N1 rfl;rw[e2];have s3:=s12.trans (t1.trans t2);refine⟨true,GZ (t2 _ _ g1) g2,?_⟩;walk_at "rd";refine⟨_,_,.inr (SqT.of (s3 _ _ hq1)),av (j:=2) rfl,_,_,.inr (SqT.of (s3 _ _ hq2)),av (j:=2) rfl,?_⟩;walk_at "rd";exact itp (by lia) ⟨s3,N2,_,_,rfl,rfl⟩
   ·rintro σ' G' ⟨s1,n1,x3,x4,rfl⟩
    walk_at "rd";exact k _ s1 n1
end
open PySem L2 K19 K22
section
variable{P:Program}{w:World}{K:W.Frag}{mg:Str->Option Value}{base:Heap}{a:Adr}
open K3
structure Wd where
 ch:Addr
 cd:Addr
 g:Addr
 gx:Addr
 j:Addr
 b:Addr
 u:Addr
 d:Addr
 as:List La
 cs:List Acc
 o:Option Int
 bs:List V
 bk:List Bo
 kvs:List (Key × V)
structure RwG(ns:List Int)(as:List La)(r:Row):Prop where
 pa:∃z∈as,z.pa=r.pa/\(z.cu=none\/z.cu=some r.cu)
 cu:CyI ns r.cu
 am:r.am≠0
def kept(bk:List Bo)(b:Bo):Bool:=decide (b.un=none) && !bk.any fun y=>decide (y.un=some b.k)
structure BkOk(ns:List Int)(as:List La)(bk:List Bo)(kvs:List (Key × V)):Prop where
 nm:∀(n:Nat) x,bk[n]? = some x->x.k=n/\(2<=x.rs.length/\x.rs.length<=8)/\(∀r∈x.rs,RwG ns as r)/\EvR x.rs/\UnOk bk x
 kv:∀n:Nat,(cU kvs (.inl (n:Int))).getD .non = .non->∀y∈bk,y.un≠some (n:Int)
 kl:kvs.length<=bk.length
 cn:∀k,sm (bk.flatMap (·.rs)) k=sm ((bk.filter (kept bk)).flatMap (·.rs)) k
structure LS(a:Adr)(ns:List Int)(m:Nat)(H:Hp)(W:Wd):Prop where
 ca:CAt a.aQ a.aI H W.ch W.cd W.cs
 cf:A2 (CF W.as) W.cs W.as
 bl:∀c∈W.cs,c.be.length<=m
 dd:H W.d=some (.dK (W.as.map kyL))
 ls:∀x∈W.as,H x.ls=some (laL x)
 ai:AsI W.as m
 ga:H W.g=some (dY a.ba W.gx (cl W.o))
 oo:∀z,W.o=some z->0<=z/\z<=4799
 ja:JAt a.aT H W.j W.b W.u W.bs W.kvs
 bk:A2 (BkAt H) W.bs W.bk
 ok:BkOk ns W.as W.bk W.kvs
 ll:W.bk.length<=m
 nT:NoT H
 a1:∀c∈W.cs,c.bl≠W.b/\∀x∈W.as,c.bl≠x.ls
 a2:∀x∈W.as,x.ls≠W.b
 a3:W.cd≠W.u/\W.cd≠W.d/\W.d≠W.u
 nl:(W.as.map (·.ls)).Nodup
def own(W:Wd):List Addr:=W.cd::W.d::W.b::W.u::W.g::(W.cs.map (·.bl)++W.cs.map (·.ob)++W.as.map (·.ls))
theorem LS.same{ns:List Int}{m:Nat}{H H':Hp}{W:Wd}(h:LS a ns m H W)(s:Same H H')(n:NoT H'):LS a ns m H' W:=
 { h with ca:=h.ca.same s,dd:=s _ _ h.dd,ls:=fun x mx=>s _ _ (h.ls x mx),ga:=s _ _ h.ga,ja:=h.ja.keep (S:=[]) (Keep.same s) xz xz xz,bk:=nW s h.bk,nT:=n }
theorem Bx(rs:List Row)(k:Pt):sm (trn rs) k = - sm rs k:=by
 induction rs with
 |nil=>rfl
 |cons r q ih=>
  have e:sm (trn (r::q)) k=(if (r.pa,r.cu)=k then -r.am else 0)+sm (trn q) k:=rfl;rw[e,ih,sm];split <;> lia
theorem Ff{rs:List Row}(h:EvR rs):EvR (trn rs):=fun c=>by
 have e:ev (trn rs)=trn (ev rs):=by unfold ev trn;rw[ug,ug];rfl
 rw[e,Bx,h c];rfl
theorem mG(l r:List Bo)(k:Pt):sm ((l++r).flatMap (·.rs)) k=sm (l.flatMap (·.rs)) k+sm (r.flatMap (·.rs)) k:=by rw[List.flatMap_append,k4]
theorem A4(x:Bo)(k:Pt):sm ([x].flatMap (·.rs)) k=sm x.rs k:=by rw[YM,List.flatMap_nil,Zh]
theorem UnOk.grow{bk:List Bo}{x y:Bo}(h:UnOk bk y)(hx:∀n:Nat,y.un=some (n:Int)->x.un≠some (n:Int)):UnOk (bk++[x]) y:=by
 rcases h with h|⟨n,z,e1,e2,e3,e4,e5,e6,e7,e8⟩
 ·exact .inl h
 ·refine .inr ⟨n,z,e1,?_,e3,e4,e5,e6,?_,e8⟩
  ·rw[List.getElem?_append_left (List.getElem?_eq_some_iff.mp e2).1];exact e2
  ·rw[Zl,Zn (by simpa using hx n e1),ZG,Zh];exact e7
theorem wD{bk:List Bo}{x y:Bo}{n:Nat}(h:(bk++[x])[n]? = some y):bk[n]? = some y\/(n=bk.length/\y=x):=by
 rcases Nat.lt_trichotomy n bk.length with l|l|l
 ·rw[List.getElem?_append_left l]at h;exact .inl h
 ·subst l
  rw[List.getElem?_append_right (z4 _),Nat.sub_self]at h;cases h;exact .inr ⟨rfl,rfl⟩
 ·rw[List.getElem?_append_right (by lia),show n-bk.length=(n-bk.length-1)+1 by lia]at h
  cases h
structure Nw(ns:List Int)(as:List La)(bk:List Bo)(x:Bo):Prop where
 k:x.k=bk.length
 ln:2<=x.rs.length/\x.rs.length<=8
 rw_:∀r∈x.rs,RwG ns as r
 ev:EvR x.rs
section
variable{ns:List Int}{as:List La}{bk:List Bo}{kvs:List (Key × V)}{x:Bo}
theorem BkOk.un_lt(h:BkOk ns as bk kvs){y:Bo}(m:y∈bk){n:Int}(e:y.un=some n):n<bk.length:=by
 obtain⟨i,hi⟩:=List.getElem?_of_mem m;rcases(h.nm i y hi).2.2.2.2 with z|⟨j,z,e1,e2,_⟩
 ·rw[z]at e;cases e
 ·rw[e]at e1
  have:=(List.getElem?_eq_some_iff.mp e2).1;have:=se e1;lia
theorem BkOk.plain(h:BkOk ns as bk kvs)(nw:Nw ns as bk x)(un:x.un=none):BkOk ns as (bk++[x]) kvs:=by
 have kp:∀y,kept (bk++[x]) y=kept bk y:=fun y=>by
  unfold kept;rw[List.any_append,Y9,un];simp
 refine⟨fun n y e=>?_,fun n e y m=>?_,by rw[yw];have:=h.kl;lia,fun k=>?_⟩
 ·rcases wD e with e|⟨rfl,rfl⟩
  ·obtain⟨a1,a2,a3,a4,a5⟩:=h.nm n y e
   exact⟨a1,a2,a3,a4,a5.grow fun n _ z=>by rw[un]at z;cases z⟩
  ·exact⟨nw.k,nw.ln,nw.rw_,nw.ev,.inl un⟩
 ·rcases y9.mp m with m|m
  ·exact h.kv n e y m
  ·rw[zL.mp m,un];intro z;cases z
 ·have kx:kept bk x=true:=by
   unfold kept;rw[un,decide_eq_true rfl,Yh,Xu,List.any_eq_false];intro y m z;have:=h.un_lt m (of_decide_eq_true z);rw[nw.k]at this;lia
  have ef:(bk++[x]).filter (kept (bk++[x]))=bk.filter (kept bk)++[x]:=by
   rw[show kept (bk++[x])=kept bk from funext kp,Zl,Zo kx,ZG]
  rw[ef,mG,mG,h.cn k]
theorem drop_one(p:Bo->Bool)(n:Int)(k:Pt):∀l:List Bo,(l.map (·.k)).Nodup->∀y∈l,y.k=n->p y=true->sm ((l.filter fun z=>p z&&decide (z.k≠n)).flatMap (·.rs)) k+sm y.rs k=sm ((l.filter p).flatMap (·.rs)) k
 | [],_,_,m,_,_=>nomatch m
 |z::r,nd,y,m,e,py=>by
  rw[xx,Zd]at nd;rcases zG.mp m with rfl|m
  ·have er:(r.filter fun z=>p z&&decide (z.k≠n))=r.filter p:=List.filter_congr fun z mz=>by
    have zn:z.k≠n:=fun q=>nd.1 (by rw[e,<- q];exact xF mz);simp[zn]
   rw[Zn (by rw[e];simp),Zo py,er,YM,k4];lia
  ·have zn:z.k≠n:=fun q=>nd.1 (by rw[q,<- e];exact xF m)
   have ih:=drop_one p n k r nd.2 y m e py;by_cases pz:p z=true
   ·rw[Zo (by simp[pz,zn]),Zo pz,YM,YM,k4,k4];lia
   ·rw[Zn (by simp[pz]),Zn pz];exact ih
theorem BkOk.nd(h:BkOk ns as bk kvs):(bk.map (·.k)).Nodup:=by
 rw[List.nodup_iff_pairwise_ne];refine Zk.mpr fun i j hi hj hij e=>?_;rw[zK]at hi hj;rw[ZD,ZD,(h.nm i _ (List.getElem?_eq_getElem hi)).1,(h.nm j _ (List.getElem?_eq_getElem hj)).1]at e;lia
theorem BkOk.undo(h:BkOk ns as bk kvs)(nw:Nw ns as bk x){n:Nat}{y:Bo}(un:x.un=some (n:Int))(hy:bk[n]? = some y)(yu:y.un=none)(yd:y.d<=x.d)(er:x.rs=trn y.rs)(hv:(cU kvs (.inl (n:Int))).getD .non = .non):BkOk ns as (bk++[x]) (cW kvs (.inl (n:Int)) (.int bk.length)):=by
 have no:=h.kv n hv;have yk:=(h.nm n y hy).1;have ln:=(List.getElem?_eq_some_iff.mp hy).1;have my:=xg hy;refine⟨fun i z e=>?_,fun i e z m=>?_,?_,fun k=>?_⟩
 ·rcases wD e with e|⟨rfl,rfl⟩
  ·obtain⟨a1,a2,a3,a4,a5⟩:=h.nm i z e
   refine⟨a1,a2,a3,a4,a5.grow fun j ej q=>?_⟩;rw[un]at q;have:n=j:=by have:=se q;lia
   subst this;exact no z (xg e) ej
  ·refine⟨nw.k,nw.ln,nw.rw_,nw.ev,.inr ⟨n,y,un,?_,yk,by rw[yk,nw.k];lia,yd,yu,?_,er⟩⟩
   ·rw[List.getElem?_append_left ln];exact hy
   ·rw[Zl,Y3.mpr (fun z m q=>no z m (of_decide_eq_true q)),Zo (by simpa using un)];rfl
 ·rw[rL]at e
  split at e
  ·cases e
  ·rename_i ne
   rcases y9.mp m with m|m
   ·exact h.kv i e z m
   ·rw[zL.mp m,un]
    intro q;exact ne (by rw[se q])
 ·have:=fZ kvs (.inl (n:Int)) (.int bk.length)
  have:=h.kl;rw[yw,pM];lia
 ·have kp:∀z,kept (bk++[x]) z=(kept bk z&&decide (z.k≠n)):=fun z=>by
   unfold kept;rw[List.any_append,Y9,un];by_cases q:z.k=n
   ·simp[q]
   ·simp[q,Ne.symm q]
  have kx:¬ kept (bk++[x]) x=true:=by unfold kept;rw[un];simp
  have ky:kept bk y=true:=by
   unfold kept;rw[yu,decide_eq_true rfl,Yh,Xu,List.any_eq_false];intro z m q;rw[yk]at q;exact no z m (of_decide_eq_true q)
  have ef:(bk++[x]).filter (kept (bk++[x]))=bk.filter fun z=>kept bk z&&decide (z.k≠n):=by
   rw[Zl,Zn kx,ZG,Zh,show kept (bk++[x])=_ from funext kp]
  have dr:=drop_one (kept bk) n k bk h.nd y my yk ky;rw[ef,mG,A4,h.cn k,er,Bx];lia
end
end
open PySem L2 K19 K22
section
variable{P:Program}{w:World}{K:W.Frag}{mg:Str->Option Value}{base:Heap}{a:Adr}
open K3
theorem Cm(x y:V):wZ (zI "many") [(zI "bookings",x),(zI "undoings",y)]=none:=by rw[aR (by decide +kernel),aR (by decide +kernel)];rfl
structure IF(a:Adr)(ns:List Int)(m:Nat)(H H':Hp)(W:Wd)(x:Bo)(v:V)(kvs:List (Key × V)):Prop where
 kp:Keep [W.b,W.u] H H'
 ls:LS a ns m H' { W with bs:=W.bs++[v],bk:=W.bk++[x],kvs:=kvs }
 dy:0<=x.d/\x.d<=146096
 lt:lts W.o x.d
 ev:EvR x.rs
 ft:∀r∈x.rs,BX W.as x.d r
theorem BkAt.mv{H H':Hp}(k:∀t l,H t=some (.tup l)->H' t=some (.tup l)){v:V}{b:Bo}(h:BkAt H v b):BkAt H' v b:=by
 obtain⟨q,t,vs,nt,e,h1,h2,h3⟩:=h;exact⟨q,t,vs,nt,e,k _ _ h1,k _ _ h2,h3.imp fun v r _ _ z=>RwAt.mv _ _ v r k z⟩
theorem LS.put{ns:List Int}{m:Nat}{H H':Hp}{W:Wd}(S:LS a ns m H W){x:Bo}{nt:List Nat}{vs:List V}{kvs:List (Key × V)}(L:C9 a H H' W.j W.b W.u W.bs kvs (.int x.d) (L2.T nt) vs (cl x.un))(hv:A2 (RwAt H') vs x.rs)(xk:x.k=W.bk.length)(ok:BkOk ns W.as (W.bk++[x]) kvs) :
 ∃v,Keep [W.b,W.u] H H'/\LS a ns (m+1) H' { W with bs:=W.bs++[v],bk:=W.bk++[x],kvs:=kvs }:=by
 obtain⟨q,t,fq,hq,ht,J,kp,n'⟩:=L;have l1:=S.bk.len;have no:∀ {p:Addr} {o:HO},H p=some o->p≠W.b->(∀kv,o ≠ .dK kv)->p∉[W.b,W.u]:=fun {p o} e nb nd mm=>by
  rcases zG.mp mm with z|z
  ·exact nb z
  ·rw[zL.mp z,S.ja.dc]at e;cases e;exact nd _ rfl
 have nu:∀ {p:Addr} {kv:List (Key × V)},H p=some (.dK kv)->p≠W.u->p∉[W.b,W.u]:=fun {p kv} e nu mm=>by
  rcases zG.mp mm with z|z
  ·rw[z,S.ja.ls]at e;cases e
  ·exact nu (zL.mp z)
 have ni:∀ {p:Addr} {C dx:Addr} {fs:List (Str × V)},H p=some (.ins C dx fs)->p∉[W.b,W.u]:=fun {p C dx fs} e=>no e (a6 e S.ja.ls) fun _ z=>nomatch z;obtain⟨dc,hc⟩:=S.ca.ob;have kt:∀t l,H t=some (.tup l)->H' t=some (.tup l):=fun t l e=>kp _ _ e (S.ja.tup e);refine⟨.ref q,kp,{ S with ca:=S.ca.keep kp (ni hc) (nu S.ca.dc S.a3.1) fun c mc=>?_,bl:=fun c mc=>ZV (S.bl c mc),dd:=kp _ _ S.dd (nu S.dd S.a3.2.2),ls:=fun x mx=>kp _ _ (S.ls x mx) (no (S.ls x mx) (S.a2 x mx) fun _ z=>nomatch z),ai:=⟨S.ai.nd,ZV S.ai.len,S.ai.ok,S.ai.top⟩,ga:=kp _ _ S.ga (ni S.ga),ja:=J,bk:=?_,ok:=ok,ll:=?_,nT:=n' }⟩
 ·obtain⟨dx,ho⟩:=(S.ca.ac c mc).ob
  exact⟨ni ho,no (S.ca.ac c mc).ls (S.a1 c mc).1 fun _ z=>nomatch z⟩
 ·exact(S.bk.imp fun _ _ _ _ h=>h.mv kt).snoc ⟨q,t,vs,nt,rfl,by rw[hq,xk,<- l1],ht,hv⟩
 ·show(W.bk++[x]).length<=m+1
  rw[yw];exact Xg S.ll
theorem LS.op{ns:List Int}{m:Nat}{H:Hp}{W:Wd}(S:LS a ns m H W){t:Int}{r:Row}(h:opR W.cs t r=true){z:La}(mz:z∈W.as)(ez:z.pa=r.pa):opn z.fi z.un t=true:=by
 obtain⟨c,mc,rc⟩:=ya S.cf mz;unfold opR at h;rw[<- ez,<- rc.pa,pG S.ca.np mc]at h;rw[<- rc.fi,<- rc.un];exact h
theorem Bp(T:Txt K mg a):∀e∈RF a,ZZ K (.ref e) (.ref a.bt)=some true:=fun e m=>by
 unfold RF at m;simp only[zG,xz,or_false]at m;rcases m with rfl|rfl|rfl|rfl|rfl|rfl|rfl
 ·exact T.gT
 ·exact T.iU
 ·exact T.iP
 ·exact T.iV
 ·exact T.ir
 ·exact T.gq
 ·exact T.iT
def sp_zG(K:W.Frag)(a:Adr):Sp:=sp4 fun x y z t H Q _=>asR x fun hd=>asR y fun d=>asR z fun sc=>asI t fun k=>∃(ns:List Int) (W:Wd) (m:Nat),0<=k/\d=W.d/\H hd=some (.lst [.ref W.ch,.ref W.g,.ref W.j])/\SqL K H sc (ns.map V.int)/\LS a ns m H W/\m<50 /\
 (∀H',Same H H'->NoT H'->Q .non H')/\∀H' x v kvs,IF a ns (m+1) H H' W x v kvs->Q (.int W.bk.length) H'
theorem oM(T:Txt K mg a):Fo P w K mg base "_law_tried" 8 (sp_zG K a):=by
 refine T.qm.x4 ["_law_held","_law_accounts_here","_law_script","_law_k","_law_cell","_law_day_here","_law_number","_law_rows"] fun x0 x1 x2 x3 fA cdv A outer s H Q E ND HU hr h=>?_;obtain⟨hd,rfl,h2⟩:=asR.inv h;obtain⟨d,rfl,h3⟩:=asR.inv h2;obtain⟨sc,rfl,h4⟩:=asR.inv h3;obtain⟨k,rfl,ns,W,m,k0,rfl,hh,hS,S,m50,kN,kM⟩:=asI.inv h4;have sz:=szl;have hN:=S.nT;refine⟨_,(af (aS 4 ND (aN (aP T) hr aE (fa2 (fv 2) (aj aK (fv 3) aa))))
  (af (aS 5 ND (aN (lh T) hr aE (fa2 (fv 2) (aj aK (fv 3) aa))))
  (ag (Cn rfl T.qo rfl rfl rfl (fun pn Ee Ex PX=>(af (aW (aO jL (aj a7 (aN (aP T) hr PX (fa2 (fv 2) (fv 3))) aa) aa) (af (aS 6 ND (aj a7 (fv 4) (aj aK (ko (az K (fv 0) aa) T.bc (lN T) (hr.mono (by decide)) PX) aa)))
  (ag (aJ (aN (B4 T) hr PX (fa6 (az K (fv 0) aa) (az K (fv 0) aa) (az K (fv 0) aa) (fv 6) (aj aK (fv 5) (aj a7 (aj a9 (fv 4) aa) aa)) (aX [98,97,99,107])))))) aL)
  (af (aS 7 ND (aN (jK T) hr PX (fa4 (fv 2) (aj aK (fv 3) aa) (fv 1) (fv 5))))
  (af (aW (aO (dm K HU) (aj a7 (aj a9 (fv 4) aa) aa) aa) (ag (nJ (aj CU (ci (mi K) (az K (fv 7) aa) da (c8 aa)) (bJ (fa1 (aj dl (az K (az K (fv 7) aa) aa) aa)))) (yP (fv 7) aa rC))) aL)
  (ag (aJ (aN (Dc T) hr PX (fa6 (az K (fv 0) aa) (az K (fv 0) aa) (az K (fv 0) aa) (fv 5) (aX [110,111,116,101]) (fv 7))))))))) (fun e=>(ag (aJ cI))))))),?_⟩
 walk_at "rd";refine⟨ns,hS,by lia,fun cell _=>⟨ns,hS,by lia,fun day d0 d1=>?_⟩⟩;have kE:∀e∈RF a,∀H',Same H H'->NoT H'->∃Ce,yy e = .ref Ce/\ZZ K (.ref Ce) (.ref a.bt)=some true/\Q .non H':=fun e me H' s n=>⟨e,rfl,Bp T e me,kN H' s n⟩;have lbs:=S.bk.len;have l1:=S.ll;have l2:=S.ok.kl;obtain⟨dj,hj⟩:=S.ja.ob;have ac:AcAt H W.d W.as:=⟨.inl S.dd,S.ls⟩;refine⟨ns,hS,k0,fun i0 _=>?_⟩;by_cases h3:3<i0 % 8
 ·refine itp h3 ⟨_,_,.inl (SqL.of hh),av (j:=2) rfl,?_⟩
  refine⟨_,_,hj,Cm _ _,hN,W.b,W.u,W.bs,W.kvs,S.ja,by lia,?_⟩;refine⟨_,_,.inl (SqL.of hh),av (j:=0) rfl,_,_,.inl (SqL.of hh),av (j:=1) rfl,_,_,.inl (SqL.of hh),av (j:=2) rfl,hN,?_⟩;walk_at "rd";refine⟨.inr rfl,ZR _ (by lia),by lia,W.cd,W.cs,W.gx,W.o,W.b,W.u,W.bs,W.kvs,W.bk,S.ca,S.ga,S.ja,by lia,by lia,S.bk,fun n x hx=>?_,fun n x ws H' en hx un hv xd t1 hl hop hw L=>?_,kE⟩
  ·obtain⟨a1,a2,a3,a4,a5⟩:=S.ok.nm n x hx
   refine⟨a1,by lia,fun r mr=>?_⟩;obtain⟨z,mz,ez,_⟩:=(a3 r mr).pa;obtain⟨c,mc,rc⟩:=ya S.cf mz;exact⟨c,mc,rc.pa.trans ez⟩
  ·obtain⟨a1,a2,a3,a4,a5⟩:=S.ok.nm n x hx
   have rt:∀r∈trn x.rs,RwG ns W.as r/\BX W.as (day+cell / 7 % 50) r:=fun r mr=>by
    unfold trn at mr;obtain⟨r0,m0,rfl⟩:=yH.mp mr;have g:=a3 r0 m0;obtain⟨z,mz,ez,zc⟩:=g.pa;have am:-r0.am≠0:=by have:=g.am;lia
    exact⟨⟨⟨z,mz,ez,zc⟩,g.cu,am⟩,am,z,mz,ez,S.op (hop r0 m0) mz ez,zc⟩
   have lt:(trn x.rs).length=x.rs.length:=by unfold trn;rw[zK]
   have ev:=Ff a4;rw[lbs]at L |-
   obtain⟨v,kp,S'⟩:=S.put (x:=⟨W.bk.length,day+cell / 7 % 50,trn x.rs,some (n:Int)⟩) L hw rfl (S.ok.undo ⟨rfl,by show 2<=(trn x.rs).length/\(trn x.rs).length<=8;lia,fun r mr=>(rt r mr).1,ev⟩ rfl hx un xd rfl hv);exact kM H' _ v _ ⟨kp,S',⟨by show 0<=day+cell / 7 % 50;lia,t1⟩,hl,ev,fun r mr=>(rt r mr).2⟩
 ·refine itn h3 ⟨hN,by lia,d0,ns,W.as,m,hS,S.dd,ac,S.ai,by lia,fun q vs rs H1 fq hq ha l2 l8 hrs s1 N1=>?_⟩
  have key:∀G (vs:List V) (rs:List Row),Same H G->NoT G->G q=some (.lst vs)->A2 (RwAt G) vs rs->2<=rs.length->rs.length<=8->(∀r∈rs,(∃z∈W.as,z.pa=r.pa)/\CyI ns r.cu/\r.am≠0 /\ -1000000000000000<=r.am/\r.am<=1000000000000000) ->
   ∃d cs vs rs dx o b u bs kvs,CAt a.aQ a.aI G W.ch d cs/\(∀c∈cs,CuV c.cu)/\G q=some (.lst vs)/\A2 (RwAt G) vs rs/\(2<=rs.length/\rs.length<=40)/\(∀r∈rs,rOk r/\∃c∈cs,c.pa=r.pa)/\G W.g=some (dY a.ba dx (cl o))/\JAt a.aT G W.j b u bs kvs/\bs.length<=100/\kvs.length<=100 /\
    (∀H',C9 a G H' W.j b u bs kvs (.int day) (L2.T [110,111,116,101]) vs .non->lts o day->(∀r∈rs,acT cs day r)->EvR rs->Q (.int bs.length) H')/\∀e∈RF a,∀H',Same G H'->NoT H'->∃Ce,yy e = .ref Ce/\ZZ K (.ref Ce) (.ref a.bt)=some true/\Q .non H':=fun G vs rs sG nG hq ha l2 l8 hrs=>by
   have S1:=S.same sG nG;refine⟨W.cd,W.cs,vs,rs,W.gx,W.o,W.b,W.u,W.bs,W.kvs,S1.ca,fun c mc=>?_,hq,ha,⟨l2,by lia⟩,fun r mr=>?_,S1.ga,S1.ja,by lia,by lia,fun H' L hl hac hev=>?_,fun e me H' s n=>kE e me H' (sG.trans s) n⟩
   ·obtain⟨z,mz,rc⟩:=BH S.cf mc
    rw[rc.cu];cases z.cu with
    |none=>exact .inl rfl
    |some l=>exact .inr ⟨l,rfl⟩
   ·obtain⟨⟨z,mz,ez⟩,⟨_,_,_,_,hc⟩,h0,h1,h2⟩:=hrs r mr
    obtain⟨c,mc,rc⟩:=ya S.cf mz;exact⟨⟨hc,⟨h1,h2⟩,h0⟩,c,mc,rc.pa.trans ez⟩
   ·have rt:∀r∈rs,RwG ns W.as r/\BX W.as day r:=fun r mr=>by
     obtain⟨_,hcy,h0,_⟩:=hrs r mr;obtain⟨c,mc,ec,ho,hc⟩:=hac r mr;obtain⟨z,mz,rc⟩:=BH S.cf mc;have ez:=rc.pa.symm.trans ec;have zc:z.cu=none\/z.cu=some r.cu:=by
      rw[rc.cu]at hc;cases hz:z.cu with
      |none=>exact .inl rfl
      |some l=>
       rw[hz]at hc;rcases hc with hc|hc
       ·cases hc
       ·right;congr 1;simpa [cuV] using hc
     rw[rc.fi,rc.un]at ho;exact⟨⟨⟨z,mz,ez,zc⟩,hcy,h0⟩,h0,z,mz,ez,ho,zc⟩
    have hv:A2 (RwAt H') vs rs:=by
     obtain⟨_,_,_,_,_,_,kp,_⟩:=L;exact ha.imp fun v r _ _ z=>RwAt.mv _ _ v r (fun t l e=>kp _ _ e (S1.ja.tup e)) z
    rw[lbs];obtain⟨v,kp,S'⟩:=S1.put (x:=⟨W.bk.length,day,rs,none⟩) L hv rfl (S.ok.plain ⟨rfl,⟨l2,l8⟩,fun r mr=>(rt r mr).1,hev⟩ rfl);exact kM H' _ v _ ⟨fun c z e n=>kp c z (sG c z e) n,S',⟨d0,by show day<=146096;lia⟩,hl,hev,fun r mr=>(rt r mr).2⟩
  have rs1:∀r∈rs,(∃z∈W.as,z.pa=r.pa)/\CyI ns r.cu/\r.am≠0 /\ -400000000000000<=r.am/\r.am<=400000000000000:=fun r mr=>⟨(hrs r mr).pa,(hrs r mr).cu,(hrs r mr).am⟩;by_cases c4:cell / 7 % 4=1
  ·refine itp c4 ?_
   cases ha with
   |nil=>exact absurd l2 (by decide)
   | @cons v r0 vs rs h0 har=>
   obtain⟨q0,rfl,hq0⟩:=h0;refine⟨_,_,.inl (SqL.of hq),av (j:=0) rfl,q0,_,rfl,SqT.of hq0,(by show ¬ (HT.sIx 3 0 none=0/\HT.sIx 3 3 (some 2)=3);decide),fun p1 hp1=>?_⟩;obtain⟨G1,e1,t1,g1,M1⟩:=alloc (HO.tup (h_ [L2.T r0.pa,L2.T r0.cu,V.int r0.am] none (some 2))) hp1 N1 rfl;rw[e1];refine⟨_,_,.inl (SqL.of (t1 _ _ hq)),av (j:=0) rfl,?_⟩;walk_at "rd";refine⟨_,_,.inr (SqT.of (t1 _ _ hq0)),av (j:=2) rfl,?_⟩;walk_at "rd";obtain⟨b1,b2,b3,b4,b5⟩:=rs1 r0 (.head _);refine⟨by walk_at "om",fun p2 hp2=>?_⟩;have t2:=au (HO.tup [V.int (r0.am*2)]) hp2;refine⟨[L2.T r0.pa,L2.T r0.cu],[V.int (r0.am*2)],t2 _ _ g1,ad,by show 3<=sizeLine;lia,fun p3 H2 g3 t3 n3=>?_⟩;have t4:=t1.trans (t2.trans t3);have hq2:=t4 _ _ hq;refine⟨q,_,0,0,rfl,rfl,hq2,(by simp[ixN]),?_⟩;have sG:Same H (upd H2 q (.lst ((V.ref q0::vs).set 0 (.ref p3)))):=fG (s1.trans t4) fq;have nG:NoT (upd H2 q (.lst ((V.ref q0::vs).set 0 (.ref p3)))):=aA (n3 (aA M1 rfl)) rfl;have kq:Keep [q] H2 (upd H2 q (.lst ((V.ref q0::vs).set 0 (.ref p3)))):=Keep.refl.put (.head _);have gG:upd H2 q (.lst ((V.ref q0::vs).set 0 (.ref p3))) q=some (.lst (V.ref p3::vs)):=ad;have aG:A2 (RwAt (upd H2 q (.lst ((V.ref q0::vs).set 0 (.ref p3))))) (V.ref p3::vs) (⟨r0.pa,r0.cu,r0.am*2⟩::rs):=.cons ⟨p3,rfl,kq _ _ g3 (fun m=>by rw[zL.mp m,hq2]at g3;cases g3)⟩ (gt kq (LW.one hq2) (dB t4 har));generalize upd H2 q (.lst ((V.ref q0::vs).set 0 (.ref p3)))=G at sG nG gG aG |-
   refine⟨_,_,.inl (SqL.of (sG _ _ hh)),av (j:=0) rfl,_,_,.inl (SqL.of (sG _ _ hh)),av (j:=1) rfl,_,_,.inl (SqL.of (sG _ _ hh)),av (j:=2) rfl,nG,?_⟩;walk_at "rd";exact⟨.inl rfl,⟨d0,by lia⟩,key G _ _ sG nG gG aG l2 l8 fun r mr=>by
    rcases zG.mp mr with rfl|mr
    ·exact⟨b1,b2,(by show r0.am*2≠0;lia),(by show _<=r0.am*2;lia),(by show r0.am*2<=_;lia)⟩
    ·obtain⟨r1,r2,r3,r4,r5⟩:=rs1 r (.tail _ mr)
     exact⟨r1,r2,r3,by lia,by lia⟩⟩
  ·refine itn c4 ⟨_,_,.inl (SqL.of (s1 _ _ hh)),av (j:=0) rfl,_,_,.inl (SqL.of (s1 _ _ hh)),av (j:=1) rfl,_,_,.inl (SqL.of (s1 _ _ hh)),av (j:=2) rfl,N1,?_⟩
   walk_at "rd";exact⟨.inl rfl,⟨d0,by lia⟩,key H1 vs rs s1 N1 hq ha l2 l8 fun r mr=>by
    obtain⟨r1,r2,r3,r4,r5⟩:=rs1 r mr;exact⟨r1,r2,r3,by lia,by lia⟩⟩
end
open PySem L2 K19 K22
section
variable{P:Program}{w:World}{K:W.Frag}{mg:Str->Option Value}{base:Heap}{a:Adr}
open K3
theorem DK(be:List (List Nat))(x:La):HO.lst (be.map L2.T)≠laL x:=fun z=>by
 injection z with z
 have e:=congrArg (fun l:List V=>l[1]?) z;simp only[List.getElem?_map]at e;obtain⟨l,_,e⟩:=uE.mp e;cases e
def xi:HO->Nat
 | .ins _ _ l=>l.length
 |_=>0
theorem Ar{H:Hp}{p q:Addr}{x y:HO}(h:H p=some x)(g:H q=some y)(n:xi x≠xi y):p≠q:=a6 h g fun z=>n (congrArg xi z)
theorem LS.chg{ns:List Int}{m:Nat}{H H':Hp}{W:Wd}(S:LS a ns m H W){as:List La}{cs:List Acc}(ca:CAt a.aQ a.aI H' W.ch W.cd cs)(cf:A2 (CF as) cs as)(bl:∀c∈cs,c.be.length<=m+1)
 (dd:H' W.d=some (.dK (as.map kyL))) (ls:∀x∈as,H' x.ls=some (laL x)) (ai:AsI as (m+1)) (kp:Keep (W.d::W.cd::(W.cs.map (·.bl)++W.cs.map (·.ob)++W.as.map (·.ls))) H H') (nT:NoT H')
 (oc:∀c∈cs,(∃z∈W.cs,c.bl=z.bl/\c.ob=z.ob)\/(H c.bl=none/\H c.ob=none)) (oa:∀x∈as,(∃z∈W.as,x.ls=z.ls)\/H x.ls=none) (up:∀z∈W.as,∃y∈as,y.pa=z.pa/\y.cu=z.cu) (nl:(as.map (·.ls)).Nodup) :
 LS a ns (m+1) H' { W with as:=as,cs:=cs }/\Keep (own W) H H'/\∀p∈own { W with as:=as,cs:=cs },p∈own W\/H p=none:=by
 have no:∀ {q:Addr},q≠W.d->q≠W.cd->(∀c∈W.cs,q≠c.bl/\q≠c.ob)->(∀x∈W.as,q≠x.ls)->q∉W.d::W.cd::(W.cs.map (·.bl)++W.cs.map (·.ob)++W.as.map (·.ls)):=fun h1 h2 h3 h4 mm=>by
  simp only[zG,y9,yH]at mm;rcases mm with q|q|(⟨c,mc,e⟩|⟨c,mc,e⟩)|⟨x,mx,e⟩
  ·exact h1 q
  ·exact h2 q
  ·exact(h3 c mc).1 e.symm
  ·exact(h3 c mc).2 e.symm
  ·exact h4 x mx e.symm
 have ni:∀ {q C dx:Addr} {fs:List (Str × V)},H q=some (.ins C dx fs)->fs.length≠5->q∉W.d::W.cd::(W.cs.map (·.bl)++W.cs.map (·.ob)++W.as.map (·.ls)):=fun {q C dx fs} e l5=>
  no (a6 e S.dd) (a6 e S.ca.dc) (fun c mc=>⟨a6 e (S.ca.ac c mc).ls,by obtain⟨dx,ho⟩:=(S.ca.ac c mc).ob;exact Ar e ho l5⟩) fun x mx=>a6 e (S.ls x mx)
 have kt:∀t l,H t=some (.tup l)->H' t=some (.tup l):=fun t l e=>kp _ _ e (no (a6 e S.dd) (a6 e S.ca.dc) (fun c mc=>⟨a6 e (S.ca.ac c mc).ls,by obtain⟨dx,ho⟩:=(S.ca.ac c mc).ob;exact a6 e ho⟩) fun x mx=>a6 e (S.ls x mx));have hb:=S.ja.ls;have hu:=S.ja.dc;have kb:=no (a6 hb S.dd) (a6 hb S.ca.dc) (fun c mc=>⟨Ne.symm (S.a1 c mc).1,by obtain⟨dx,ho⟩:=(S.ca.ac c mc).ob;exact a6 hb ho⟩) fun x mx=>Ne.symm (S.a2 x mx);have ku:=no (Ne.symm S.a3.2.2) (Ne.symm S.a3.1) (fun c mc=>⟨a6 hu (S.ca.ac c mc).ls,by obtain⟨dx,ho⟩:=(S.ca.ac c mc).ob;exact a6 hu ho⟩) fun x mx=>a6 hu (S.ls x mx);obtain⟨dj,hj⟩:=S.ja.ob;have fre:∀ {q:Addr} {o:HO},H q=some o->∀ {p:Addr},H p=none->p≠q:=fun {q o} e {p} n z=>by rw[z,e]at n;cases n
 refine⟨⟨ca,cf,bl,dd,ls,ai,kp _ _ S.ga (ni S.ga (show 1≠5 by decide)),S.oo,S.ja.keep kp (ni hj (show 2≠5 by decide)) kb ku,S.bk.imp fun _ _ _ _ h=>h.mv kt,⟨fun n x e=>?_,S.ok.kv,S.ok.kl,S.ok.cn⟩,ZV S.ll,nT,fun c mc=>⟨?_,fun x mx=>a6 (ca.ac c mc).ls (ls x mx) (DK _ _)⟩,fun x mx=>?_,S.a3,nl⟩,kp.mono fun p mm=>?_,fun p mm=>?_⟩
 ·obtain⟨e1,e2,e3,e4⟩:=S.ok.nm n x e
  refine⟨e1,e2,fun r mr=>?_,e4⟩;obtain⟨⟨z,mz,p1,p2⟩,q,q'⟩:=e3 r mr;obtain⟨y,my,f1,f2⟩:=up z mz;exact⟨⟨y,my,f1.trans p1,by rw[f2];exact p2⟩,q,q'⟩
 ·rcases oc c mc with ⟨z,mz,e,_⟩|⟨e,_⟩
  ·rw[e];exact(S.a1 z mz).1
  ·exact fre hb e
 ·rcases oa x mx with ⟨z,mz,e⟩|e
  ·rw[e];exact S.a2 z mz
  ·exact fre hb e
 ·unfold own
  simp only[zG,y9]at mm |-
  rcases mm with q|q|q
  ·exact .inr (.inl q)
  ·exact .inl q
  ·exact .inr (.inr (.inr (.inr (.inr q))))
 ·unfold own at mm |-
  simp only[zG,y9,yH]at mm |-
  rcases mm with q|q|q|q|q|(⟨c,mc,rfl⟩|⟨c,mc,rfl⟩)|⟨x,mx,rfl⟩
  ·exact .inl (.inl q)
  ·exact .inl (.inr (.inl q))
  ·exact .inl (.inr (.inr (.inl q)))
  ·exact .inl (.inr (.inr (.inr (.inl q))))
  ·exact .inl (.inr (.inr (.inr (.inr (.inl q)))))
  ·rcases oc c mc with ⟨z,mz,e,_⟩|⟨e,_⟩
   ·exact .inl (.inr (.inr (.inr (.inr (.inr (.inl (.inl ⟨z,mz,e.symm⟩)))))))
   ·exact .inr e
  ·rcases oc c mc with ⟨z,mz,_,e⟩|⟨_,e⟩
   ·exact .inl (.inr (.inr (.inr (.inr (.inr (.inl (.inr ⟨z,mz,e.symm⟩)))))))
   ·exact .inr e
  ·rcases oa x mx with ⟨z,mz,e⟩|e
   ·exact .inl (.inr (.inr (.inr (.inr (.inr (.inr ⟨z,mz,e.symm⟩))))))
   ·exact .inr e
theorem vH{l:List Nat}:∀ {as:List La},(∀y∈as,y.pa≠l)->cU (as.map kyL) (.inr ⟨⟨l⟩⟩)=none
 | [],_=>rfl
 |y::r,h=>by
  rw[xx,bG (fun z=>h y (.head _) (by simpa [kyL] using z))];exact vH fun z m=>h z (.tail _ m)
theorem Bh{as:List La}{x:La}(h:∀y∈as,y.pa≠x.pa):cW (as.map kyL) (.inr ⟨⟨x.pa⟩⟩) (.ref x.ls)=(as++[x]).map kyL:=by
 rw[nc _ (vH h),vd];rfl
abbrev sM(H:Hp)(W:Wd)(x:La):Hp:=upd (upd H x.ls (laL x)) W.d (.dK ((W.as++[x]).map kyL))
section
variable{ns:List Int}{m:Nat}{H H':Hp}{W:Wd}(S:LS a ns m H W){x:La}
include S
theorem LS.no_d{c:Acc}(mc:c∈W.cs):c.ob∉[W.d]/\c.bl∉[W.d]:=by
 obtain⟨dx,ho⟩:=(S.ca.ac c mc).ob;exact⟨fun z=>a6 ho S.dd (by intro z;cases z) (zL.mp z),fun z=>a6 (S.ca.ac c mc).ls S.dd (by intro z;cases z) (zL.mp z)⟩
theorem LS.ch_d:W.ch∉[W.d]:=by
 obtain⟨dx,ho⟩:=S.ca.ob;exact fun z=>a6 ho S.dd (by intro z;cases z) (zL.mp z)
theorem LS.addC(hp:H x.ls=none):CAt a.aQ a.aI (sM H W x) W.ch W.cd W.cs:=
 S.ca.keep (S:=[W.d]) ((Keep.refl.new hp).put (.head _)) S.ch_d (fun z=>S.a3.2.1 (zL.mp z)) fun c mc=>S.no_d mc
theorem LS.more(hx:∀y∈W.as,y.pa≠x.pa)(hp:H x.ls=none)(po:POk x.pa)(xf:0<=x.fi/\x.fi<=145994)(xc:x.cu=none)(xu:x.un=none){t:La}(mt:t∈W.as){n:List Nat}(ep:x.pa=t.pa++58::n){c:Acc}(c1:c.pa=x.pa)(c2:c.cu = .non)(c3:c.fi=x.fi)(c4:c.un=none)(c5:c.be=[])
 (f1:sM H W x c.ob=none) (f2:sM H W x c.bl=none) (J:CAt a.aQ a.aI H' W.ch W.cd (fO W.cs t.pa (grw x.pa)++[c])) (kp:Keep (W.cd::W.cs.map (·.bl)) (sM H W x) H') (nT:NoT H') :
 LS a ns (m+1) H' { W with as:=W.as++[x],cs:=fO W.cs t.pa (grw x.pa)++[c] }/\Keep (own W) H H'/\∀p∈own { W with as:=W.as++[x],cs:=fO W.cs t.pa (grw x.pa)++[c] },p∈own W\/H p=none:=by
 have pd:x.ls≠W.d:=fun z=>by rw[z,S.dd]at hp;cases hp
 have of1:∀ {p:Addr},sM H W x p=none->H p=none:=fun {p} e=>by
  have n1:p≠W.d:=fun z=>by rw[z]at e;unfold sM at e;rw[ad]at e;cases e
  unfold sM at e;rw[ah n1]at e;have n2:p≠x.ls:=fun z=>by rw[z,ad]at e;cases e
  rw[ah n2]at e;exact e
 have out:∀ {p:Addr},p≠W.cd->(∀c∈W.cs,p≠c.bl)->p∉W.cd::W.cs.map (·.bl):=fun {p} h1 h2 mm=>by
  rcases zG.mp mm with q|q
  ·exact h1 q
  ·obtain⟨c,mc,e⟩:=yH.mp q
   exact h2 c mc e.symm
 have fre:∀ {q:Addr} {o:HO},H q=some o->x.ls≠q:=fun e z=>by rw[z,e]at hp;cases hp
 have inl:∀ {y:La},y∈W.as->y∈W.as++[x]:=fun my=>rV _ my;have hx1:sM H W x x.ls=some (laL x):=(ah pd).trans ad;have md:∀z∈fO W.cs t.pa (grw x.pa),∃y∈W.cs,z.ob=y.ob/\z.bl=y.bl/\z.be.length<=y.be.length+1:=fun z mz=>by
  obtain⟨y,my,e⟩:=eI mz;refine⟨y,my,?_⟩;rw[e];split
  ·exact⟨rfl,rfl,by show(y.be++[x.pa]).length<=_;rw[yw];exact z4 _⟩
  ·exact⟨rfl,rfl,Z6 _⟩
 refine S.chg J ?_ (fun z mz=>?_) (kp _ _ ad (out (Ne.symm S.a3.2.1) fun c mc=>Ne.symm (a6 (S.ca.ac c mc).ls S.dd))) (fun y my=>?_) ⟨?_,?_,fun y my=>?_,?_⟩ ?_ nT (fun z mz=>?_) (fun y my=>?_) (fun z mz=>⟨z,inl mz,rfl,rfl⟩) ?_
 ·refine(qY (fun c y my r=>?_) (S.cf.imp (S:=CF (W.as++[x])) fun _ _ _ _ r=>⟨r.pa,r.cu,r.fi,r.un,fun z=>by obtain⟨y,my,e⟩:=r.be z;exact⟨y,inl my,e⟩⟩)).snoc ⟨c1,by rw[c2,xc];rfl,c3,c4.trans xu.symm,fun z=>absurd c5 z⟩
  split
  ·rename_i e
   exact⟨r.pa,r.cu,r.fi,r.un,fun _=>⟨x,uU _ (.head _),n,by rw[ep,<- e,r.pa]⟩⟩
  ·exact r
 ·rcases y9.mp mz with mz|mz
  ·obtain⟨y,my,_,_,e⟩:=md z mz
   exact uM e (Xg (S.bl y my))
  ·rw[zL.mp mz,c5];exact ud _
 ·rcases y9.mp my with my|my
  ·have e:=S.ls y my
   exact kp _ _ ((ah (a6 e S.dd)).trans ((ah (Ne.symm (fre e))).trans e)) (out (a6 e S.ca.dc) fun c mc=>Ne.symm ((S.a1 c mc).2 y my))
  ·rw[zL.mp my]
   exact kp _ _ hx1 (out (fre S.ca.dc) fun c mc=>fre (S.ca.ac c mc).ls)
 ·rw[vd]
  exact dZ S.ai.nd fun mm=>by obtain⟨y,my,e⟩:=yH.mp mm;exact hx y my e
 ·rw[yw];exact Xg S.ai.len
 ·rcases y9.mp my with my|my
  ·exact S.ai.ok y my
  ·rw[zL.mp my]
   exact⟨po,xf,fun l e=>by rw[xc]at e;cases e⟩
 ·obtain⟨y,z,r,e,t1,t2⟩:=S.ai.top
  exact⟨y,z,r++[x],by rw[e];rfl,t1,t2⟩
 ·refine Keep.trans ((Keep.refl.new hp).put (.head _)) (kp.mono fun p mm=>?_)
  rcases zG.mp mm with q|q
  ·rw[q];exact .tail _ (.head _)
  ·exact .tail _ (.tail _ (rV _ (rV _ q)))
 ·rcases y9.mp mz with mz|mz
  ·obtain⟨y,my,e1,e2,_⟩:=md z mz
   exact .inl ⟨y,my,e2,e1⟩
  ·rw[zL.mp mz];exact .inr ⟨of1 f2,of1 f1⟩
 ·rcases y9.mp my with my|my
  ·exact .inl ⟨y,my,rfl⟩
  ·rw[zL.mp my];exact .inr hp
 ·rw[vd]
  exact dZ S.nl fun mm=>by obtain⟨y,my,e⟩:=yH.mp mm;exact fre (S.ls y my) e.symm
end
def oE(as:List La)(l:List Nat)(t:Int):List La:=as.map fun z=>if z.pa=l then { z with un:=some t } else z
theorem mI{β:Type}{as:List La}{l:List Nat}{t:Int}(g:La->β)(h:∀z:La,g { z with un:=some t }=g z):(oE as l t).map g=as.map g:=by
 unfold oE;rw[ug];apply rE;intro z _;show g (if z.pa=l then _ else z)=g z;split
 ·exact h z
 ·rfl
theorem mH{as:List La}{l:List Nat}{t:Int}{z:La}(h:z∈oE as l t):∃y∈as,z=if y.pa=l then { y with un:=some t } else y:=by
 obtain⟨y,hy,e⟩:=yH.mp h;exact⟨y,hy,e.symm⟩
theorem ww{as:List La}(l:List Nat)(t:Int){y:La}(h:y∈as):∃z∈oE as l t,z.pa=y.pa/\z.cu=y.cu:=⟨_,xF h,by split <;> rfl,by split <;> rfl⟩
theorem wb{α β:Type}{R S:α->β->Prop}{f:α->α}{g:β->β}:∀ {xs:List α} {ys:List β},(∀x y,R x y->S (f x) (g y))->A2 R xs ys->A2 S (xs.map f) (ys.map g)
 |_,_,_,.nil=>.nil
 |_,_,k,.cons r h=>.cons (k _ _ r) (wb k h)
theorem Hy{as:List La}(nd:(as.map (·.ls)).Nodup){x y:La}(mx:x∈as)(my:y∈as)(e:x.ls=y.ls):x=y:=by
 induction as with
 |nil=>cases mx
 |cons z r ih=>
  rw[xx]at nd;obtain⟨n1,n2⟩:=Zd.mp nd;rcases zG.mp mx with rfl|mx1
  ·rcases zG.mp my with rfl|my1
   ·rfl
   ·exact absurd (by rw[e];exact xF (f:=(·.ls)) my1) n1
  ·rcases zG.mp my with rfl|my1
   ·exact absurd (by rw[<- e];exact xF (f:=(·.ls)) mx1) n1
   ·exact ih n2 mx1 my1
section
variable{ns:List Int}{m:Nat}{H H':Hp}{W:Wd}(S:LS a ns m H W){x:La}{t:Int}
include S
theorem LS.shutC(mx:x∈W.as):CAt a.aQ a.aI (upd H x.ls (laL { x with un:=some t })) W.ch W.cd W.cs:=by
 have hx:=S.ls x mx;obtain⟨dx,ho⟩:=S.ca.ob;refine S.ca.keep (S:=[x.ls]) (Keep.refl.put (.head _)) (fun z=>a6 ho hx (by intro z;cases z) (zL.mp z)) (fun z=>a6 S.ca.dc hx (by intro z;cases z) (zL.mp z)) fun c mc=>?_;obtain⟨dx,ho⟩:=(S.ca.ac c mc).ob;exact⟨fun z=>a6 ho hx (by intro z;cases z) (zL.mp z),fun z=>(S.a1 c mc).2 x mx (zL.mp z)⟩
theorem LS.less(mx:x∈W.as)(h58:58∈x.pa)(J:CAt a.aQ a.aI H' W.ch W.cd (fO W.cs x.pa (shu t)))(kp:Keep (W.cs.map (·.ob)) (upd H x.ls (laL { x with un:=some t })) H')(nT:NoT H') :
 LS a ns (m+1) H' { W with as:=oE W.as x.pa t,cs:=fO W.cs x.pa (shu t) }/\Keep (own W) H H'/\∀p∈own { W with as:=oE W.as x.pa t,cs:=fO W.cs x.pa (shu t) },p∈own W\/H p=none:=by
 have hx:=S.ls x mx;have out:∀ {p:Addr} {o:HO},H p=some o->xi o=0->p∉W.cs.map (·.ob):=fun {p o} e n mm=>by
  obtain⟨c,mc,rfl⟩:=yH.mp mm;obtain⟨dx,ho⟩:=(S.ca.ac c mc).ob;rw[ho]at e;cases e;cases n
 refine S.chg J (wb (fun c y r=>?_) S.cf) (fun z mz=>?_) ?_ (fun y my=>?_) ⟨?_,?_,fun y my=>?_,?_⟩ ?_ nT (fun z mz=>?_) (fun y my=>?_) (fun z mz=>ww _ _ mz) ?_
 ·have be:c.be≠[]->∃z∈oE W.as x.pa t,∃n,z.pa=y.pa++58::n:=fun z=>by
   obtain⟨z,mz,n,e⟩:=r.be z;obtain⟨z',m',e',_⟩:=ww x.pa t mz;exact⟨z',m',n,e'.trans e⟩
  by_cases e:c.pa=x.pa
  ·rw[if_pos e,if_pos (r.pa.symm.trans e)]
   exact⟨r.pa,r.cu,r.fi,rfl,be⟩
  ·rw[if_neg e,if_neg fun z=>e (r.pa.trans z)]
   exact⟨r.pa,r.cu,r.fi,r.un,be⟩
 ·obtain⟨y,my,e⟩:=eI mz
  rw[e];refine ZV ?_;split <;> exact S.bl y my
 ·rw[mI kyL fun _=>rfl]
  exact kp _ _ ((ah (a6 S.dd hx)).trans S.dd) (out S.dd rfl)
 ·obtain⟨z,mz,rfl⟩:=mH my
  by_cases e:z.pa=x.pa
  ·rw[if_pos e,Bj S.ai.nd mz mx e]
   exact kp _ _ ad (out hx rfl)
  ·rw[if_neg e]
   have hz:=S.ls z mz;exact kp _ _ ((ah fun q=>e (by rw[Hy S.nl mz mx q])).trans hz) (out hz rfl)
 ·rw[mI _ fun _=>rfl];exact S.ai.nd
 ·unfold oE;rw[zK];exact ZV S.ai.len
 ·obtain⟨z,mz,rfl⟩:=mH my
  have o:=S.ai.ok z mz;split <;> exact o
 ·obtain⟨y,z,r,e,t1,t2⟩:=S.ai.top
  have q:∀ {y:La},Tp y -> ¬ y.pa=x.pa:=fun t e=>jC t.nm (by rw[e];exact h58);refine⟨y,z,oE r x.pa t,?_,t1,t2⟩;rw[e];unfold oE;rw[xx,xx,if_neg (q t1),if_neg (q t2)]
 ·refine Keep.trans (Keep.refl.put (.tail _ (.tail _ (uU _ (xF mx))))) (kp.mono fun p mm=>.tail _ (.tail _ (rV _ (uU _ mm))))
 ·obtain⟨y,my,e⟩:=eI mz
  rw[e];refine .inl ⟨y,my,?_⟩;split <;> exact⟨rfl,rfl⟩
 ·obtain⟨z,mz,rfl⟩:=mH my
  refine .inl ⟨z,mz,?_⟩;split <;> rfl
 ·rw[mI _ fun _=>rfl];exact S.nl
end
theorem EK{K:W.Frag}{H:Hp}{p q:Addr}{xs:List V}(hx:SqL K H p xs)(hy:SqL K H q []):EqR K H p q xs.isEmpty:=by
 cases xs with
 |nil=>exact EqR.lst (e:=fun _=>true) hx hy rfl fun j x y gx _=>by simp at gx
 |cons x r=>exact EqR.len hx hy (by simp)
theorem LS.le{ns:List Int}{m:Nat}{H:Hp}{W:Wd}(S:LS a ns m H W):LS a ns (m+1) H W:=
 { S with bl:=fun c mc=>ZV (S.bl c mc),ai:=⟨S.ai.nd,ZV S.ai.len,S.ai.ok,S.ai.top⟩,ll:=ZV S.ll }
def Iz(as:List La)(x:La):Prop:=58∈x.pa/\x.un=none/\∀y∈as,∀n,y.pa≠x.pa++58::n
def yC(as:List La)(l:List Nat):List V:=((as.map kyL).map fun e=>kV e.1).filter (qv as fun y=>decide (y.pa.take (l.length+1)=l++[58]))
theorem C7{as:List La}(nd:(as.map (·.pa)).Nodup){l:List Nat}(h:(yC as l).isEmpty=true):∀y∈as,∀n,y.pa≠l++58::n:=fun y my n e=>by
 have z:L2.T y.pa∈yC as l:=Z7.mpr ⟨yH.mpr ⟨_,xF my,rfl⟩,by
  rw[jg nd my,e];exact decide_eq_true (by rw[show l++58::n=(l++[58])++n by simp,List.take_left' (by simp)])⟩
 rw[List.isEmpty_iff.mp h]at z;cases z
theorem Dz(l:List Nat)(n:Nat):gz l none (some ((n:Int)+1))=l.take (n+1):=by
 have e:HT.sIx l.length l.length (some ((n:Int)+1))=min (n+1) l.length:=by unfold HT.sIx;simp;lia
 show(l.drop 0).take (HT.sIx l.length l.length (some ((n:Int)+1))-0)=_;rw[e,List.drop_zero,Nat.sub_zero,List.take_eq_take_iff];lia
def sp_uM(K:W.Frag)(a:Adr):Sp:=sp4 fun x y z t H Q _=>asR x fun ch=>asR y fun d=>asR z fun sc=>asI t fun k=>∃(ns:List Int) (W:Wd) (m:Nat),0<=k/\ch=W.ch/\d=W.d/\SqL K H sc (ns.map V.int)/\LS a ns m H W/\m<50 /\
 ∀H' as cs,LS a ns (m+1) H' { W with as:=as,cs:=cs }->Keep (own W) H H'->(∀p∈own { W with as:=as,cs:=cs },p∈own W\/H p=none)->Q .non H'
theorem lP(T:Txt K mg a):Fo P w K mg base "_law_changed" 8 (sp_uM K a):=by
 refine T.nU.x4 fF fun x0 x1 x2 x3 fA cdv A outer s H Q E ND HU hr h=>?_;obtain⟨ch,rfl,h2⟩:=asR.inv h;obtain⟨d,rfl,h3⟩:=asR.inv h2;obtain⟨sc,rfl,h4⟩:=asR.inv h3;obtain⟨k,rfl,ns,W,m,k0,rfl,rfl,hS,S,m50,kQ⟩:=asI.inv h4;have sz:=szl;have hN:=S.nT
 skip
 have c5:∃u,PSs (bW (XE P w) P w K mg base fF "_law_changed" (ae (top 80)) fA cdv A outer s H E) (Ys 5 (aq (top 80))) u/\∀(cell day:Int) (t:La) (n:List Nat) (ps:Addr) (vs:List (List Nat)) (H1:Hp),t∈W.as->Tp t->POk (t.pa++58::n)->58∉n->0<=day->day<=145994->H1 ps=some (.lst (vs.map L2.T))->(∀l∈vs,∃x∈W.as,x.pa=l/\Iz W.as x)->Same H H1->NoT H1->u { nx:=fun _ H'=>Q .non H',rt:=Q } [some (.ref W.ch),some (.ref W.d),some (.ref sc),some (.int k),some (.int cell),some (.int day),some (L2.T (t.pa++58::n)),some (.ref ps)] H1:=by
  refine⟨_,(ag (aW (L2.PW.pt (gr (aO (dm K HU) (aj a7 (aN (aP T) hr aE (fa2 (fv 2) (aj aK (fv 3) aa))) aa) aa) (eh (cY (oZ (Zr HU) (fv 6) (fv 1)) (by with_unfolding_all rfl))))) (af (gY (Zr HU) (fv 1) (fv 6) (cX (fa3 cI (fv 5) cI)) rfl)
   (ag (bC (cj (fv 0) T.bg (jJ T) (hr.mono (by decide)) aE (fa3 (fv 6) cI (fv 5)))))) (ag (aW (jH (aO (b8 K HU) (fv 7) (cX (FA.pa di)))) (af (aS 6 ND (az K (fv 7) (aj a7 (fv 4) (aH (bj K) rfl T.cp bD (fa1 (fv 7))))))
   (af (nJ (aH (Ev rfl) rfl T.DQ Bd (fa2 (aj aK (az K (bQ (Zr HU) (fv 1) (fv 6) (fun _ _=>rfl)) aa) aa) (fv 5))) (yP (bQ (Zr HU) (fv 1) (fv 6) (fun _ _=>rfl)) aa rC))
   (ag (bC (cj (fv 0) T.bg (iY T) (hr.mono (by decide)) aE (fa2 (fv 6) (az K (bQ (Zr HU) (fv 1) (fv 6) (fun _ _=>rfl)) aa))))))) aL)))),fun cell day t n ps vs H1 mt tt po n58 d0 d1 hps hvs s1 n1=>?_⟩
  have S1:=S.same s1 n1;have lp:=po.len;have l1:=S.cf.len;have l2:=S.ai.len;have kQ1:∀H' as cs,LS a ns (m+1) H' { W with as:=as,cs:=cs }/\Keep (own W) H1 H'/\(∀p∈own { W with as:=as,cs:=cs },p∈own W\/H1 p=none)->Q .non H':=fun H' as cs ⟨q1,q2,q3⟩=>kQ H' as cs q1 ((Keep.same s1).trans q2) fun p mp=>(q3 p mp).imp id fun e=>by
   cases e':H p with
   |none=>rfl
   |some z=>rw[s1 _ _ e']at e;cases e
  clear kQ;walk_at "rd";refine⟨ns,hS.same s1,by lia,fun i _=>?_⟩;refine' Fy (fun key=>_) _
  rotate_left 1
  ·by_cases h3:¬ i % 3=1
   ·exact itn h3 key
   ·refine itp (Decidable.of_not_not h3) ?_
    by_cases hx:∀y∈W.as,y.pa≠t.pa++58::n
    ·have g:=DGet.k (k:=.inr ⟨⟨t.pa++58::n⟩⟩) S1.dd
     rw[vH hx]at g;refine⟨W.d,none,rfl,g,itp rfl ⟨by walk_at "om",fun p hp=>?_⟩⟩
     let x:La:=⟨t.pa++58::n,none,day,none,p⟩
     have pd:W.d≠p:=aC S1.dd hp;have ln:(W.as.map kyL).length<sizeLine:=by rw[zK];lia
     have dp:=DPut.k (k:=.inr ⟨⟨t.pa++58::n⟩⟩) (v:=.ref p) ((ah (o:=.lst [V.non,V.int day,V.non]) pd).trans S1.dd) ln;rw[Bh (x:=x) hx]at dp;refine⟨W.d,_,rfl,dp,?_⟩;have J:=S1.addC (x:=x) hp;obtain⟨dx,ho⟩:=J.ob;obtain⟨c,mc,rc⟩:=ya S.cf mt;refine⟨dx,_,ho,zZ _,aA (aA n1 rfl) rfl,⟨po.lo,by lia⟩,⟨d0,by lia⟩,t.pa,n,W.cd,W.cs,c,rfl,n58,po.pn,J,by lia,(fun c mc=>by have:=S.bl c mc;lia),zh (fun c mc e=>?_),mc,rc.pa,by rw[rc.un,tt.un],by rw[rc.fi,tt.fi];exact d0,fun c H2 p1 p2 p3 p4 p5 p6 p7 J2 K2 N2=>?_⟩
     ·obtain⟨y,my,ry⟩:=BH S.cf mc
      exact hx y my (ry.pa.symm.trans e)
     ·exact kQ1 _ _ _ (S1.more (x:=x) hx hp po ⟨d0,d1⟩ rfl rfl mt rfl p1 p2 p3 p4 p5 p6 p7 J2 K2 N2)
    ·obtain⟨y,my,e⟩:∃y∈W.as,y.pa=t.pa++58::n:=Classical.byContradiction fun z=>hx fun y my e=>z ⟨y,my,e⟩
     have g:=AcAt.get ⟨.inl S1.dd,S1.ls⟩ S1.ai.nd my;rw[e]at g;exact⟨W.d,_,rfl,g,itn (by intro z;cases z) key⟩
  refine⟨n1,ud _,fun p hp=>⟨_,EK (SqL.of ((ah (aC hps hp)).trans hps)) (SqL.of ad),H1,Gc.none (au _ hp),?_⟩⟩;cases vs with
  |nil=>exact itn (by intro z;cases z) (kQ1 _ _ _ ⟨S1.le,Keep.refl,fun p mp=>.inl mp⟩)
  |cons v0 vr=>
   generalize hv:v0::vr=vs at hvs hps;have lpos:0<(vs.map L2.T).length:=by rw[zK,<- hv];exact Nat.zero_lt_succ _
   have m0:=ZR cell (show((vs.map L2.T).length:Int)≠0 by lia);have m1:=ZW cell (show(0:Int)<(vs.map L2.T).length by lia);obtain⟨j,ej⟩:∃j:Nat,cell % (vs.map L2.T).length=j:=⟨(cell % (vs.map L2.T).length).toNat,by lia⟩;have jl:j<vs.length:=by rw[<- zK (f:=L2.T)];lia
   obtain⟨x,mx,ex,l58,xu,xn⟩:=hvs vs[j] (YB jl);refine itp (by rw[<- hv];rfl) ⟨_,.inl (SqL.of hps),by lia,_,L2.T x.pa,.inl (SqL.of hps),?_,W.d,.ref x.ls,rfl,AcAt.get ⟨.inl S1.dd,S1.ls⟩ S1.ai.nd mx,?_⟩
   ·rw[ej,ex]
    exact av (by rw[List.getElem?_map,List.getElem?_eq_getElem jl];rfl)
   walk_at "rd";refine⟨_,.int x.fi,.inl (SqL.of (S1.ls x mx)),av (j:=1) rfl,?_⟩;walk_at "rd";have ok:=S.ai.ok x mx;have lx:=ok.1.len;obtain⟨t1,et,t0,t2⟩:∃t1,(if day > x.fi+1 then day else x.fi+1)=t1/\x.fi<t1/\t1<=146096:=⟨_,rfl,by split <;> lia,by split <;> lia⟩;rw[et];refine⟨W.d,.ref x.ls,rfl,AcAt.get ⟨.inl S1.dd,S1.ls⟩ S1.ai.nd mx,x.ls,_,2,2,rfl,rfl,S1.ls x mx,rfl,?_⟩;have J:=S1.shutC (t:=t1) mx;obtain⟨dx,ho⟩:=J.ob;obtain⟨c,mc,rc⟩:=ya S.cf mx;have hd2:upd H1 x.ls (laL { x with un:=some t1 }) W.d=some (.dK (W.as.map kyL)):=(ah (a6 S1.dd (S1.ls x mx))).trans S1.dd;refine⟨dx,_,ho,wB _,W.d,.ref x.ls,rfl,.inl ⟨_,.inr ⟨⟨x.pa⟩⟩,.inl hd2,rfl,(AcAt.val (H:=H) (d:=W.d) S.ai.nd mx).symm⟩,?_⟩;walk_at "rd";refine⟨_,.int t1,.inl (SqL.of ad),av (j:=2) rfl,aA n1 rfl,⟨ok.1.lo,by lia⟩,⟨by lia,t2⟩,W.cd,W.cs,c,J,mc,rc.pa,ok.1.pn,by rw[rc.un,xu],by rw[rc.fi];exact t0,?_,fun H2 J2 K2 N2=>kQ1 _ _ _ (S1.less mx l58 J2 K2 N2)⟩;cases eb:c.be with
   |nil=>rfl
   |cons _ _=>obtain⟨y,my,n,e⟩:=rc.be (by rw[eb];intro z;cases z);exact absurd e (xn y my n)
 obtain⟨u5,hu5,c5⟩:=c5;have c4:∃u,PSs (bW (XE P w) P w K mg base fF "_law_changed" (ae (top 80)) fA cdv A outer s H E) (Ys 4 (aq (top 80))) u/\∀(cell day:Int) (t:La) (n:List Nat) (ps:Addr) (vs:List (List Nat)) (H1:Hp),t∈W.as->Tp t->POk (t.pa++58::n)->58∉n->0<=day->day<=145994->H1 ps=some (.lst (vs.map L2.T))->vs.length<=50->(∀l∈vs,∃x∈W.as,x.pa=l/\58∈x.pa/\x.un=none)->Same H H1->NoT H1->u { nx:=fun _ H'=>Q .non H',rt:=Q } [some (.ref W.ch),some (.ref W.d),some (.ref sc),some (.int k),some (.int cell),some (.int day),some (L2.T (t.pa++58::n)),some (.ref ps)] H1:=by
  refine⟨_,(af (tD (i0:=7) ND rfl (Or.inl rfl) rfl (xs:=["_law_one"]) (fr:=["_law_accounts_here"]) (ks:=[1]) (by exact CompCells.one (x:="_law_one") rfl rfl (by decide +kernel) (fun _=>rfl) (fun _=>rfl) (bx rfl) (bw rfl) rfl rfl (aM rfl) (aM (k:=fun y=>wZ y _) rfl)) rfl (bF K (fv 7)) (fun _ _ _ _ _=>(aF (i:=0) (bX (l:=["_law_one","_law_accounts_here"]) (by decide)) rfl (Or.inr rfl))) (fun _ _ _ _ _=>(dO (jH (aO (dm K HU) (qh (br rfl (cl:=_) (x:="_law_other") (xs:=["_law_other"]) (fr:=["_law_one"]) (ks:=[0]) (by walk_at "cq") rfl (iC (fv 1)) (fun _ _ _ _ _=>(aF (i:=0) (bX (l:=["_law_other","_law_one"]) (by decide)) rfl (Or.inl rfl))) (fun _ _ _ _ _=>(dO (aO (dm K HU) (ci nE (fv 0) da (c8 (aj aK (aH (bj K) rfl T.cp bD (fa1 (fv 1))) aa))) (aj aK (fv 1) (aX [58]))))) (fun _ _ _ _ _=>(fv 0)))) (cX (FA.pa di)))))) (fun _ _ _ _ _=>(fv 0)))
   hu5),fun cell day t n ps vs H1 mt tt po n58 d0 d1 hps lv hvs s1 n1=>?_⟩
  have l2:=S.ai.len;have nd:=S.ai.nd;walk_at "rd";refine cmL ps (vs.map L2.T) (fun G=>Same H1 G/\NoT G) (fun D ys hD=>⟨au _ hD,aA n1 rfl⟩) (fun G c=>SqL.of (c.1 _ _ hps)) (qv W.as fun x=>(yC W.as x.pa).isEmpty) (fun v=>v) (fun R r=>r) (SqL.of hps) (by rw[zK];lia) (fun v mv G R c r=>?_) (fun v mv _ G R c r=>r) fun D hD=>?_
  ·obtain⟨l,ml,rfl⟩:=yH.mp mv
   obtain⟨x,mx,rfl,_⟩:=hvs l ml;rw[jg nd mx]at r;have S2:=S.same (s1.trans c.1) c.2;walk_at "rd";refine⟨c.2,cmK W.d (W.as.map kyL) (qv W.as fun y=>decide (y.pa.take (x.pa.length+1)=x.pa++[58])) (fun v=>v) (fun R r=>r) (.inl S2.dd) (by rw[zK];lia) (fun v mv D ys o R hD nD r=>?_) (fun v mv _ D ys o R hD nD r=>r) fun D hD=>?_⟩
   ·obtain⟨e,me,rfl⟩:=yH.mp mv
    obtain⟨y,my,rfl⟩:=yH.mp me;change R (qv W.as _ (L2.T y.pa)) _ at r;rw[jg nd my]at r;generalize upd (upd G W.d _) D _=G1 at r |-
    show m5 _ [some (L2.T y.pa),some (L2.T x.pa)] G1 R;walk_at "rd";have lx:=(S.ai.ok x mx).1.len;have ly:=(S.ai.ok y my).1.len;refine⟨by lia,by lia,by lia,?_⟩;rw[show gz y.pa none (some ((x.pa.length:Int)+1))=y.pa.take (x.pa.length+1) from Dz _ _];exact r
   ·walk_at "rd"
    have s2:=au (HO.lst ((yC W.as x.pa).map fun v=>v)) hD;have hD2:upd G D (HO.lst ((yC W.as x.pa).map fun v=>v)) D=some (HO.lst (yC W.as x.pa)):=by rw[ad,show ∀l:List V,l.map (fun v=>v)=l from fun l=>Y0 l]
    refine⟨ud _,fun p hp=>⟨_,EK (SqL.of ((ah (aC hD2 hp)).trans hD2)) (SqL.of ad),G,Gc.none (s2.trans (au _ hp)),r⟩⟩
  ·rw[show ∀l:List V,l.map (fun v=>v)=l from fun l=>Y0 l,List.filter_map]
   refine c5 cell day t n D _ _ mt tt po n58 d0 d1 ad (fun l ml=>?_) (s1.trans (au _ hD)) (aA n1 rfl);obtain⟨ml,pl⟩:=Z7.mp ml;obtain⟨x,mx,rfl,e1,e2⟩:=hvs l ml;exact⟨x,mx,rfl,e1,e2,C7 nd ((jg nd mx).symm.trans pl)⟩
 obtain⟨u4,hu4,c4⟩:=c4;clear c5 hu5;refine⟨_,(af (aS 4 ND (aj a9 (aN (aP T) hr aE (fa2 (fv 2) (aj aK (fv 3) aa))) aa))
  (af (aS 5 ND (aN (lh T) hr aE (fa2 (fv 2) (aj aK (fv 3) aa))))
  (af (aS 6 ND (aj aK (aj aK (az K (d7 (tJ rfl) rfl T.m_ jE (fa1 (fv 1))) (aj a7 (fv 4) aa)) (aX [58,110,101,119])) (az K (aX [97,98,99,100,101,102,103,104]) (aj a7 (aj a9 (fv 4) aa) aa))))
  (af (pP (ue (i0:=7) ND rfl (Or.inl rfl) rfl (cl:=_) (x:="_law_one") (xs:=["_law_one"]) (fr:=["_law_accounts_here"]) (ks:=[1]) (by walk_at "cq") rfl (iC (fv 1)) (fun _ _ _ _ _=>(aF (i:=0) (bX (l:=["_law_one","_law_accounts_here"]) (by decide)) rfl (Or.inl rfl))) (fun _ _ _ _ _=>(dO (L2.PW.pt (gr (jk DD (aX [58]) (fv 0) (by with_unfolding_all rfl)) (eh (cY (j_ (az K (bQ (Zr HU) (fv 1) (fv 0) (fun _ _=>rfl)) aa)))))))) (fun _ _ _ _ _=>(fv 0))))
  hu4)))),?_⟩
 walk_at "rd";refine⟨ns,hS,by lia,fun i _=>⟨ns,hS,by lia,fun day d0 d1=>⟨_,S.dd,fun l hl=>?_⟩⟩⟩;have s1:=au (HO.lst ((W.as.map kyL).map fun e=>kV e.1)) hl;have n1:NoT (upd H l (HO.lst ((W.as.map kyL).map fun e=>kV e.1))):=aA hN rfl;have hl1:upd H l (HO.lst ((W.as.map kyL).map fun e=>kV e.1)) l=some (HO.lst ((W.as.map kyL).map fun e=>kV e.1)):=ad;generalize upd H l _=H1 at s1 n1 hl1 |-
 obtain⟨t,mt,tt,et⟩:∃t∈W.as,Tp t/\atI ((W.as.map kyL).map fun e=>kV e.1) (i / 3 % 2)=some (L2.T t.pa):=by
  obtain⟨x,y,r,e,tx,ty⟩:=S.ai.top;rw[e];rcases(by lia:i / 3 % 2=0\/i / 3 % 2=1) with h|h <;> rw[h]
  ·exact⟨x,.head _,tx,av (j:=0) rfl⟩
  ·exact⟨y,.tail _ (.head _),ty,av (j:=1) rfl⟩
 obtain⟨c,ec,c0,c1⟩:∃c,atI [97,98,99,100,101,102,103,104] (i / 3 / 2 % 8)=some c/\97<=c/\c<=104:=by
  rcases(by lia:i / 3 / 2 % 8=0\/i / 3 / 2 % 8=1\/i / 3 / 2 % 8=2\/i / 3 / 2 % 8=3\/i / 3 / 2 % 8=4\/i / 3 / 2 % 8=5\/i / 3 / 2 % 8=6\/i / 3 / 2 % 8=7) with h|h|h|h|h|h|h|h <;> rw[h] <;> exact⟨_,rfl,by decide,by decide⟩
 refine⟨_,_,.inl (SqL.of hl1),et,?_⟩;rw[ec];have lt:=(ke tt.nm).2.1;walk_at "rd";have ep:t.pa++[58,110,101,119]++[c]=t.pa++58::[110,101,119,c]:=by simp
 rw[ep];have nd:=S.ai.nd;have l2:=S.ai.len;have S1:=S.same s1 n1;refine⟨by lia,by lia,by rw[yw];show t.pa.length+4+1<=_;lia,Fq (cmK W.d (W.as.map kyL) (qv W.as fun x=>decide (58∈x.pa)&&decide (x.un=none)) (fun v=>v) (fun R r=>r) (.inl S1.dd) (by rw[zK];lia) (fun v mv D ys o R hD nD r=>?_) (fun v mv _ D ys o R hD nD r=>r) fun D hD=>?_)⟩
 ·obtain⟨e,me,rfl⟩:=yH.mp mv
  obtain⟨y,my,rfl⟩:=yH.mp me;change R (qv W.as _ (L2.T y.pa)) _ at r;rw[jg nd my]at r;have ls:=S1.ls y my;have g1:upd (upd H1 W.d (.frz o (.dK (W.as.map kyL)))) D (.lst ys) W.d=some (.frz o (.dK (W.as.map kyL))):=(ah (Ne.symm nD)).trans ad;have g2:upd (upd H1 W.d (.frz o (.dK (W.as.map kyL)))) D (.lst ys) y.ls=some (laL y):=(ah (aC ls hD)).trans ((ah (a6 ls S1.dd)).trans ls);generalize upd (upd H1 W.d _) D _=G1 at r g1 g2 |-
  show En _ _ [some (L2.T y.pa),some (.ref W.d)] G1 R;walk_at "rd";by_cases h58:58∈y.pa
  ·refine itp (decide_eq_true h58) ⟨W.d,.ref y.ls,rfl,uL nd my g1,?_⟩
   walk_at "rd";refine⟨_,_,.inl (SqL.of g2),av (j:=2) rfl,?_⟩;rw[decide_eq_true h58,Yh]at r;cases eu:y.un <;> rw[eu]at r <;> exact r
  ·refine itn (fun z=>h58 (of_decide_eq_true z)) ?_
   rw[decide_eq_false h58,Bool.false_and]at r;exact r
 ·rw[show ∀l:List V,l.map (fun v=>v)=l from fun l=>Y0 l,show(W.as.map kyL).map (fun e=>kV e.1)=(W.as.map (·.pa)).map L2.T by rw[ug,ug];rfl,List.filter_map]
  refine c4 _ day t _ D _ _ mt tt ?_ ?_ d0 d1 ad ?_ (fun l ml=>?_) (s1.trans (au _ hD)) (aA n1 rfl)
  ·refine POk.ext ?_ (POk.top tt.nm) (by rw[Cg (jC tt.nm)];exact(by decide:1<=5))
   rcases(by lia:c=97\/c=98\/c=99\/c=100\/c=101\/c=102\/c=103\/c=104) with rfl|rfl|rfl|rfl|rfl|rfl|rfl|rfl <;> decide
  ·simp;lia
  ·exact uM (Zf _ _) (by rw[zK];lia)
  ·obtain⟨ml,pl⟩:=Z7.mp ml
   obtain⟨x,mx,rfl⟩:=yH.mp ml;have q:=(jg nd mx).symm.trans pl;rw[Zi]at q;exact⟨x,mx,rfl,of_decide_eq_true q.1,of_decide_eq_true q.2⟩
end
open PySem L2 K19 K22
section
variable{P:Program}{w:World}{K:W.Frag}{mg:Str->Option Value}{base:Heap}{a:Adr}
def Fc(rs:List Row)(ps:List Nm):Prop:=qV (ps.map (·.e))/\∀k i,(∃n∈ps,n.e=k/\n.i=i)↔(i=sm rs k/\i≠0)
def sp_zL:Sp:=sp1 fun x H Q _=>NoT H/\asR x fun m=>∃ws bs,H m=some (.lst ws)/\A2 (BkAt H) ws bs/\bs.length<=20/\(∀b∈bs,b.rs.length<=40)/\(dk (bs.flatMap (·.rs))).length<64/\∀ps r H',Fc (bs.flatMap (·.rs)) ps->(∀e∈ps,NmAt H' e)->H r=none->H' r=some (.lst (ps.map fun e=>V.ref e.p))->Same H H'->NoT H'->Q (.ref r) H'
theorem Bz{bs:List Bo}(h:∀b∈bs,b.rs.length<=40):(bs.flatMap (·.rs)).length<=40*bs.length:=by
 induction bs with
 |nil=>exact z4 _
 |cons b r ih=>
  have h1:=h b (.head _);have h2:=ih fun x m=>h x (.tail _ m);rw[YM,yw,uO];lia
theorem lY{e:Pt}{n:Int}:∀ {d:List (Pt × Int)},(d.map (·.1)).Nodup->(e,n)∈d->lV d e=some n
 | [],_,m=>nomatch m
 |x::r,nd,m=>by
  rw[xx,Zd]at nd;unfold lV;rcases zG.mp m with rfl|m
  ·rw[List.find?_cons_of_pos (by simp)];rfl
  ·rw[List.find?_cons_of_neg (by simpa using fun z:x.1=e=>nd.1 (by rw[z];exact xF (f:=(·.1)) m))]
   exact lY nd.2 m
theorem Hh{rs:List Row}{k:Pt}{i:Int}:(k,i)∈(dk rs).filter (fun e=>decide (e.2≠0))↔(i=sm rs k/\i≠0):=by
 have nd:=(lF rs).1;rw[Z7,<- qJ];constructor
 ·rintro⟨m,h⟩
  refine⟨?_,of_decide_eq_true h⟩;unfold K19.val;rw[lY nd m];rfl
 ·rintro⟨rfl,h⟩
  refine⟨?_,decide_eq_true h⟩;have mk:k∈(dk rs).map (·.1):=Classical.byContradiction fun z=>h (by rw[qJ];exact FV (Xm _) z);obtain⟨⟨k',n⟩,m,rfl⟩:=yH.mp mk;rw[show K19.val rs k'=n by unfold K19.val;rw[lY nd m];rfl];exact m
theorem NmAt.mv{H H':Hp}(k:∀t l,H t=some (.tup l)->H' t=some (.tup l)){x:Nm}(h:NmAt H x):NmAt H' x:=⟨k _ _ h.1,k _ _ h.2⟩
theorem jV(T:Txt K mg a):Fo P w K mg base "_law_sums" 1 sp_zL:=by
 refine T.tf.g1 ["_law_bookings","_law_found","_law_booking","_law_path","_law_currency","_law_amount"] fun x0 fA cdv A outer s H Q E ND HU hr h=>?_;obtain⟨hN,h1⟩:=h;obtain⟨m0,rfl,ws,bs,hm0,hv,len,ok,l64,k⟩:=asR.inv h1;have sz:=szl;refine⟨hN,_,(af (aS 1 ND sL)
  (af (dt (by passes_own) rfl (bF K (fv 0)) (aF (i:=2) ND rfl (Or.inl rfl)) (ag (dt (by passes_own) rfl (iO K (az K (fv 2) aa)) (e_ K (n:=3) rfl (aU (aF (i:=3) ND rfl (Or.inl rfl)) (aU (aF (i:=4) ND rfl (Or.inl rfl)) (aU (aF (i:=5) ND rfl (Or.inl rfl)) dP)))) (ag (gY (Zr HU) (fv 1) (bJ (fa2 (fv 3) (fv 4))) (aj aK (sP (Zr HU) (fv 1) (bJ (fa2 (fv 3) (fv 4))) aa ⟨rfl,rfl,rfl,rfl⟩) (fv 5)) rfl)))))
  (ag (aJ (aH (AO K HU) rfl T.mK j9 (fa1 (qh (br rfl (cl:=_) (x:="_law_pair") (xs:=["_law_pair"]) (fr:=["_law_found"]) (ks:=[1]) (by walk_at "cq") rfl (iC (fv 1)) (fun _ _ _ _ _=>(aF (i:=0) (bX (l:=["_law_pair","_law_found"]) (by decide)) rfl (Or.inl rfl))) (fun _ _ _ _ _=>(dO (aO (b8 K HU) (bQ (Zr HU) (fv 1) (fv 0) (fun _ _=>rfl)) aa))) (fun _ _ _ _ _=>(bJ (fa2 (fv 0) (bQ (Zr HU) (fv 1) (fv 0) (fun _ _=>rfl))))))))))))),?_⟩
 walk_at "rd";intro d hd;refine gK ?_;walk_at "rd";refine ic (SqL.of ((au _ hd) _ _ hm0)) (ia (fun i σ' H'=>Same H H'/\∃x2 x3 x4 x5,H' d=some (.dT ((dk ((bs.take i).flatMap (·.rs))).map eW))/\σ'=[some (.ref m0),some (.ref d),x2,x3,x4,x5]) ⟨au _ hd,none,none,none,none,ad,rfl⟩ (fun i σ' H' _ h=>SqL.of (h.1 _ _ hm0)) ?_ ?_)
 ·rintro i x σ' H' hx ⟨sm,x2,x3,x4,x5,hd',rfl⟩
  obtain⟨b,hb,q,u,us,nt,rfl,e1,e2,ar⟩:=hv.at_ hx;have e1':=sm _ _ e1;have lb:=ok b (xg hb);have l1:((bs.take i).flatMap (·.rs)).length<=800:=by
   have:=Bz (bs:=bs.take i) fun x m=>ok x (Xk m);rw[qW]at this;lia
  rw[fm hb,List.flatMap_append,show [b].flatMap (·.rs)=b.rs by simp];walk_at "rd";refine t6 ?_;walk_at "rd";refine⟨_,_,.inr (SqT.of e1'),av (j:=3) rfl,?_⟩;refine rX (SqT.of (sm _ _ e2)) (vX (fun j σ' G=>Same H G/\∃x3 x4 x5,G d=some (.dT ((dk ((bs.take i).flatMap (·.rs)++b.rs.take j)).map eW))/\σ'=[some (.ref m0),some (.ref d),some (.ref q),x3,x4,x5]) ⟨sm,_,_,_,by rw[List.take_zero,Zh];exact hd',rfl⟩ (fun j σ' G _ h=>SqT.of (h.1 _ _ e2)) ?_ ?_)
  ·rintro j x σ' G hx ⟨sG,x3,x4,x5,dG,rfl⟩
   obtain⟨r,hr,q2,rfl,hq⟩:=ar.at_ hx;have hq':=sG _ _ hq;walk_at "rd";refine⟨_,_,rfl,SqT.of hq',rfl,_,_,rfl,_,_,rfl,_,_,rfl,rfl,?_⟩;walk_at "rd";have l2:=(lF ((bs.take i).flatMap (·.rs)++b.rs.take j)).2.2;have l3:((bs.take i).flatMap (·.rs)++b.rs.take j).length<=1000:=by rw[yw,qW];lia
   refine⟨.inr ⟨_,.inl dG⟩,by walk_at "om",fun p1 hp1=>⟨_,DGet.t (k:=kP (r.pa,r.cu)) ((au _ hp1) _ _ dG) ad,?_⟩⟩;rw[fM,v8];walk_at "rd";have s1:=au (HO.tup [L2.T r.pa,L2.T r.cu]) hp1;refine⟨by walk_at "om",fun p2 hp2=>?_⟩;have s2:=s1.trans (au (HO.tup [L2.T r.pa,L2.T r.cu]) hp2);refine⟨d,_,rfl,DPut.t (k:=kP (r.pa,r.cu)) (s2 _ _ dG) ad (by rw[zK,uS];lia),?_⟩;rw[nj];refine⟨fG (sG.trans s2) hd,_,_,_,?_,rfl,rfl,rfl⟩;rw[ad,fm hr,<- YL,lZ];rfl
  ·rintro σ' G ⟨sG,x3,x4,x5,dG,rfl⟩
   rw[ar.len,ZQ]at dG;exact⟨sG,_,_,_,_,dG,rfl⟩
 ·rintro σ' H' ⟨sm,x2,x3,x4,x5,hd',rfl⟩
  rw[hv.len,ZQ]at hd';generalize bs.flatMap (·.rs)=rs at hd' l64 k;walk_at "rd";refine Ei ?_;walk_at "rd";refine⟨d,.dT ((dk rs).map eW),rfl,rfl,.inl hd',fun o _=>DC d o _ (fun D i ys G=>Same (upd H' d (.frz o (.dT ((dk rs).map eW)))) G/\G D=some (.lst ys)/\upd H' d (.frz o (.dT ((dk rs).map eW))) D=none/\∃ps:List Nm,ys=ps.map (fun e=>.ref e.p)/\(∀e∈ps,NmAt G e)/\ps.map (fun n=>(n.e,n.i))=((dk rs).take i).filter (fun e=>decide (e.2≠0))) (by show((dk rs).map eW).length<_;rw[zK];lia) (fun D hD=>⟨au _ hD,ad,hD,[],rfl,(fun _ m=>nomatch m),rfl⟩) (fun D i ys G h=>⟨h.2.1,h.1 _ _ ad,?_⟩) ?_ ?_⟩
  ·obtain⟨_,_,_,ps,rfl,_,e⟩:=h
   have:=congrArg YS e;rw[zK]at this;rw[zK,this];exact uM (Zf _ _) (by rw[qW];lia)
  ·rintro D i y v ys G zs N1 N0 hi ⟨kk,q,ek,rfl,hq⟩ ⟨sG,hD,fD,ps,rfl,hps,eps⟩ hz n1 n0
   rw[List.getElem?_map]at ek;obtain⟨⟨e,n⟩,ee,e2⟩:=uE.mp ek;cases e2;obtain⟨z1,rfl⟩:=ex1 hz;have dG:=sG _ _ ad;have gd:∀F:Hp,F q=some (.tup (tP e))->F d=some (.frz o (.dT ((dk rs).map eW)))->DGet F d (.ref q) (some (.int n)):=fun F h1 h2=>.inr ⟨_,kP e,q,.inr ⟨o,h2⟩,rfl,h1,by rw[fM,lY (lF rs).1 (xg ee)];rfl⟩;rw[fm ee,Zl]at n1 n0;walk_at "rd";refine⟨⟨[some (.ref q)],rfl,rfl⟩,d,_,rfl,gd _ hq dG,?_⟩;walk_at "rd";by_cases h0:n=0
   ·rw[Zn (by simpa using h0),ZG,Zh]at n0
    exact itp h0 (n0 _ ⟨sG,hD,fD,ps,rfl,hps,eps⟩)
   ·rw[Zo (by simpa using h0),ZG]at n1
    refine itn h0 ⟨d,_,rfl,gd _ hq dG,by lia,fun p hp=>?_⟩;have s1:=au (HO.tup [.ref q,.int n]) hp;have hD1:=s1 _ _ hD;have kt:∀t l,upd G p (HO.tup [.ref q,.int n]) t=some (.tup l)->upd (upd G p (HO.tup [.ref q,.int n])) D (.lst (ps.map (fun e=>V.ref e.p)++[.ref p])) t=some (.tup l):=fun t l e=>(ah (a6 e hD1)).trans e;refine n1 _ _ hD1 ⟨fG (sG.trans s1) fD,ad,fD,ps++[⟨p,q,e,n⟩],by rw[vd];rfl,fun x mx=>?_,by rw[vd,eps];rfl⟩;rcases y9.mp mx with mx|mx
    ·exact NmAt.mv kt (NmAt.mv (fun t l e=>s1 _ _ e) (hps x mx))
    ·rw[zL.mp mx]
     exact⟨kt _ _ ad,kt _ _ (s1 _ _ hq)⟩
  ·rintro D ys G ⟨sG,hD,fD,ps,rfl,hps,eps⟩
   have el:(dk rs).take (fN (.dT ((dk rs).map eW)))=dk rs:=Zc (by show _<=((dk rs).map eW).length;rw[zK];exact z4 _);rw[el]at eps;have hf:=sG _ _ ad;have lp:ps.length<64:=by
    have:=congrArg YS eps;rw[zK]at this;exact XR (by rw[this];exact Zf _ _) l64
   have nd:(ps.map (·.e)).Nodup:=by
    have e:ps.map (·.e)=((dk rs).filter fun e=>decide (e.2≠0)).map (·.1):=by rw[<- eps,ug];rfl
    rw[e];exact List.Nodup.sublist (List.Sublist.map _ List.filter_sublist) (lF rs).1
   have kt:∀t l,G t=some (.tup l)->upd G d (.dT ((dk rs).map eW)) t=some (.tup l):=fun t l e=>(ah (a6 e hf)).trans e;have sg:Same H (upd G d (.dT ((dk rs).map eW))):=fun p o e=>by
    have np:p≠d:=aC e hd;rw[ah np];exact sG _ _ ((ah np).trans (sm _ _ e))
   have fD2:H D=none:=sm.free (by rw[<- fD,ah fun z=>by rw[z,hf]at hD;cases hD]);refine⟨d,o,_,hf,.inl ⟨hd',rfl,?_⟩⟩;show ∃ps:List Nm,_;refine⟨ps,SqL.of ((ah (a6 hD hf)).trans hD),fun x mx=>NmAt.mv kt (hps x mx),lp,nd,fun out po oo r hr=>?_⟩;have s2:=sg.trans (au (HO.lst (out.map fun e=>V.ref e.p)) hr);refine⟨_,Gc.flt s2,k out r _ ⟨oo,fun kk i=>?_⟩ (fun x mx=>?_) (sg.free hr) (qT s2 ad rfl) (Gc.flt s2).a (wH hN)⟩
   ·rw[<- Hh,<- eps,yH]
    exact⟨fun⟨n,m,e1,e2⟩=>⟨n,po.mem_iff.mp m,by rw[e1,e2]⟩,fun⟨n,m,e⟩=>⟨n,po.mem_iff.mpr m,congrArg Prod.fst e,congrArg Prod.snd e⟩⟩
   ·exact NmAt.mv (fun t l e=>qT s2 ((au _ hr) _ _ (kt _ _ e)) rfl) (hps x (po.mem_iff.mp mx))
end
open PySem L2 K19 K22
section
variable{P:Program}{w:World}{K:W.Frag}{mg:Str->Option Value}{base:Heap}{a:Adr}
open K3
theorem E7(W:Wd):W.cd∈own W:=.head _
theorem GH(W:Wd):W.d∈own W:=.tail _ (.head _)
theorem D9(W:Wd):W.b∈own W:=.tail _ (.tail _ (.head _))
theorem DL(W:Wd):W.u∈own W:=.tail _ (.tail _ (.tail _ (.head _)))
theorem D5(W:Wd):W.g∈own W:=.tail _ (.tail _ (.tail _ (.tail _ (.head _))))
theorem Eb{W:Wd}{c:Acc}(m:c∈W.cs):c.ob∈own W/\c.bl∈own W:=by
 unfold own;exact⟨.tail _ (.tail _ (.tail _ (.tail _ (.tail _ (rV _ (uU _ (xF m))))))),.tail _ (.tail _ (.tail _ (.tail _ (.tail _ (rV _ (rV _ (xF m)))))))⟩
theorem GA{W:Wd}{x:La}(m:x∈W.as):x.ls∈own W:=.tail _ (.tail _ (.tail _ (.tail _ (.tail _ (uU _ (xF m))))))
theorem LS.put1{ns:List Int}{m:Nat}{H:Hp}{W:Wd}{p:Addr}{l l':List V}(S:LS a ns m H W)(hp:H p=some (.lst l))(np:p∉own W):LS a ns m (upd H p (.lst l')) W:=by
 have nq:∀ {q:Addr},q∈own W->q≠p:=fun mq z=>np (z ▸ mq);have nk:∀ {q:Addr} {o:HO},H q=some o->(∀l,o ≠ .lst l)->q≠p:=fun e n=>a6 e hp (n _);have ns1:∀ {q:Addr},q≠p->q∉[p]:=fun h z=>h (zL.mp z);have kp:Keep [p] H (upd H p (.lst l')):=Keep.refl.put (.head _);obtain⟨dc,hc⟩:=S.ca.ob;obtain⟨dj,hj⟩:=S.ja.ob;exact { S with ca:=S.ca.keep kp (ns1 (nk hc fun _ z=>nomatch z)) (ns1 (nq (E7 W))) fun c mc=>⟨ns1 (nq (Eb mc).1),ns1 (nq (Eb mc).2)⟩,dd:=kp _ _ S.dd (ns1 (nq (GH W))),ls:=fun x mx=>kp _ _ (S.ls x mx) (ns1 (nq (GA mx))),ga:=kp _ _ S.ga (ns1 (nq (D5 W))),ja:=S.ja.keep kp (ns1 (nk hj fun _ z=>nomatch z)) (ns1 (nq (D9 W))) (ns1 (nq (DL W))),bk:=S.bk.imp fun _ _ _ _ h=>h.mv fun t l e=>kp _ _ e (ns1 (nk e fun _ z=>nomatch z)),nT:=aA S.nT rfl }
theorem LS.gate{ns:List Int}{m:Nat}{H:Hp}{W:Wd}(S:LS a ns m H W){t:Int}(ht:0<=t/\t<=4799):LS a ns (m+1) (upd H W.g (dY a.ba W.gx (.int t))) { W with o:=some t }:=by
 have nk:∀ {q:Addr} {o:HO},H q=some o->xi o≠1->q∉[W.g]:=fun e n z=>Ar e S.ga (show xi _≠1 from n) (zL.mp z);have kp:Keep [W.g] H (upd H W.g (dY a.ba W.gx (.int t))):=Keep.refl.put (.head _);obtain⟨dc,hc⟩:=S.ca.ob;obtain⟨dj,hj⟩:=S.ja.ob;have S':=S.le;have ng:W.ch∉[W.g]:=fun z=>by
  rw[zL.mp z,S.ga]at hc;injection hc with hc;injection hc with _ _ hc;injection hc with hc;injection hc with hc
  exact absurd hc (by decide +kernel)
 exact { S' with ca:=S.ca.keep kp ng (nk S.ca.dc (show 0≠1 by decide)) fun c mc=>⟨by obtain⟨dx,ho⟩:=(S.ca.ac c mc).ob;exact nk ho (show 5≠1 by decide),nk (S.ca.ac c mc).ls (show 0≠1 by decide)⟩,dd:=kp _ _ S.dd (nk S.dd (show 0≠1 by decide)),ls:=fun x mx=>kp _ _ (S.ls x mx) (nk (S.ls x mx) (show 0≠1 by decide)),ga:=ad,oo:=fun z e=>by cases e;exact ht,ja:=S.ja.keep kp (nk hj (show 2≠1 by decide)) (nk S.ja.ls (show 0≠1 by decide)) (nk S.ja.dc (show 0≠1 by decide)),bk:=S.bk.imp fun _ _ _ _ h=>h.mv fun t l e=>kp _ _ e (nk e (show 0≠1 by decide)),nT:=aA S.nT rfl }
structure LI(a:Adr)(ns:List Int)(m:Nat)(H0 H:Hp)(W:Wd)(hd ev sh:Addr)(es ts:List V):Prop where
 ls:LS a ns m H W
 s0:Same H0 H
 fr:∀p∈ev::sh::own W,H0 p=none
 hh:H hd=some (.lst [.ref W.ch,.ref W.g,.ref W.j])
 he:H ev=some (.lst es)
 hs:H sh=some (.lst ts)
 n1:hd∉ev::sh::own W
 n2:ev∉sh::own W
 n3:sh∉own W
 tt:∀t∈ts,∃p x y l,t = .ref p/\H p=some (.tup [.ref x,.ref y])/\H x=some (.lst l)/\H y=some (.lst l)/\x∉ev::sh::own W/\y∉ev::sh::own W/\∀z∈l,∃q,z = .ref q
section
variable{ns:List Int}{m:Nat}{H0 H H':Hp}{W W':Wd}{hd ev sh:Addr}{es ts:List V}(L:LI a ns m H0 H W hd ev sh es ts)
include L
theorem LI.go{m':Nat}(ls:LS a ns m' H' W')(kp:Keep (own W) H H')(sub:∀p∈own W',p∈own W\/H p=none)(e1:W'.ch=W.ch)(e2:W'.g=W.g)(e3:W'.j=W.j):LI a ns m' H0 H' W' hd ev sh es ts:=by
 have nin:∀ {p:Addr} {o:HO},H p=some o->p∉own W->p∉own W':=fun e n q=>(sub _ q).elim n fun z=>by rw[z]at e;cases e
 have ni3:∀ {p:Addr} {o:HO},H p=some o->p∉ev::sh::own W->p∉ev::sh::own W':=fun e n q=>by
  rcases zG.mp q with q|q
  ·exact n (q ▸ .head _)
  rcases zG.mp q with q|q
  ·exact n (q ▸ .tail _ (.head _))
  ·exact nin e (fun z=>n (.tail _ (.tail _ z))) q
 have n2:ev∉own W:=fun z=>L.n2 (.tail _ z);have no:∀ {p:Addr},p∉ev::sh::own W->p∉own W:=fun n z=>n (.tail _ (.tail _ z));refine⟨ls,fun p o e=>kp _ _ (L.s0 _ _ e) (fun q=>by rw[L.fr p (.tail _ (.tail _ q))]at e;cases e),fun p q=>?_,by rw[e1,e2,e3];exact kp _ _ L.hh (no L.n1),kp _ _ L.he n2,kp _ _ L.hs L.n3,ni3 L.hh L.n1,fun q=>?_,nin L.hs L.n3,fun t mt=>?_⟩
 ·rcases zG.mp q with q|q
  ·exact L.fr p (q ▸ .head _)
  rcases zG.mp q with q|q
  ·exact L.fr p (q ▸ .tail _ (.head _))
  ·rcases sub p q with q|q
   ·exact L.fr p (.tail _ (.tail _ q))
   ·exact L.s0.free q
 ·rcases zG.mp q with q|q
  ·exact L.n2 (q ▸ .head _)
  ·exact nin L.he n2 q
 ·obtain⟨p,x,y,l,e,h1,h2,h3,h4,h5,h6⟩:=L.tt t mt
  have tp:p∉own W:=fun q=>by
   have S:=L.ls;simp only[own,zG,y9,yH]at q;rcases q with q|q|q|q|q|(⟨c,mc,q⟩|⟨c,mc,q⟩)|⟨c,mc,q⟩
   ·rw[q,S.ca.dc]at h1;cases h1
   ·rw[q,S.dd]at h1;cases h1
   ·rw[q,S.ja.ls]at h1;cases h1
   ·rw[q,S.ja.dc]at h1;cases h1
   ·rw[q,S.ga]at h1;cases h1
   ·rw[<- q,(S.ca.ac c mc).ls]at h1;cases h1
   ·obtain⟨dx,ho⟩:=(S.ca.ac c mc).ob
    rw[<- q,ho]at h1;cases h1
   ·rw[<- q,S.ls c mc]at h1;cases h1
  exact⟨p,x,y,l,e,kp _ _ h1 tp,kp _ _ h2 (no h4),kp _ _ h3 (no h5),ni3 h2 h4,ni3 h3 h5,h6⟩
theorem LI.same(s:Same H H')(n:NoT H'):LI a ns m H0 H' W hd ev sh es ts:=L.go (L.ls.same s n) (Keep.same s) (fun _ q=>.inl q) rfl rfl rfl
theorem LI.le:LI a ns (m+1) H0 H W hd ev sh es ts:={ L with ls:=L.ls.le }
theorem LI.ev1(v:V):LI a ns m H0 (upd H ev (.lst (es++[v]))) W hd ev sh (es++[v]) ts:=by
 have ne:∀ {p:Addr},p∉ev::sh::own W->p≠ev:=fun n z=>n (z ▸ .head _);refine⟨L.ls.put1 L.he fun z=>L.n2 (.tail _ z),fun p o e=>(ah fun z=>by rw[z,L.fr ev (.head _)]at e;cases e).trans (L.s0 _ _ e),L.fr,(ah (ne L.n1)).trans L.hh,ad,(ah fun z=>L.n2 (by rw[z];exact .head _)).trans L.hs,L.n1,L.n2,L.n3,fun t mt=>?_⟩;obtain⟨p,x,y,l,e,h1,h2,h3,h4,h5,h6⟩:=L.tt t mt;exact⟨p,x,y,l,e,(ah (a6 h1 L.he)).trans h1,(ah (ne h4)).trans h2,(ah (ne h5)).trans h3,h4,h5,h6⟩
theorem LI.sh1{p x y:Addr}{l:List V}(hp:H p=some (.tup [.ref x,.ref y]))(hx:H x=some (.lst l))(hy:H y=some (.lst l))(nx:x∉ev::sh::own W)(ny:y∉ev::sh::own W)(rf:∀z∈l,∃q,z=V.ref q):LI a ns m H0 (upd H sh (.lst (ts++[.ref p]))) W hd ev sh es (ts++[.ref p]):=by
 have ne:∀ {p:Addr},p∉ev::sh::own W->p≠sh:=fun n z=>n (z ▸ .tail _ (.head _));have mv:∀ {q:Addr} {o:HO},H q=some o->q≠sh->upd H sh (.lst (ts++[.ref p])) q=some o:=fun e n=>(ah n).trans e;have mt:∀ {q:Addr} {l:List V},H q=some (.tup l)->upd H sh (.lst (ts++[.ref p])) q=some (.tup l):=fun e=>mv e (a6 e L.hs);refine⟨L.ls.put1 L.hs L.n3,fun p o e=>mv (L.s0 _ _ e) (fun z=>by rw[z,L.fr sh (.tail _ (.head _))]at e;cases e),L.fr,mv L.hh (ne L.n1),mv L.he (fun z=>L.n2 (by rw[z];exact .head _)),ad,L.n1,L.n2,L.n3,fun t q=>?_⟩;rcases y9.mp q with q|q
 ·obtain⟨p,x,y,l,e,h1,h2,h3,h4,h5,h6⟩:=L.tt t q
  exact⟨p,x,y,l,e,mt h1,mv h2 (ne h4),mv h3 (ne h5),h4,h5,h6⟩
 ·exact⟨p,x,y,l,zL.mp q,mt hp,mv hx (ne nx),mv hy (ne ny),nx,ny,rf⟩
end
end
open PySem L2 K19 K22
section
variable{P:Program}{w:World}{K:W.Frag}{mg:Str->Option Value}{base:Heap}{a:Adr}
open K3
def ifB:Stmt->List Stmt
 | .If _ b _ _=>b
 |_=>[]
def E3:Stmt->List Stmt
 | .If _ _ e _=>e
 |_=>[]
noncomputable abbrev AX:List Stmt:=Fz ((aq cL).getD 4 (.Pass ⟨0,0,0,0⟩))
noncomputable abbrev GX:List Stmt:=ifB ((E3 (AX.getD 0 (.Pass ⟨0,0,0,0⟩))).getD 0 (.Pass ⟨0,0,0,0⟩))
noncomputable abbrev Ea:List Stmt:=E3 ((E3 (AX.getD 0 (.Pass ⟨0,0,0,0⟩))).getD 0 (.Pass ⟨0,0,0,0⟩))
abbrev sgL(sc d hd ev sh:Addr)(x5 x6 x7 x8 x9 x10 x11:Option V):St:=[some (.ref sc),some (.ref d),some (.ref hd),some (.ref ev),some (.ref sh),x5,x6,x7,x8,x9,x10,x11]
theorem Ay{H:Hp}{p q:Addr}{xs:List V}(hp:H p=some (.lst xs))(hq:H q=some (.lst xs))(h:∀x∈xs,∃q,x = .ref q):EqR K H p q true:=by
 have:=EqR.lst (K:=K) (e:=fun _=>true) (SqL.of hp) (SqL.of hq) rfl (fun j x y gx gy=>by
  rw[gx]at gy;cases gy;obtain⟨q,rfl⟩:=h x (xg gx);exact .same)
 rwa [show(Zj xs.length).all (fun _=>true)=true by simp]at this
theorem LS.rf{ns:List Int}{m:Nat}{H:Hp}{W:Wd}(S:LS a ns m H W):∀x∈W.bs,∃q,x = .ref q:=fun x mx=>by
 obtain⟨b,_,q,_,_,_,e,_⟩:=BH S.bk mx;exact⟨q,e⟩
theorem iF(x:V):wZ (zI "closed") [(zI "last_closed",x)]=none:=by rw[aR (by decide +kernel)];rfl
theorem sX(x:V):wZ (zI "shut") [(zI "last_closed",x)]=none:=by rw[aR (by decide +kernel)];rfl
theorem LS.has{ns:List Int}{m:Nat}{H:Hp}{W:Wd}(S:LS a ns m H W){p:Addr}(hp:H p=none):p∉own W:=fun q=>by
 simp only[own,zG,y9,yH]at q;rcases q with q|q|q|q|q|(⟨c,mc,q⟩|⟨c,mc,q⟩)|⟨c,mc,q⟩
 ·rw[q,S.ca.dc]at hp;cases hp
 ·rw[q,S.dd]at hp;cases hp
 ·rw[q,S.ja.ls]at hp;cases hp
 ·rw[q,S.ja.dc]at hp;cases hp
 ·rw[q,S.ga]at hp;cases hp
 ·rw[<- q,(S.ca.ac c mc).ls]at hp;cases hp
 ·obtain⟨dx,ho⟩:=(S.ca.ac c mc).ob
  rw[<- q,ho]at hp;cases hp
 ·rw[<- q,S.ls c mc]at hp;cases hp
theorem LI.has{ns:List Int}{m:Nat}{H0 H:Hp}{W:Wd}{hd ev sh:Addr}{es ts:List V}(L:LI a ns m H0 H W hd ev sh es ts){p:Addr}(hp:H p=none):p∉ev::sh::own W:=fun q=>by
 rcases zG.mp q with q|q
 ·rw[q,L.he]at hp;cases hp
 rcases zG.mp q with q|q
 ·rw[q,L.hs]at hp;cases hp
 ·exact L.ls.has hp q
theorem sN(x y:V):wZ (zI "every") [(zI "bookings",x),(zI "undoings",y)]=none:=by rw[aR (by decide +kernel),aR (by decide +kernel)];rfl
theorem bT4(T:Txt K mg a){cdv:Value}{A:Around}{outer:List Env}{s:Shared}{H:Hp}{E:XK}(hr:Room 13 (A.deeper (ZO "law" (ae cL) s.heap.objs.size a.eT cdv))):∃u,PSs (bW (XE P w) P w K mg base lg "law" (ae cL) a.eT cdv A outer s H E) (Ys 4 Ea) u /\
 ∀(D:eO) sc hd ev sh nw x5 x6 x8 x10 x11 ns m H0 G W ts,LI a ns m H0 G W hd ev sh W.bs ts->G nw=some (.lst W.bs)->nw∉ev::sh::own W->ts.length<=20->W.bs.length<=50->(∀G' t,LI a ns m H0 G' W hd ev sh W.bs (ts++[t])->D.nx (sgL sc W.d hd ev sh x5 x6 (some (cl W.o)) x8 (some (.ref nw)) x10 x11) G') ->
  u D (sgL sc W.d hd ev sh x5 x6 (some (cl W.o)) x8 (some (.ref nw)) x10 x11) G:=by
 have sz:=szl;have ND:=kK.nd;have HU:=bV hr
 skip
 refine⟨_,(af (bC (eQ K ZA ZH ZI d8 (fv 4) (fa1 (bJ (fa2 (fv 9) (d7 (wt K) rfl T.m_ jE (fa1 (fv 9))))))))
  (ag (aW (L2.PW.pt (dw (aO (b8 K HU) (fv 9) (fv 3)) (cS (aO (b8 K HU) (ko (az K (fv 2) aa) T.cz (dU T) (hr.mono (by decide)) aE) (fv 7))))) (ag (aJ eE)) aL))),fun D sc hd ev sh nw x5 x6 x8 x10 x11 ns m H0 G W ts L hnw nnw lt lb k=>?_⟩
 walk_at "rd";refine⟨.inl ⟨_,SqL.of L.hs⟩,_,.inl (SqL.of hnw),fun l hl=>⟨by walk_at "om",fun p hp=>?_⟩⟩;have nl:=L.has hl;have s2:=(au (HO.lst W.bs) hl).trans (au (HO.tup [V.ref nw,V.ref l]) hp);have hp2:upd (upd G l (HO.lst W.bs)) p (HO.tup [V.ref nw,V.ref l]) p=_:=ad;have hl2:upd (upd G l (HO.lst W.bs)) p (HO.tup [V.ref nw,V.ref l]) l=_:=(au _ hp) _ _ ad;have L2:=L.same s2 (aA (aA L.ls.nT rfl) rfl);generalize upd (upd G l (HO.lst W.bs)) p _=G2 at s2 hp2 hl2 L2 |-
 refine⟨sh,_,_,rfl,rfl,L2.hs,by lia,?_⟩;have L3:=L2.sh1 hp2 (s2 _ _ hnw) hl2 nnw nl L.ls.rf;have hnw3:=(ah (H:=G2) (o:=HO.lst (ts++[V.ref p])) fun z=>nnw (by rw[z];exact .tail _ (.head _))).trans (s2 _ _ hnw);generalize upd G2 sh _=G3 at L3 hnw3 |-
 refine⟨true,Ay hnw3 L3.he L3.ls.rf,itn (by decide) ⟨_,.ref W.g,.inl (SqL.of L3.hh),av (j:=1) rfl,?_⟩⟩;have kk:=k _ _ L3;walk_at "rd";refine⟨W.gx,_,L3.ls.ga,iF _,L3.ls.nT,_,_,L3.ls.ga,?_⟩;cases eo:W.o with
 |none=>rw[eo]at kk;exact kk
 |some z=>
  rw[eo]at kk;show iR K true (.int z) (.int z) G3 _;walk_at "rd"
  first|exact kk|exact itp rfl kk
theorem bT0(T:Txt K mg a){cdv:Value}{A:Around}{outer:List Env}{s:Shared}{H:Hp}{E:XK}(hr:Room 13 (A.deeper (ZO "law" (ae cL) s.heap.objs.size a.eT cdv))):∃u,PSs (bW (XE P w) P w K mg base lg "law" (ae cL) a.eT cdv A outer s H E) Ea u /\
 ∀(D:eO) sc hd ev sh (k:Int) x6 x7 x8 x9 x10 x11 (ns:List Int) m H0 G W ts,LI a ns m H0 G W hd ev sh W.bs ts->SqL K G sc (ns.map V.int)->m<40->0<=k->ts.length<=20->(∀W' G' ts' x7 x8 x9,LI a ns (m+1) H0 G' W' hd ev sh W'.bs ts'->W'.d=W.d->ts'.length=ts.length+1->D.nx (sgL sc W.d hd ev sh (some (.int k)) x6 x7 x8 x9 x10 x11) G') ->
  u D (sgL sc W.d hd ev sh (some (.int k)) x6 x7 x8 x9 x10 x11) G:=by
 have sz:=szl;have ND:=kK.nd;have HU:=bV hr
 skip
 obtain⟨u4,hu4,c4⟩:=@bT4 P w K mg base a T (cdv:=cdv) (A:=A) (outer:=outer) (s:=s) (H:=H) (E:=E) hr;refine⟨_,(af (aS 7 ND (ko (az K (fv 2) aa) T.cz (dU T) (hr.mono (by decide)) aE))
  (af (aS 8 ND (aN (oM T) hr aE (fa4 (fv 2) (fv 1) (fv 0) (fv 5))))
  (af (aS 9 ND (ko (az K (fv 2) aa) T.bc (j5 T) (hr.mono (by decide)) aE))
  (af (aW (cY (cD (fv 8))) (af (aW (L2.PW.pt (dw (aO (b8 K HU) (fv 8) (aH (bj K) rfl T.cp bD (fa1 (fv 3)))) (dw (aO (b8 K HU) (aH (bj K) rfl T.cp bD (fa1 (fv 9))) (aj aK (fv 8) aa)) (cS (bB (bv (aN (qC T) hr aE (fa3 (fv 1) (fv 7) (az K (fv 9) (rK mT aa)))))))))) (ag (aJ eE)) aL)
  (ag (bC (eQ K ZA ZH ZI d8 (fv 3) (fa1 (az K (fv 9) (rK mT aa))))))) aL)
  hu4)))),fun D sc hd ev sh k x6 x7 x8 x9 x10 x11 ns m H0 G W ts L hS m50 k0 lt kk=>?_⟩
 have l1:=L.ls.bk.len;have l2:=L.ls.ll;walk_at "rd";refine⟨_,.ref W.g,.inl (SqL.of L.hh),av (j:=1) rfl,?_⟩;walk_at "rd";refine⟨W.gx,_,L.ls.ga,iF _,L.ls.nT,_,_,L.ls.ga,ns,W,m,k0,rfl,L.hh,hS,L.ls,by lia,fun H1 s1 n1=>?_,fun H1 x v kvs M=>?_⟩
 ·have L1:=L.same s1 n1
  obtain⟨dj,hj⟩:=L1.ls.ja.ob;refine⟨_,.ref W.j,.inl (SqL.of L1.hh),av (j:=2) rfl,?_⟩;walk_at "rd";refine⟨dj,_,hj,sN _ _,n1,W.b,W.u,W.bs,W.kvs,L1.ls.ja,fun nw hnw=>?_⟩;walk_at "rd";exact c4 D sc hd ev sh nw _ _ _ _ _ ns (m+1) H0 _ W ts (L1.same (au _ hnw) (aA n1 rfl)).le ad (L1.has hnw) lt (by lia) fun G' t L'=>kk W G' (ts++[t]) _ _ _ L' rfl (by rw[yw];rfl)
 ·have L1:=L.go M.ls (M.kp.mono fun p q=>?_) (fun p q=>.inl q) rfl rfl rfl
  ·obtain⟨dj,hj⟩:=L1.ls.ja.ob
   refine⟨_,.ref W.j,.inl (SqL.of L1.hh),av (j:=2) rfl,?_⟩;walk_at "rd";refine⟨dj,_,hj,sN _ _,L1.ls.nT,W.b,W.u,_,kvs,L1.ls.ja,fun nw hnw=>?_⟩;walk_at "rd";have L2:=L1.same (au (HO.lst (W.bs++[v])) hnw) (aA L1.ls.nT rfl);have gnw:upd H1 nw (HO.lst (W.bs++[v])) nw=_:=ad;have nnw:=L1.has hnw;generalize upd H1 nw _=G2 at L2 gnw |-
   have hb:BkAt G2 v x:=by
    obtain⟨y,e1,e2⟩:=L2.ls.bk.at_ (show(W.bs++[v])[W.bs.length]? = some v by rw[List.getElem?_append_right (z4 _),Nat.sub_self];rfl);have e3:(W.bk++[x])[W.bs.length]? = some y:=e1;rw[l1,List.getElem?_append_right (z4 _),Nat.sub_self]at e3;cases e3;exact e2
   obtain⟨_,lx,_⟩:=L2.ls.ok.nm W.bk.length x (by show(W.bk++[x])[W.bk.length]? = _;rw[List.getElem?_append_right (z4 _),Nat.sub_self];rfl);obtain⟨q,ev'⟩:∃q,v = .ref q:=by obtain⟨q,_,_,_,e,_⟩:=hb;exact⟨q,e⟩
   subst ev';refine itn (by intro z;cases z) ⟨_,.inl (SqL.of L2.he),itp (by rw[l1]) ⟨_,.inl (SqL.of gnw),itp (by rw[yw,l1];rfl) ⟨_,_,.inl (SqL.of gnw),mW _ _,L2.ls.nT,W.o,W.as,x,rfl,⟨.inl L2.ls.dd,L2.ls.ls⟩,L2.ls.ai.nd,hb,M.dy,M.lt,⟨lx.1,by lia⟩,M.ev,M.ft,fun H3 s3 n3=>?_⟩⟩⟩;have L3:=L2.same s3 n3;refine⟨.inl ⟨_,SqL.of L3.he⟩,_,_,.inl (SqL.of (s3 _ _ gnw)),mW _ _,ev,_,_,rfl,rfl,L3.he,by lia,?_⟩;exact c4 D sc hd ev sh nw _ _ _ _ _ ns (m+1) H0 _ { W with bs:=W.bs++[.ref q],bk:=W.bk++[x],kvs:=kvs } ts (L3.ev1 (.ref q)) ((ah fun z=>nnw (by rw[z];exact .head _)).trans (s3 _ _ gnw)) nnw lt (by show(W.bs++[V.ref q]).length<=_;rw[yw,pM];lia) fun G' t L'=>kk _ G' (ts++[t]) _ _ _ L' rfl (by rw[yw];rfl)
  ·rcases zG.mp q with q|q
   ·rw[q];exact D9 W
   ·rw[zL.mp q];exact DL W
end
open PySem L2 K19 K22
section
variable{P:Program}{w:World}{K:W.Frag}{mg:Str->Option Value}{base:Heap}{a:Adr}
open K3
theorem bG0(T:Txt K mg a){cdv:Value}{A:Around}{outer:List Env}{s:Shared}{H:Hp}{E:XK}(hr:Room 13 (A.deeper (ZO "law" (ae cL) s.heap.objs.size a.eT cdv))):∃u,PSs (bW (XE P w) P w K mg base lg "law" (ae cL) a.eT cdv A outer s H E) GX u /\
 ∀(D:eO) sc hd ev sh x5 x6 x7 x8 x9 x10 x11 (ns:List Int) m H0 G W ts,LI a ns m H0 G W hd ev sh W.bs ts->SqL K G sc (ns.map V.int)->(∀W' G' x6,LI a ns (m+1) H0 G' W' hd ev sh W'.bs ts->W'.d=W.d->D.nx (sgL sc W.d hd ev sh x5 x6 x7 x8 x9 x10 x11) G') ->
  u D (sgL sc W.d hd ev sh x5 x6 x7 x8 x9 x10 x11) G:=by
 have sz:=szl;have ND:=kK.nd;have HU:=bV hr
 skip
 refine⟨_,(af (aS 6 ND (aN (i5 T) hr aE (fa1 (aj a7 (aN (aP T) hr aE (fa2 (fv 0) aa)) aa))))
  (af (aW (cY (cD (ko (az K (fv 2) aa) T.cz (dU T) (hr.mono (by decide)) aE))) (ag (aS 6 ND (aj aK (ko (az K (fv 2) aa) T.cz (dU T) (hr.mono (by decide)) aE) aa))) aL)
  (ag (aW (aO nP (fv 6) aa) (ag (bC (cj (az K (fv 2) aa) T.cz (p8 T) (hr.mono (by decide)) aE (fa1 (fv 6))))) aL)))),fun D sc hd ev sh x5 x6 x7 x8 x9 x10 x11 ns m H0 G W ts L hS kk=>?_⟩
 walk_at "rd";refine⟨ns,hS,fun i _=>⟨L.ls.nT,⟨by lia,by lia⟩,fun H1 s1 n1=>?_⟩⟩;have L1:=L.same s1 n1;have g1:=L1.ls.ga;have oo:=L.ls.oo;have fin:∀t:Int,0<=t->t<4799->LI a ns (m+1) H0 (upd H1 W.g (dY a.ba W.gx (.int t))) { W with o:=some t } hd ev sh W.bs ts:=fun t h0 h1=>
  L1.go (L1.ls.gate ⟨h0,by lia⟩) (Keep.refl.put (D5 W)) (fun p q=>.inl q) rfl rfl rfl
 refine⟨_,.ref W.g,.inl (SqL.of L1.hh),av (j:=1) rfl,?_⟩;walk_at "rd";refine⟨W.gx,_,g1,iF _,n1,_,_,g1,?_⟩;cases eo:W.o with
 |none=>
  rw[eo]at g1;refine itp rfl ?_;by_cases h:MO (i % 145900)<4799
  ·refine itp h ⟨_,.ref W.g,.inl (SqL.of L1.hh),av (j:=1) rfl,?_⟩
   walk_at "rd";have h0:=(Ho (d:=i % 145900) (by lia) (by lia)).1;exact⟨W.gx,_,g1,sX _,n1,_,none,g1,⟨h0,by lia⟩,.inl rfl,kk _ _ _ (fin _ h0 h) rfl⟩
  ·exact itn h (kk W _ _ L1.le rfl)
 |some z=>
  rw[eo]at g1;have hz:=oo z eo;refine itn (by intro q;cases q) ⟨_,.ref W.g,.inl (SqL.of L1.hh),av (j:=1) rfl,?_⟩;walk_at "rd";refine⟨W.gx,_,g1,iF _,n1,_,_,g1,?_⟩;show BC (.int z) (.int 1) H1 _;walk_at "rd";by_cases h:z+1<4799
  ·refine itp h ⟨_,.ref W.g,.inl (SqL.of L1.hh),av (j:=1) rfl,?_⟩
   walk_at "rd";exact⟨W.gx,_,g1,sX _,n1,_,some z,g1,⟨by lia,by lia⟩,.inr (by rw[show z+1-1=z by lia]),kk _ _ _ (fin _ (by lia) h) rfl⟩
  ·exact itn h (kk W _ _ L1.le rfl)
end
open PySem L2 K19 K22
section
variable{P:Program}{w:World}{K:W.Frag}{mg:Str->Option Value}{base:Heap}{a:Adr}
open K3
theorem bL0(T:Txt K mg a){cdv:Value}{A:Around}{outer:List Env}{s:Shared}{H:Hp}{E:XK}(hr:Room 13 (A.deeper (ZO "law" (ae cL) s.heap.objs.size a.eT cdv))):∃u,PSs (bW (XE P w) P w K mg base lg "law" (ae cL) a.eT cdv A outer s H E) AX u /\
 ∀(D:eO) sc hd ev sh (k:Int) x6 x7 x8 x9 x10 x11 (ns:List Int) m H0 G W ts,LI a ns m H0 G W hd ev sh W.bs ts->SqL K G sc (ns.map V.int)->m<40->0<=k->ts.length<=20->(∀W' G' ts' x6 x7 x8 x9,LI a ns (m+1) H0 G' W' hd ev sh W'.bs ts'->W'.d=W.d->ts'.length<=ts.length+1->D.nx (sgL sc W.d hd ev sh (some (.int k)) x6 x7 x8 x9 x10 x11) G') ->
  u D (sgL sc W.d hd ev sh (some (.int k)) x6 x7 x8 x9 x10 x11) G:=by
 have sz:=szl;have ND:=kK.nd;have HU:=bV hr
 skip
 obtain⟨uT,huT,cT⟩:=@bT0 P w K mg base a T (cdv:=cdv) (A:=A) (outer:=outer) (s:=s) (H:=H) (E:=E) hr;obtain⟨uG,huG,cG⟩:=@bG0 P w K mg base a T (cdv:=cdv) (A:=A) (outer:=outer) (s:=s) (H:=H) (E:=E) hr;refine⟨_,(ag (aW (L2.PW.pt (gr (aO (dm K HU) (aj a7 (aN (aP T) hr aE (fa2 (fv 0) (fv 5))) aa) aa) (eh (aO jL (aj a7 (aN (aP T) hr aE (fa2 (fv 0) (aj aK (fv 5) aa))) aa) aa)))) (ag (bC (aN (lP T) hr aE (fa4 (az K (fv 2) aa) (fv 1) (fv 0) (fv 5))))) (ag (aW (aO (dm K HU) (aj a7 (aN (aP T) hr aE (fa2 (fv 0) (fv 5))) aa) aa) huG huT)))),fun D sc hd ev sh k x6 x7 x8 x9 x10 x11 ns m H0 G W ts L hS m50 k0 lt kk=>?_⟩;have kG:=cG D sc hd ev sh _ x6 x7 x8 x9 x10 x11 ns m H0 G W ts L hS fun W' G' x6 L' ed=>kk W' G' ts x6 _ _ _ L' ed (by lia);have kT:=cT D sc hd ev sh k x6 x7 x8 x9 x10 x11 ns m H0 G W ts L hS m50 k0 lt fun W' G' ts' x7 x8 x9 L' ed lt'=>kk W' G' ts' _ _ _ _ L' ed (by lia);walk_at "rd";refine⟨ns,hS,k0,fun i _=>?_⟩;refine' Fy (fun key=>_) _
 rotate_left 1
 ·by_cases h:¬ i % 8=7
  ·exact itn h key
  ·refine itp (Decidable.of_not_not h) ⟨ns,hS,by lia,fun j _=>?_⟩
   by_cases h2:0<j % 3
   ·exact itp h2 ⟨_,.ref W.ch,.inl (SqL.of L.hh),av (j:=0) rfl,ns,W,m,k0,rfl,rfl,hS,L.ls,by lia,fun H1 as cs S1 kp sub=>kk { W with as:=as,cs:=cs } H1 ts _ _ _ _ (L.go S1 kp sub rfl rfl rfl) rfl (by lia)⟩
   ·exact itn h2 key
 refine⟨ns,hS,k0,fun i _=>?_⟩;by_cases h:i % 8=7
 ·exact itp h kG
 ·exact itn h kT
end
open PySem L2 K19 K22
section
variable{P:Program}{w:World}{K:W.Frag}{mg:Str->Option Value}{base:Heap}{a:Adr}
open K3
theorem Hj{ws:List V}{is:List (Option Int)}(h:A2 (fun(v:V) (i:Option Int)=>v=cl i) ws is):ws=is.map cl:=by
 induction h with
 |nil=>rfl
 |cons e _ ih=>rw[xx,e,ih]
theorem wP{α:Type}:∀l:List α,A2 (fun v t=>v=t) l l
 | []=>.nil
 |_::r=>.cons rfl (wP r)
theorem F0{α:Type}{ws:List V}{is:List α}(h:A2 (fun(v:V) (_:α)=>v = .bl true) ws is):ws=(is.map fun _=>true).map V.bl:=by
 induction h with
 |nil=>rfl
 |cons e _ ih=>rw[xx,xx,e,ih]
theorem CJ(bk:List Bo)(k:Int):inV (.int k) (((bk.filter fun b=>decide (b.un≠none)).map (·.un)).map cl)=bk.any fun y=>decide (y.un=some k):=by
 unfold inV;rw[List.any_map,List.any_map,List.any_filter]
 congr 1
 funext y;show(decide (y.un≠none)&&eqV (cl y.un) (.int k))=decide (y.un=some k);cases y.un with
 |none=>rfl
 |some z=>show(true&&(z==k))=decide (some z=some k);by_cases h:z=k <;> simp[h]
theorem sd{H:Hp}{n:Nat}{p q:Addr}{x y x' y':V}(h1:H p=some (.tup [x,y]))(h2:H q=some (.tup [x',y']))(e1:EqH K H n x x' true)(e2:EqH K H n y y' true):EqH K H (n+1) (.ref p) (.ref q) true:=by
 by_cases hq:p=q
 ·subst hq;exact .same
 ·have:=EqH.tup (K:=K) (H:=H) (n:=n) (e:=fun _=>true) hq (SqT.of h1) (SqT.of h2) fun j x y gx gy=>by
   rcases j with _|_|j
   ·cases gx;cases gy;exact e1
   ·cases gx;cases gy;exact e2
   ·simp at gx
  exact this
theorem uw{H:Hp}{n:Nat}{x:V}(f:dX x=true)(e:eqV x x=true):EqH K H n x x true:=by have:=EqH.flat (K:=K) (H:=H) (n:=n) f f;rwa [e]at this
theorem Dx{H:Hp}{r r':Addr}{rs rs':List Row}{ps ps':List Nm}(h1:Fc rs ps)(h2:Fc rs' ps')(he:∀k,sm rs k=sm rs' k)(a1:∀e∈ps,NmAt H e)(a2:∀e∈ps',NmAt H e)(hr:H r=some (.lst (ps.map fun e=>V.ref e.p)))(hr':H r'=some (.lst (ps'.map fun e=>V.ref e.p))):EqR K H r r' true:=by
 have nd:∀ {l:List Pt},qV l->l.Nodup:=fun {l} h=>List.Pairwise.imp (S:=fun a b=>a≠b) (fun {a b} (q:ltP a b) (z:a=b)=>nO b (z ▸ q)) h;have me:∀k,k∈ps.map (·.e)↔k∈ps'.map (·.e):=fun k=>by
  rw[yH,yH];constructor
  ·rintro⟨n,m,e⟩
   obtain⟨n',m',e',_⟩:=(h2.2 k n.i).mpr (by rw[<- he];exact(h1.2 k n.i).mp ⟨n,m,e,rfl⟩);exact⟨n',m',e'⟩
  ·rintro⟨n,m,e⟩
   obtain⟨n',m',e',_⟩:=(h1.2 k n.i).mpr (by rw[he];exact(h2.2 k n.i).mp ⟨n,m,e,rfl⟩);exact⟨n',m',e'⟩
 have ee:ps.map (·.e)=ps'.map (·.e):=oN ((List.perm_ext_iff_of_nodup (nd h1.1) (nd h2.1)).mpr me) h1.1 h2.1;have ln:ps.length=ps'.length:=by have:=congrArg YS ee;simpa using this
 have:=EqR.lst (K:=K) (H:=H) (e:=fun _=>true) (SqL.of hr) (SqL.of hr') (by rw[zK,zK,ln]) fun j x y gx gy=>by
  rw[List.getElem?_map]at gx gy;obtain⟨n,gn,rfl⟩:=uE.mp gx;obtain⟨n',gn',rfl⟩:=uE.mp gy;have e1:n.e=n'.e:=by
   have q:=congrArg (fun l:List Pt=>l[j]?) ee;simp only[List.getElem?_map,gn,gn']at q;exact se q
  have i1:=((h1.2 n.e n.i).mp ⟨n,xg gn,rfl,rfl⟩).1;have i2:=((h2.2 n'.e n'.i).mp ⟨n',xg gn',rfl,rfl⟩).1;obtain⟨b1,b2⟩:=a1 n (xg gn);obtain⟨d1,d2⟩:=a2 n' (xg gn');rw[show n'.i=n.i by rw[i1,i2,e1,he]]at d1;rw[<- e1]at d2;exact sd (n:=49) b1 d1 (sd (n:=48) b2 d2 (uw rfl (by simp[eqV,L2.T])) (uw rfl (by simp[eqV,L2.T]))) (uw rfl (beq_self_eq_true _))
 rwa [show(Zj (ps.map fun e=>V.ref e.p).length).all (fun _=>true)=true by simp]at this
theorem D3{ns:List Int}{m:Nat}{H:Hp}{W:Wd}(S:LS a ns m H W){bk:List Bo}(sb:∀b∈bk,b∈W.bk)(m20:m<20):bk.length<=20->(∀b∈bk,b.rs.length<=40)/\(dk (bk.flatMap (·.rs))).length<64:=fun lb=>by
 have at_:∀b∈bk,b.rs.length<=8/\∀r∈b.rs,RwG ns W.as r:=fun b mb=>by
  obtain⟨i,e⟩:=List.getElem?_of_mem (sb b mb);obtain⟨_,q,q',_⟩:=S.ok.nm i b e;exact⟨q.2,q'⟩
 have rw_:∀r∈bk.flatMap (·.rs),RwG ns W.as r:=fun r mr=>by
  obtain⟨b,mb,mr⟩:=List.mem_flatMap.mp mr;exact(at_ b mb).2 r mr
 refine⟨fun b mb=>uM (at_ b mb).1 (by decide),?_⟩;have la:=S.ai.len;cases e:bk.flatMap (·.rs) with
 |nil=>exact Nat.zero_lt_succ _
 |cons r0 rr=>
  rw[e]at rw_;obtain⟨ls,c0,_,l3,_⟩:=(rw_ r0 (.head _)).cu;have q:=FK (rs:=r0::rr) (ps:=W.as.map (·.pa)) (cu:=ls) fun r mr=>⟨by obtain⟨z,mz,ez,_⟩:=(rw_ r mr).pa;rw[<- ez];exact xF mz,by obtain⟨ls',c',m',_⟩:=(rw_ r mr).cu;rw[c0.one c'];exact m'⟩;rw[zK,l3]at q;lia
theorem yt{ta:TA}{g:TG}{tb:TS}{D:eO}{σ:St}{H:Hp}(h:ta σ H fun vs H1=>∃i j c:Int,vs=[.int i,.int j,.int c]/\(0<=i/\i<1000000 /\ -1000000<=j/\j<1000000/\1<=c/\c<1000000)/\FE (uP i c (rsz i j c)) g tb D σ H1):nV (zJ ta) g tb D σ H:=h
def sp_law(K:W.Frag):Sp:=sp1 fun x H Q _=>asR x fun p=>NoT H/\∃ns:List Int,SqL K H p (ns.map V.int)/\ns.length<=63/\∀H',Q (.bl true) H'
theorem Fp(T:Txt K mg a){fd:FuncData}(FL:Fun K "law" "law" cL a.eT fd):hU P w K mg base (XE P w) 14 a.eT fd ["_law_script"] (sp_law K):=by
 refine FL.okX kK (fun vs H Q E h=>sp1.len h) (fun cdv A outer s H vs Q E hr h=>?_);obtain⟨x0,rfl,h⟩:=sp1.inv h
 try dsimp only[sp_law,sp1]at h
 have ND:=kK.nd;have HU:=bV hr;obtain⟨sc,rfl,hN,ns,hS,hl,k⟩:=asR.inv h;have sz:=szl
 skip
 obtain⟨ub,hub,cb⟩:=@bL0 P w K mg base a T (cdv:=cdv) (A:=A) (outer:=outer) (s:=s) (H:=H) (E:=E) hr;have c6:∃u,PSs (bW (XE P w) P w K mg base lg "law" (ae cL) a.eT cdv A outer s H E) (Ys 6 (aq cL)) u/\∀hd ev sh x5 x6 x7 x8 x9 x10 x11 m H0 G W ts,LI a ns m H0 G W hd ev sh W.bs ts->m<20->u { nx:=fun _ H'=>Q .non H',rt:=Q } (sgL sc W.d hd ev sh x5 x6 x7 x8 x9 x10 x11) G:=by
  refine⟨_,(af (aS 10 ND (br rfl (cl:=_) (x:="_law_booking") (xs:=["_law_booking"]) (fr:=[]) (ks:=[]) (by walk_at "cq") rfl (bF K (fv 3)) (fun _ _ _ _ _=>(aF (i:=0) (bX (l:=["_law_booking"]) (by decide)) rfl (Or.inl rfl))) (fun _ _ _ _ _=>(dO (cY (cD (az K (fv 0) aa))))) (fun _ _ _ _ _=>(az K (fv 0) aa))))
   (af (ue (i0:=11) ND rfl (Or.inl rfl) rfl (cl:=_) (x:="_law_booking") (xs:=["_law_booking"]) (fr:=["_law_gone"]) (ks:=[10]) (by walk_at "cq") rfl (bF K (fv 3)) (fun _ _ _ _ _=>(aF (i:=0) (bX (l:=["_law_booking","_law_gone"]) (by decide)) rfl (Or.inl rfl))) (fun _ _ _ _ _=>(dO (L2.PW.pt (gr (cY (j_ (az K (fv 0) aa))) (eh (jk (kr K) (az K (fv 0) aa) (fv 1) (by with_unfolding_all rfl))))))) (fun _ _ _ _ _=>(fv 0)))
   (ag (aJ (eY (dm K HU) (aN (jV T) hr aE (fa1 (fv 3))) (aN (jV T) hr aE (fa1 (fv 11))) (gm _)))))),fun hd ev sh x5 x6 x7 x8 x9 x10 x11 m H0 G W ts L m20=>?_⟩
  have l1:=L.ls.bk.len;have l2:=L.ls.ll;walk_at "rd";refine lD ?_;walk_at "rd";refine⟨⟨_,SqL.of L.he⟩,ceA (S:=fun _ (v:V) (c:Option Int)=>v=cl c) (fun _ _ _ _ _ h=>h) ev W.bs W.bk (BkAt G) (fun b=>decide (b.un≠none)) (·.un) L.he L.ls.nT L.ls.bk (by lia) (fun v b mb hb G1 zs N1 N0 s1 n1 hz y1 y0=>?_) fun D1 ws G1 hD s1 n1 gD aD=>?_⟩
  ·have hb':=hb.mv fun t l e=>s1 _ _ e
   obtain⟨q,t,vs,nt,rfl,h1,_⟩:=id hb';obtain⟨z1,rfl⟩:=ex1 hz;walk_at "rd";refine⟨⟨[_],rfl,rfl⟩,_,_,.inr (SqT.of h1),av (j:=4) rfl,?_⟩;cases eu:b.un with
   |none=>exact itp rfl (y0 (by rw[eu];rfl) _ (Same.refl _) n1)
   |some z=>exact itn (by intro q;cases q) ⟨_,_,.inr (SqT.of h1),av (j:=4) rfl,y1 (by rw[eu];rfl) _ _ (Same.refl _) n1 rfl⟩
  ·have ew:=Hj aD
   subst ew;have L1:=L.same s1 n1;refine lD ?_;walk_at "rd";refine⟨⟨_,SqL.of L1.he⟩,ceA (S:=BkAt) (fun _ _ _ _ k h=>h.mv k) ev W.bs W.bk (BkAt G1) (kept W.bk) id L1.he n1 L1.ls.bk (by lia) (fun v b mb hb G2 zs N1 N0 s2 n2 hz y1 y0=>?_) fun D2 ws2 G2 hD2 s2 n2 gD2 aD2=>?_⟩
   ·have hb':=hb.mv fun t l e=>s2 _ _ e
    obtain⟨q,t,vs,nt,rfl,h1,_⟩:=id hb';obtain⟨z1,rfl⟩:=ex1 hz;walk_at "rd";refine⟨⟨[_],rfl,rfl⟩,_,_,.inr (SqT.of h1),av (j:=4) rfl,?_⟩;cases eu:b.un with
    |some z=>exact itn (by intro q;cases q) (y0 (by unfold kept;rw[eu];rfl) _ (Same.refl _) n2)
    |none=>
     refine itp rfl ⟨_,_,.inr (SqT.of h1),av (j:=0) rfl,_,.inl (SqL.of (s2 _ _ gD)),rfl,ZY.mpr (fun x mx=>by obtain⟨o,_,rfl⟩:=yH.mp mx;cases o <;> rfl),?_⟩;rw[CJ];have ek:kept W.bk b = !W.bk.any fun y=>decide (y.un=some b.k):=by unfold kept;rw[eu];rfl
     cases ea:W.bk.any fun y=>decide (y.un=some b.k) with
     |false=>exact itp rfl (y1 (by rw[ek,ea];rfl) _ _ (Same.refl _) n2 hb')
     |true=>exact itn (by decide) (y0 (by rw[ek,ea];rfl) _ (Same.refl _) n2)
   ·rw[Y0]at aD2
    have L2:=L1.same s2 n2;obtain⟨q1,q2⟩:=D3 L2.ls (bk:=W.bk) (fun b mb=>mb) m20 (by lia);obtain⟨q3,q4⟩:=D3 L2.ls (bk:=W.bk.filter (kept W.bk)) (fun b mb=>(Z7.mp mb).1) m20 (uM (Zf _ _) (by lia));refine⟨n2,W.bs,W.bk,L2.he,L2.ls.bk,by lia,q1,q2,fun ps r H3 ok1 at1 fr1 hr1 s3 n3=>?_⟩;walk_at "rd";refine⟨n3,ws2,_,s3 _ _ gD2,nW s3 aD2,uM (Zf _ _) (by lia),q3,q4,fun ps' r' H4 ok2 at2 fr2 hr2 s4 n4=>⟨true,Dx ok1 ok2 (fun q=>L.ls.ok.cn q) (fun e me=>NmAt.mv (fun t l z=>s4 _ _ z) (at1 e me)) at2 (s4 _ _ hr1) hr2,k _⟩⟩
 obtain⟨u6,hu6,c6⟩:=c6;have c5:∃u,PSs (bW (XE P w) P w K mg base lg "law" (ae cL) a.eT cdv A outer s H E) (Ys 5 (aq cL)) u/\∀hd ev sh x5 x6 x7 x8 x9 x10 x11 m H0 G W ts,LI a ns m H0 G W hd ev sh W.bs ts->m<20->ts.length<=20->u { nx:=fun _ H'=>Q .non H',rt:=Q } (sgL sc W.d hd ev sh x5 x6 x7 x8 x9 x10 x11) G:=by
  refine⟨_,(af (aW (L2.PW.pt (dw (bB (bv (aH (l9 K rfl) rfl T.wj qX (fa1 (br rfl (cl:=_) (x:="_law_booking") (xs:=["_law_booking"]) (fr:=["_law_every"]) (ks:=[3]) (by walk_at "cq") rfl (bF K (fv 3)) (fun _ _ _ _ _=>(aF (i:=0) (bX (l:=["_law_booking","_law_every"]) (by decide)) rfl (Or.inl rfl))) (fun _ _ _ _ _=>dN) (fun _ _ _ _ _=>(aN (mB T) hr tR (fa2 (fv 1) (fv 0))))))))) (cS (aO (b8 K HU) (br rfl (cl:=_) (x:="_law_one") (xs:=["_law_one","_law_copy"]) (fr:=[]) (ks:=[]) (by walk_at "cq") rfl (bF K (fv 4)) (fun _ _ _ _ _=>(e_ K (n:=2) rfl (aU (aF (i:=0) (bX (l:=["_law_one","_law_copy"]) (by decide)) rfl (Or.inl rfl)) (aU (aF (i:=1) (bX (l:=["_law_one","_law_copy"]) (by decide)) rfl (Or.inl rfl)) dP)))) (fun _ _ _ _ _=>(dO (aO (b8 K HU) (fv 0) (fv 1)))) (fun _ _ _ _ _=>aa)) (cX (FA.pa di)))))) (ag (aJ eE)) aL)
   hu6),fun hd ev sh x5 x6 x7 x8 x9 x10 x11 m H0 G W ts L m20 lt=>?_⟩
  have l1:=L.ls.bk.len;have l2:=L.ls.ll;walk_at "rd";refine lD ?_;walk_at "rd";refine⟨⟨_,SqL.of L.he⟩,ceA (S:=fun _ (v:V) (_:Bo)=>v = .bl true) (fun _ _ _ _ _ h=>h) ev W.bs W.bk (BkAt G) (fun _=>true) id L.he L.ls.nT L.ls.bk (by lia) (fun v b mb hb G1 zs N1 N0 s1 n1 hz y1 y0=>?_) fun D1 ws G1 hD s1 n1 gD aD=>?_⟩
  ·have hb':=hb.mv fun t l e=>s1 _ _ e
   obtain⟨q,t,vs,nt,rfl,h1,_⟩:=id hb';obtain⟨z1,rfl⟩:=ex1 hz;obtain⟨i,ei⟩:=List.getElem?_of_mem mb;obtain⟨_,lr,_,_,un⟩:=L.ls.ok.nm i b ei;walk_at "rd";refine⟨⟨[_],rfl,rfl⟩,n1,W.bs,W.bk,b,s1 _ _ L.he,nW s1 L.ls.bk,by lia,hb',by lia,un,fun G2 s2 n2=>y1 rfl _ _ s2 n2 rfl⟩
  ·have ew:=F0 aD
   subst ew;have L1:=L.same s1 n1;refine⟨_,SqL.of gD,itn ?_ ?_⟩
   ·rw[show((W.bk.filter fun _=>true).map id |>.map fun _=>true).all id=true by simp];decide
   refine lD ?_;walk_at "rd";refine⟨⟨_,SqL.of L1.hs⟩,ceA (S:=fun _ (_:V) (_:V)=>True) (fun _ _ _ _ _ h=>h) sh ts ts (fun v t=>v=t) (fun _=>false) id L1.hs n1 (wP ts) (by lia) (fun v b mb hb G2 zs N1 N0 s2 n2 hz y1 y0=>?_) fun D2 ws G2 hD2 s2 n2 gD2 aD2=>?_⟩
   ·subst hb
    obtain⟨p,x,y,l,rfl,h1,h2,h3,_,_,h6⟩:=L1.tt v mb;obtain⟨z1,z2,rfl⟩:=ex2 hz;walk_at "rd";refine⟨_,_,rfl,SqT.of (s2 _ _ h1),rfl,_,_,rfl,_,_,rfl,rfl,?_⟩;walk_at "rd";exact⟨⟨[_,_],rfl,rfl⟩,true,Ay (s2 _ _ h2) (s2 _ _ h3) h6,itn (by decide) (y0 rfl _ (Same.refl _) n2)⟩
   ·have ew:ws=[]:=by
     rw[Y3.mpr (fun _ _=>by decide)]at aD2;cases aD2;rfl
    subst ew;refine⟨ud _,fun p hp=>?_⟩;walk_at "rd";have s3:=au (HO.lst []) hp;refine⟨_,EK (SqL.of (s3 _ _ gD2)) (SqL.of ad),?_⟩;exact c6 hd ev sh x5 x6 x7 x8 x9 x10 x11 m H0 _ W ts (L1.same (s2.trans s3) (aA n2 rfl)) m20
 obtain⟨u5,hu5,c5⟩:=c5;have c4:∃u,PSs (bW (XE P w) P w K mg base lg "law" (ae cL) a.eT cdv A outer s H E) (Ys 4 (aq cL)) u/\∀hd ev sh G W,LI a ns 7 H G W hd ev sh W.bs []->u { nx:=fun _ H'=>Q .non H',rt:=Q } (sgL sc W.d hd ev sh none none none none none none none) G:=by
  refine⟨_,(af (dt (by passes_own) rfl (uH rfl T.iJ (fa3 aa (aH (Ac rfl) rfl T.D6 Bw (fa2 (aH (bj K) rfl T.cp bD (fa1 (fv 0))) aa)) aa)) (aF (i:=5) ND rfl (Or.inl rfl)) hub)
   hu5),fun hd ev sh G W L=>?_⟩
  walk_at "rd";refine yt ?_;walk_at "rd";refine⟨_,.inl (hS.same L.s0),?_⟩;rw[zK];obtain⟨j,ej,j1⟩:∃j:Int,(if 44<(ns.length:Int) then 44 else (ns.length:Int))=j/\0<=j/\j<=44:=⟨_,rfl,by split <;> lia⟩;rw[ej];refine⟨8,j,4,⟨rfl,rfl,rfl⟩,⟨by decide,by decide,by lia,by lia,by decide,by decide⟩,?_⟩;have hr9:rsz 8 j 4<=9:=by unfold rsz;split <;> lia
  generalize rsz 8 j 4=n at hr9 |-
  refine uq (lo:=8) (c:=4) (n:=n) (fun i σ' G'=>∃W' ts x5 x6 x7 x8 x9,LI a ns (7+i) H G' W' hd ev sh W'.bs ts/\W'.d=W.d/\ts.length<=i/\σ'=sgL sc W.d hd ev sh x5 x6 x7 x8 x9 none none) ⟨W,[],_,_,_,_,_,L,rfl,ud _,rfl⟩ ?_ ?_
  ·clear L
   rintro i σ' G' hi ⟨W',ts,x5,x6,x7,x8,x9,L,ed,lt,rfl⟩;walk_at "rd";rw[<- ed];exact cb _ sc hd ev sh (8+(i:Int)*4) x6 x7 x8 x9 none none ns (7+i) H G' W' ts L (hS.same L.s0) (by lia) (by lia) (by lia) fun W2 G2 ts2 x6 x7 x8 x9 L2 ed2 lt2=>⟨W2,ts2,_,_,_,_,_,L2,ed2,by lia,rfl⟩
  ·clear L
   rintro σ' G' ⟨W',ts,x5,x6,x7,x8,x9,L,ed,lt,rfl⟩;rw[<- ed];exact c5 hd ev sh x5 x6 x7 x8 x9 none none (7+n) H G' W' ts L (by lia) (by lia)
 obtain⟨u4,hu4,c4⟩:=c4;have c2:∃u,PSs (bW (XE P w) P w K mg base lg "law" (ae cL) a.eT cdv A outer s H E) (Ys 2 (aq cL)) u/\∀hd G W,LS a ns 7 G W->Same H G->(∀p∈own W,H p=none)->G hd=some (.lst [.ref W.ch,.ref W.g,.ref W.j])->hd∉own W->W.bs=[]->u { nx:=fun _ H'=>Q .non H',rt:=Q } [some (.ref sc),some (.ref W.d),some (.ref hd),none,none,none,none,none,none,none,none,none] G:=by
  refine⟨_,(af (aS 3 ND (cX (FA.pa di)))
   (af (aS 4 ND (cX (FA.pa di)))
   hu4)),fun hd G W S s0 fr hh nh eb=>?_⟩
  walk_at "rd";refine⟨ud _,fun ev he=>⟨ud _,fun sh hs=>?_⟩⟩;have s1:=au (HO.lst []) he;have s2:=au (HO.lst []) hs;have n1:=aA (o:=HO.lst []) (p:=ev) S.nT rfl;have S1:=S.same s1 n1;have g1:upd G ev (HO.lst []) ev=some (HO.lst []):=ad;have ne:ev≠sh:=aC g1 hs;have o1:=S.has he;have o2:=S1.has hs;have h1:hd≠ev:=aC hh he;have h2:hd≠sh:=aC (s1 _ _ hh) hs;refine c4 hd ev sh _ W ⟨S1.same s2 (aA n1 rfl),(s0.trans s1).trans s2,fun p q=>?_,s2 _ _ (s1 _ _ hh),by rw[eb];exact s2 _ _ g1,ad,fun q=>?_,fun q=>?_,o2,fun _ q=>nomatch q⟩
  ·rcases zG.mp q with q|q
   ·rw[q];exact s0.free he
   rcases zG.mp q with q|q
   ·rw[q];exact(s0.trans s1).free hs
   ·exact fr p q
  ·rcases zG.mp q with q|q
   ·exact h1 q
   rcases zG.mp q with q|q
   ·exact h2 q
   ·exact nh q
  ·rcases zG.mp q with q|q
   ·exact ne q
   ·exact o1 q
 obtain⟨u2,hu2,c2⟩:=c2;refine⟨_,(af (aS 1 ND (aN (kH T) hr aE (fa1 (fv 0))))
  (af (aS 2 ND (cX (fa3 (aN (oG T) hr aE (fa1 (fv 1))) (vK T.BW (kA T) (hr.mono (by decide)) rfl T.FN aE) (vK T.ui (iQ T) (hr.mono (by decide)) rfl T.ye aE))))
  hu2)),?_⟩
 walk_at "rd";refine⟨hN,ns,hS,fun d as H1 s1 N1 fd hd1 AC A7 nlA=>⟨N1,as,hd1,AC,A7,fun ch cd cs H2 ca cf fc fch fcd s2 N2 g gx hg hgx ne=>?_⟩⟩;refine⟨gx,ad,?_⟩;have k3:Keep [] H2 (upd (upd (upd H2 gx (HO.own g)) g (HO.ins a.ba gx [])) g (dY a.ba gx V.non)):=gN hg hgx (o:=HO.own g) (o':=HO.ins a.ba gx []) (Keep.refl.put (.head _));have N3:NoT (upd (upd (upd H2 gx (HO.own g)) g (HO.ins a.ba gx [])) g (dY a.ba gx V.non)):=aA (aA (aA N2 rfl) rfl) rfl;have gg:upd (upd (upd H2 gx (HO.own g)) g (HO.ins a.ba gx [])) g (dY a.ba gx V.non) g=some (dY a.ba gx V.non):=ad;generalize upd (upd (upd H2 gx (HO.own g)) g (HO.ins a.ba gx [])) g _=H3 at k3 N3 gg |-
 intro y dy hy hdy ny;refine⟨aA (aA N3 rfl) rfl,dy,ad,fun b u H5 fb fu J5 kp5 N5=>⟨by walk_at "om",fun hd hhd=>?_⟩⟩;have k5:=gN hy hdy kp5;have s35:Same H3 H5:=fun p o e=>k5 _ _ e xz;have s23:Same H2 H3:=fun p o e=>k3 _ _ e xz;have s25:=s23.trans s35;have fb2:H2 b=none:=s23.free (d4 fb);have fu2:H2 u=none:=s23.free (d4 fu);have fr2:∀ {p:Addr},H2 p=none->H p=none:=fun e=>(s1.trans s2).free e;have S:LS a ns 7 H5 ⟨ch,cd,g,gx,y,b,u,d,as,cs,none,[],[],[]⟩:=by
  refine⟨ca.same s25,cf,fun c mc=>(fc c mc).2.2,s25 _ _ (s2 _ _ hd1),fun x mx=>s25 _ _ (s2 _ _ (AC.ls x mx)),A7.I,s35 _ _ gg,(fun z e=>nomatch e),J5,.nil,⟨(fun n x e=>by simp at e),(fun _ _ _ q=>nomatch q),z4 _,fun k=>rfl⟩,ud _,N5,fun c mc=>⟨?_,fun x mx=>a6 (ca.ac c mc).ls (s2 _ _ (AC.ls x mx)) (DK _ _)⟩,fun x mx=>aC (s2 _ _ (AC.ls x mx)) fb2,⟨aC ca.dc fu2,Ne.symm (aC hd1 fcd),aC (s2 _ _ hd1) fu2⟩,nlA.1⟩;exact aC (ca.ac c mc).ls fb2
 refine c2 hd _ _ (S.same (au _ hhd) (aA N5 rfl)) ((((s1.trans s2).trans s25)).trans (au _ hhd)) (fun p q=>?_) ad (S.has hhd) rfl;simp only[own,zG,y9,yH]at q;rcases q with q|q|q|q|q|(⟨c,mc,q⟩|⟨c,mc,q⟩)|⟨c,mc,q⟩
 ·rw[q];exact s1.free fcd
 ·rw[q];exact fd
 ·rw[q];exact fr2 fb2
 ·rw[q];exact fr2 fu2
 ·rw[q];exact fr2 hg
 ·rw[<- q];exact s1.free (fc c mc).2.1
 ·rw[<- q];exact s1.free (fc c mc).1
 ·rw[<- q];exact nlA.2 c mc
theorem law_starts{H:Hp}{p:Addr}{ns:List Int}(hO:xR H)(hS:SqL K H p (ns.map V.int))(hl:ns.length<=63):sp_law K [.ref p] H (fun v _=>v = .bl true) fun _ _ _=>False:=⟨BF hO,ns,hS,hl,fun _=>rfl⟩
end
noncomputable abbrev G8(x q:Str)(s:Stmt)(kV dc pm:Value)(an:Option Addr)(cd ct:Value):FuncData:=YQ x q (aB s) (aq s) (ae s) .none kV dc pm an cd ct
section
variable{K:W.Frag}{h:Heap}{mg:Str->Option Value}{x qual:Str}{st:Stmt}{f g C:Addr}{oc:Value}{od an:Option Addr}{osl:Array (Option Value)}{kV doc pm cdv ct:Value}{cl:ClassData}
theorem nf_of(X:K.In h)(G:h.Ns ZL mg)(a:PySem.W.nsIn K ZL x=some (some (.ref f)))(l:K.lookup f=some ⟨oc,od,.func (G8 x x st kV doc pm an cdv ct),osl⟩)(c:PySem.W.codeIn K cdv x=true)(k:Yu K (.ref f)=true):DfN K mg x st:=⟨_,_,PySem.W.mg_of X G a,vJ l c k⟩
theorem mf_of(a:u7 K (.ref C) x=some (some (.ref f)))(i:PySem.W.isFn K (.ref f)=true)(l:K.lookup f=some ⟨oc,od,.func (G8 x qual st kV doc pm an cdv ct),osl⟩)(c:PySem.W.codeIn K cdv qual=true)(k:Yu K (.ref f)=true):DfM K C x qual st:=⟨_,_,⟨a,i,k⟩,vJ l c k⟩
theorem exI_of(a:u7 K (.ref C) "__init__" = some (some (.ref g)))(q:jn K C g=true)(f:Addr)(b:u7 K (.ref C) "__init__" = some (some (.ref f))):jn K C f=true:=by rw[a]at b;cases b;exact q
theorem exc_of(u:u7 K (.ref C) "__getattribute__" = some (some (.builtin "BaseException.__getattribute__")))(w:u7 K (.ref C) "__getattr__" = some none)(y:u7 K (.ref C) "__class__" = some (some (.builtin "object.__class__")))(o:PySem.W.clsIn K C=some cl)(g:YG K C (.type "object")=some true)(b:YG K C (.type "BaseException")=some true):cK K C:=⟨u,w,y,(by rw[o];rfl),g,b⟩
theorem cst_of{its:Array Value}{n:Nat}{vs:List V}{d:Option Addr}{sl:Array (Option Value)}(l:K.lookup f=some ⟨.type "tuple",d,.seq its n,sl⟩)(z:its.size<=sizeLine)(v:Vals vs its.toList):∃(o:Obj) (its:Array Value) (n:Nat),K.lookup f=some o/\o.cls = .type "tuple" /\ o.data = .seq its n/\its.size<=sizeLine/\Vals vs its.toList:=⟨_,_,_,l,rfl,rfl,z,v⟩
theorem fin_of{l:PySem.W.OpenLaw}{w:World}{fa:Addr}{a:Adr}(hfa:mg "law" = some (.ref fa))(T:Txt K mg a)(e:mg "law" = some (.ref a.eT)):∃fd:FuncData,(∀(s:Shared) (v:Value),BindsTo s fd ⟨[v],[]⟩ [("_law_script",v)])/\∀base:Heap,K.In base->base.Ns ZL mg->hU l.prog w K mg base (XE l.prog w) 14 fa fd ["_law_script"] (sp_law K):=by
 cases hfa.symm.trans e;obtain⟨fd,F⟩:=T.GL;refine⟨fd,fun s v=>?_,fun base _ _=>Fp T F⟩;obtain⟨oc,od,kV,doc,pm,an,cdv,ct,osl,e,lk,hcd⟩:=F.ex;rw[e];exact .of_eq rfl
end
end K15
open PySem PySem.W PyProof.Rows
theorem PySem.Challenge.cw_evenhall_k15_whole_nought_together_holds : PySem.Challenge.rw_evenhall_k15_whole_nought_together.Holds := by
 w_on
 refine PySem.W.holds_law K15.ws fun said=>?_;refine PySem.W.holds_open (q:=K15.vw) (loose:=[]) (Xt:=fun s=>PySem.W.xlAt K15.vw [] s&&PySem.W.recOk (PySem.W.RowW.records (PySem.W.OpenRow.toRowW (PySem.W.OpenLaw.row Qq))) s) (XP:=PySem.W.XL K15.vw []) (Yf:=PySem.W.Hook.obs (Y8 K15.frag K15.adrs K15.adrs_eq)) (Ya:=PySem.W.Hook.val (Y8 K15.frag K15.adrs K15.adrs_eq)) (YP:=PySem.W.Hook.says (Y8 K15.frag K15.adrs K15.adrs_eq)) (N:=15124) K15.left (PySem.W.Hook.of (Y8 K15.frag K15.adrs K15.adrs_eq)) (PySem.W.Hook.keeps (Y8 K15.frag K15.adrs K15.adrs_eq))
  (fun s e=>PySem.W.xl_of s (Bool.and_eq_true_iff.mp e).1) PySem.W.XL.keeps (by rfl) (by rfl) (by rfl) (fun s e=>PySem.W.recFacts_of (Bool.and_eq_true_iff.mp e).2) (by rfl) (by assumption) (by decide +kernel) ⟨rfl,rfl,rfl,rfl,rfl,by decide +kernel⟩ ?hw ?hc
 (case hw=>w_witness2)
 k_fill
 refine L2.zR (l:=Qq) (n:=63) (k:=14) (x:="_law_script") (sp:=K15.sp_law) rfl (by decide) rfl ⟨rfl,by decide,by decide⟩ (fun w h Y=>PySem.W.kIn_of Y) ?F ?S
 case F=>
  intro w mg fa h KX G hmg;refine' K15.fin_of (a:=⟨901,31,51,70,89,108,127,146,165,184,203,222,241,260,286,305,324,343,362,572,668,717,773,455,541⟩) hmg ?T (PySem.W.mg_of KX G (by k_is))
  case T=>
  constructor
  all_goals try dsimp only
  all_goals first|exact PySem.W.mg_of KX G (by k_is)|exact PySem.W.mg_none_of KX G (by k_is)|exact K15.nf_of KX G (by k_is) (by k_is) (by k_is) (by k_is)|exact K15.mf_of (by k_is) (by k_is) (by k_is) (by k_is) (by k_is)|exact⟨_,L2.vJ (by k_is) (by k_is) (by k_is)⟩|exact⟨by k_is,by k_is,by k_is,by k_is⟩|(unfold L2.NoAttr;k_is)|exact⟨by k_is,by k_is⟩|(unfold K15.zzX;k_exc)|exact K15.exc_of (by k_is) (by k_is) (by k_is) (by k_is) (by k_is) (by k_is)|exact L2.xW (by k_is) (by k_is) (by k_is) (by k_is)|exact K15.exI_of (by k_is) (by kernel_rfl)|exact⟨by k_is,by kernel_rfl,by k_is,by k_is⟩|exact K15.cst_of (by k_is) (by show _<=sizeLine;decide) (by repeat first|exact .nil|refine .cons ⟨_,rfl⟩ ?_)
 case S=>exact fun K H a ns hl hO hS=>K15.law_starts hO hS hl
