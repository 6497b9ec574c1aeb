import PyProof.Rows.All
import KE.KUnpack
import PyProof.DictTruth
import PyProof.DictWalks
import PyProof.Rows.SortKeyStr
import KE.KItem
import KE.KTupSum
import KE.KEqDict
import KE.KFromBytes
import KE.KIntText
import KE.KRevIter
import KE.KDictOf
import KE.LcSums
import KE.KDictSum
import KE.KTryMore
import OpenK.KLine
import OpenK.KOwn
import Wide.Line
import Wide.FinOn
import Lean
import PySem.Challenge.RW_evenhall_k24_whole_closed_stays
set_option Elab.async false
set_option linter.all false
set_option maxRecDepth 100000
set_option maxHeartbeats 0
open PySem.Challenge renaming pw_evenhall_k24_whole_closed_stays -> jZ, rw_evenhall_k24_whole_closed_stays -> Qq
open And renaming intro -> yh
open Array renaming length_toList -> ZN, perm_iff_toList_perm -> YJ
open Bool renaming false_ne_true -> y9, and_eq_true -> sT, false_eq_true -> sC, eq_iff_iff -> Yy, true_and -> Yn, false_and -> YK
open False renaming elim -> ZS
open Int renaming eq_ofNat_of_zero_le -> Zn, emod_lt_of_pos -> Zl, emod_nonneg -> Ze, le_refl -> Ye, toNat_natCast -> YQ
open List renaming mem_singleton -> zv, length_map -> zB, mem_cons -> z6, size_toArray -> yp, length_append -> yk, not_mem_nil -> yj, mem_map -> yb, mem_of_getElem? -> yO, mem_append -> yI, map_cons -> yF, lookup -> xt, mem_map_of_mem -> xp, mem_append_right -> xU, mem_cons_of_mem -> xC, map_append -> vx, length_cons -> vq, length_take -> vm, mem_append_left -> vJ, map_map -> uR, append_nil -> u6, length_singleton -> si, take_length -> sf, map_congr_left -> r6, mem_filter -> qh, length_filter_le -> qZ, filter_eq_self -> qU, nodup_cons -> qI, filter_cons_of_neg -> Zo, filter_append -> Zm, take_of_length_le -> Zk, all_eq_true -> Zj, range -> Zi, filter_cons_of_pos -> Zg, pairwise_iff_getElem -> Zd, cons_append -> ZU, filter_eq_nil_iff -> ZB, drop -> Z1, take_succ -> Z4, mem_cons_self -> Z6, length_nil -> Z9, filter_nil -> Yz, flatMap_cons -> Yu, mem_of_mem_take -> Yr, filterMap_cons -> Yj, getElem_mem -> Yh, map_nil -> Yd, length_pos_of_mem -> YZ, pairwise_map -> YS, append_assoc -> YR, any_cons -> YD, pairwise_cons -> Y2, mem_filterMap -> Y3, getD -> Y5, map_id -> Y7, length -> Y8
open Nat renaming le_refl -> z5, le_trans -> xx, zero_le -> xm, ne_of_lt -> ui, lt_of_lt_of_le -> ug, lt_irrefl -> ZZ, le_succ -> ZV, le_of_lt -> Yw, succ_le_succ -> YH, lt_of_le_of_lt -> Y1
open Option renaming map_eq_some_iff -> u8, isSome_map -> Yv
open Option.some renaming inj -> uF
open PyProof.Rows renaming envOfC -> ZO, callWith_type1 -> ZA
open PySem renaming wpAny_bind -> zw, wpAny_pure -> yt, sizeLine_eq -> xM, wpAny_mono -> uY, compareOp -> uK, wpAny_truthy_bool -> sS, bootBuiltins -> rF, mainGlobals -> Zb, sysModules -> ZW, wpAny_holding -> ZT, wpAny_newObj_type -> ZR, mem_of_lookup -> ZP, sliceBounds -> ZM, wpAny_typeNameOfWhole_keyiter -> ZI, foldedSetIterable -> ZH, behindInMarks -> Z0, tupleKind_room_in1 -> Z5, wpAny_passesOwn -> Z8, assignEach -> Yp, wpAny_typeNameOf_keyiter -> Ym, wpAny_call_entry -> Yi, wpAny_getItem_str_slice -> Yg, wpAny_Call_Name_kw -> Yc, wpAny_standAt -> YX, wpAny_pyIter_list -> YV, wpAny_loadPart_at -> YU, keywordEach -> YM, excClassObj -> YL, attributeBase -> YF, wpAny_execs_nil -> YB, letOwnedTupleGo -> YA, typeIs_str -> Y0, DictEntry -> Y6
open PySem.Builtin.List renaming listTooLong -> YC
open PySem.Builtin.Range renaming rangeSize -> Y9
open PySem.Builtin.Slice renaming slicePlaces -> Z7, sliceAdjust -> YG
open PySem.Builtin.Str renaming subAt -> Yt, strSliceIndices -> YO
open PySem.Builtin.Tuple renaming tupleExact -> Yl
open PySem.Calls renaming evalArgs_plain -> Yq, spliced_cons -> Y4
open PySem.Data renaming dict -> YI
open PySem.F renaming plainAttrs_list -> Zh, type_list_append -> ZY, slot_list_append -> ZX, plainAttrs_str -> ZQ, slot_dict_get -> ZL, slot_dict_keyiterator_next -> ZD, entry_dict_get -> Yb
open PySem.Heap renaming lt_size -> y3
open PySem.Obj renaming mapSeq -> Z3
open PySem.Str renaming ofString -> zI, length -> ZF
open PySem.Value renaming ref -> yX, none -> Zc, type -> Z2, str -> YY, bool -> YN, builtin -> YE
open PySem.W renaming findIn -> vj, exmOne -> qE, kia_one -> Zf, emptyDict -> Za, kitOne -> ZK, keepIn -> ZJ, instObj -> ZE, fnOf -> Yx, mroIn -> Yo, kHook -> YW, hasDictIn -> YT
open PySem.W.OpenLaw renaming row -> Yk
open PySem.W.OpenRow renaming toRowW -> ZC
open PySem.W.RowW renaming records -> Ys
open True renaming intro -> ZG
namespace L2
theorem Zp{n k c:Nat}(h:n+100<c)(d:k<=100:=by decide):n+k<c:=Y1 (Nat.add_le_add_left d _) h
open PySem
noncomputable def bg(s:Stmt)(j:Nat):Stmt:=match s with
 | .ClassDef _ _ _ body _ _ _ _ _ _ _=>body.getD j (.Pass ⟨0,0,0,0⟩)
 |_=>.Pass ⟨0,0,0,0⟩
noncomputable def aB(s:Stmt):Arguments:=match s with
 | .FunctionDef _ a _ _ _ _ _ _ _ _=>a
 |_=>{ posonlyargs:=[],args:=[],vararg:=none,kwonlyargs:=[],kw_defaults:=[],kwarg:=none,defaults:=[] }
noncomputable def au(s:Stmt):List Stmt:=match s with
 | .FunctionDef _ _ b _ _ _ _ _ _ _=>b
 |_=>[]
noncomputable def ae(s:Stmt):Scope:=match s with
 | .FunctionDef _ _ _ _ _ _ sc _ _ _=>sc
 |_=>{ kind:=.function,names:=[],isGenerator:=false,isCoroutine:=false }
end L2
namespace K24
open PySem L2
noncomputable def top(i:Nat):Stmt:=jZ.main.body.getD i (.Pass ⟨0,0,0,0⟩)
noncomputable abbrev aV:Stmt:=top 86
noncomputable abbrev de:Stmt:=top 95
noncomputable abbrev dL:Stmt:=bg (top 67) 2
end K24
namespace TR
open PySem PySem.W
def go(p:Program)(w:World)(lo:Nat)(an:Option Value):Nat->SharedT->Thread->Option SharedT
 |0,_,_=>none
 |k+1,x,th=>match through th with
  |true=>some x
  |false=>match stepOk lo an th with
   |false=>none
   |true=>match stepT (denote treeTable) p w x th with
    |none=>none
    |some y=>go p w lo an k y.1 y.2
theorem lM{p:Program}{w:World}{lo:Nat}{an:Option Value}(k:Nat):∀ {x y:SharedT} {th:Thread},go p w lo an k x th=some y->topRun treeTable p w lo an k x.abs th=some y.abs:=by
 induction k with
 |zero=>intro x y th e;cases e
 |succ k ih=>
  intro x y th e;unfold go at e;unfold topRun
  revert e
  cases through th with
  |true=>intro e;cases e;rfl
  |false=>
   cases stepOk lo an th with
   |false=>intro e;cases e
   |true=>
    dsimp only;cases z:stepT (denote treeTable) p w x th with
    |none=>intro e;cases e
    |some v=>
     intro e;obtain⟨v1,v2⟩:=v;rw[stepT_spec z];exact ih e
noncomputable def lookB(p:Program)(b:Heap)(s:Shared):Bool:=staticsOk (importedModules p.main.body) b s.heap&&namesBound p s.heap&&gensDone s&&laidKept b s.heap
noncomputable def look(p:Program)(P:Params)(s:Shared):Bool:=lookB p (boot_heap P) s
theorem left{p q:Program}{ls:List Str}{Xt:Shared->Bool}{β:Type}{Yf:Shared->β}{Ya:World->β}{N lo:Nat}{an:Option Value}{tr:Params->BT}
 (ho:∀w:World,(fencedOpening treeTable p w N).map (fun s=>(s.heap,s.gens,s.drawn,s.toks))=some (boot_heap w.params,Array.mk [],boot_drawn,boot_toks))
 (hz:∀P:Params,((boot_heap P).isNs Zb,(boot_heap P).objs.size,(boot_heap P).nsMap Zb "__annotations__")=(true,lo,an))
 (ht:∀P:Params,absHeap (tr P) lo (boot_heap P).life=boot_heap P)
 (hr:∀w:World,(fun os=>(go p w lo an N ⟨tr w.params,lo,(boot_heap w.params).life,Array.mk [],boot_drawn,boot_toks,os⟩ (topStub p)).map fun x=>(look p w.params x.abs,openSeen q ls (importedModules p.main.body) Xt true x.abs,Yf x.abs))=fun _=>some (true,openGood q ls,Ya w)) :
 LeftO p q ls Xt Yf Ya N:=by
 intro w;obtain⟨⟨h,g,d,k,os⟩,e1,e2⟩:=u8.mp (ho w);simp only[Prod.mk.injEq]at e2;obtain⟨rfl,rfl,rfl,rfl⟩:=e2;have z:=hz w.params;simp only[Prod.mk.injEq]at z;obtain⟨z1,z2,z3⟩:=z;obtain⟨x,r1,r2⟩:=u8.mp (congrFun (hr w) os);simp only[Prod.mk.injEq]at r2;obtain⟨l1,l2,l3⟩:=r2;have t:=lM _ r1;have ab:SharedT.abs ⟨tr w.params,lo,(boot_heap w.params).life,Array.mk [],boot_drawn,boot_toks,os⟩=⟨boot_heap w.params,Array.mk [],boot_drawn,boot_toks,os⟩:=by
  show Shared.mk (absHeap (tr w.params) lo (boot_heap w.params).life) _ _ _ _=_;rw[ht]
 rw[ab]at t;have f:topFrom treeTable p w N ⟨boot_heap w.params,Array.mk [],boot_drawn,boot_toks,os⟩=some x.abs:=by
  unfold topFrom;dsimp only;rw[z1,z2,z3,t];show(match look p w.params x.abs with|true=>some x.abs|false=>none)=_;rw[l1]
 unfold openEnds;rw[e1];show(topFrom treeTable p w N _).map _=_;rw[f];show some (_,_)=_;rw[l2,l3]
theorem pair{α β γ:Type}{o:Option α}{g:α->β × γ}{b:β × γ}(e1:o.map (fun x=>(g x).1)=some b.1)(e2:o.map (fun x=>(g x).2)=some b.2):o.map g=some b:=by
 cases o with
 |none=>cases e1
 |some x=>exact congrArg some (Prod.ext (uF e1) (uF e2))
theorem three{α β γ δ:Type}{o:Option α}{f:α->β}{g:α->γ}{h:α->δ}{a:β}{b:γ}{c:δ}(e1:o.map f=some a)(e2:o.map g=some b)(e3:o.map h=some c):o.map (fun x=>(f x,g x,h x))=some (a,b,c):=by
 cases o with
 |none=>cases e1
 |some x=>cases e1;cases e2;cases e3;rfl
end TR
namespace K24
open PySem L2
abbrev kS(s:String):Str:=zI s
abbrev kR(a:Addr):Value:=.ref a
abbrev kY(s:String):Value:=.type s
abbrev kB(s:String):Value:=.builtin s
abbrev kZ(s:Str)(t:Tok):Value:=.str s t
abbrev kN:Value:=.none
abbrev kD(h:Int)(k v:Value):Y6:=⟨h,k,v⟩
abbrev kO(c:Value)(d:Option Addr)(t:Data)(s:Array (Option Value)):Obj:=⟨c,d,t,s⟩
abbrev keyHash:=PyData.keyHash
abbrev kE(P:Params)(s:String)(t:Tok)(v:Value):Y6:=⟨keyHash P (kS s),kZ (kS s) t,v⟩
abbrev kI(i:Int)(t:Tok):Value:=.int i t
abbrev kz(s:String)(t:Tok):Value:=kZ (kS s) t
abbrev kC(t:Tok):Value:=kz "/claim/cut.py" t
abbrev kT(x:Array Value):Obj:=kO (kY "tuple") none (.seq x 0) #[]
abbrev kU:Value:=.bool true
noncomputable abbrev q0(a:String)(b:Nat)(c:String)(d:Nat)(e:Nat)(f:Int)(g:Int)(h:Nat)(i:Nat)(j:Nat)(k:Nat)(l:Nat)(m:Int)(n:Nat):Obj:=(kO (kY "code") none (Data.fields #[(kz a b),(kz c d),(kC e),(kI f 0),(kI g 0),(kI 0 0),(kI 0 0),(kI 3 0),(kR h),kU,(kI 181 0),(kR i),kN,(kR j),(kR k),(kR l),(kI m 0),(kI f 0),(kC n)]) #[])
noncomputable abbrev q1(a:String)(b:String)(c:Nat)(d:Nat)(e:Nat)(f:Nat)(g:Int)(h:Nat)(i:Nat)(j:String)(k:Nat)(l:Nat):Obj:=(kO (kY "function") none (Data.func (FuncData.mk (kS a) (kS b) (Arguments.mk [] [(Arg.mk (kS "self") none (Pos.mk c d c e))] none [] [] none []) (FuncBody.stmts [(Stmt.Expr (Expr.Call (Expr.Name (kS "_wall") (Pos.mk f 8 f 13)) [(Expr.Constant (Const.int g) 0 (Pos.mk f 14 f h))] [] (Pos.mk f 8 f i)) (Pos.mk f 8 f i))]) (Scope.mk ScopeKind.function [((kS "self"),NameKind.local),((kS "_wall"),NameKind.globalImplicit)] false false []) 3 [] kN kN kN (kz j k) none (kR l) kN 0)) #[])
noncomputable abbrev q2(a:String)(b:Nat)(c:Nat)(d:Nat)(e:Nat)(f:Nat):Obj:=(kO (kY "type") none (Data.cls (ClassData.mk (kS a) [(kR 31)] [(kR b),(kR 31),(kY "ValueError"),(kY "Exception"),(kY "BaseException"),(kY "object")] c (kS a) true [] [] false none false)) #[(some (kR d)),none,(some (kz a e)),(some (kz a f)),(some (kB "ValueError.__new__")),(some kU)])
noncomputable abbrev q3(a:String)(b:Nat)(c:String)(d:Nat)(e:Nat)(f:Int)(g:Int)(h:Nat)(i:Nat)(j:Nat)(k:Int)(l:Nat):Obj:=(kO (kY "code") none (Data.fields #[(kz a b),(kz c d),(kC e),(kI f 0),(kI g 0),(kI 0 0),(kI 0 0),(kI 3 0),(kR h),kU,(kI 181 0),(kR i),kN,kN,kN,(kR j),(kI k 0),(kI f 0),(kC l)]) #[])
noncomputable abbrev q4(P:Params)(a:Nat)(b:Nat)(c:Int)(d:Nat)(e:String)(f:Nat)(g:Nat)(h:String)(i:Nat)(j:Nat)(k:Nat)(l:Nat):Obj:=(kO (kY "dict") none (YI #[(kE P "__module__" a (kz "evenhall.errors" 194)),(kE P "__firstlineno__" b (kI c d)),(kE P e f (kR g)),(kE P h i (kR j)),(kE P "__doc__" k kN)] l) #[])
noncomputable abbrev q5(a:String)(b:Nat)(c:Nat)(d:Nat)(e:Nat):Obj:=(kO (kY "type") none (Data.cls (ClassData.mk (kS a) [(kY "object")] [(kR b),(kY "object")] c (kS a) true [] [] false none false)) #[none,none,(some (kz a d)),(some (kz a e)),(some (kB "object.__new__")),(some kU)])
noncomputable abbrev q6(a:Nat)(b:Nat):Obj:=(kO (kY "getset_descriptor") none (Data.fields #[(kz "__weakref__" a),(kR b),(kB "ExceptionGroup.__weakref__"),kN]) #[])
noncomputable abbrev q7(a:Nat)(b:Nat):Obj:=(kO (kY "getset_descriptor") none (Data.fields #[(kz "__dict__" a),(kR b),(kB "function.__dict__"),(kB "function.__dict__#set")]) #[])
noncomputable abbrev Zz(a b:String)(s:Stmt)(m:String)(n r:Nat):Obj:=(kO (kY "function") none (Data.func (Yx (kS a) (kS b) (aB s) (au s) (ae s) kN kN kN (kz m n) none (kR r) kN)) #[])
noncomputable abbrev Zy(a b:String)(s:Stmt)(r:Nat):Obj:=Zz a b s "evenhall.words" 614 r
noncomputable abbrev Zx(a b:String)(s:Stmt)(r:Nat):Obj:=Zz a b s "evenhall.bookings" 668 r
noncomputable abbrev Zw(a b:String)(s:Stmt)(r:Nat):Obj:=Zz a b s "evenhall.days" 725 r
noncomputable abbrev Zv(a b:String)(s:Stmt)(r:Nat):Obj:=Zz a b s "evenhall.paths" 786 r
noncomputable abbrev Zu(a b:String)(s:Stmt)(r:Nat):Obj:=Zz a b s "evenhall.seals" 840 r
noncomputable abbrev Zt(a b:String)(s:Stmt)(r:Nat):Obj:=Zz a b s "evenhall.closing" 904 r
noncomputable abbrev Zs(a b:String)(s:Stmt)(r:Nat):Obj:=Zz a b s "evenhall.chart" 952 r
noncomputable abbrev Zr(a b:String)(s:Stmt)(r:Nat):Obj:=Zz a b s "evenhall.journal" 1158 r
noncomputable abbrev Zq(a b:String)(s:Stmt)(r:Nat):Obj:=Zz a b s "law_evenhall_k24_whole_closed_stays" 1290 r
noncomputable def frag(P:Params):W.Frag:=
(nat_lit 2,(kO kN none (YI #[] 0) #[]))::
(nat_lit 3,(kO (kY "dict") none (YI #[(kE P "__name__" 165 (kz "law_evenhall_k24_whole_closed_stays" 1290)),(kE P "__doc__" 166 kN),(kE P "__package__" 167 kN),(kE P "__loader__" 168 (kB "__main__.__loader__#opaque")),(kE P "__spec__" 169 kN),(kE P "__annotations__" 170 (kR 6)),(kE P "__builtins__" 171 (kR 4)),(kE P "__file__" 173 (kC 172)),(kE P "__cached__" 174 kN),(kE P "_wall" 193 (kR 21)),(kE P "HouseError" 213 (kR 31)),(kE P "BadName" 236 (kR 51)),(kE P "BadNote" 259 (kR 70)),(kE P "BadDay" 282 (kR 89)),(kE P "BadMonth" 305 (kR 108)),(kE P "BadCurrency" 328 (kR 127)),(kE P "BadPath" 351 (kR 146)),(kE P "BadKind" 374 (kR 165)),(kE P "NoAccount" 397 (kR 184)),(kE P "Twice" 420 (kR 203)),(kE P "NotOpen" 443 (kR 222)),(kE P "HasBelow" 466 (kR 241)),(kE P "BadRow" 489 (kR 260)),(kE P "Uneven" 521 (kR 286)),(kE P "NoBooking" 544 (kR 305)),(kE P "Undone" 567 (kR 324)),(kE P "Closed" 590 (kR 343)),(kE P "NotNext" 613 (kR 362)),(kE P "is_whole" 622 (kR 371)),(kE P "is_among" 631 (kR 378)),(kE P "signs_lie" 637 (kR 383)),(kE P "is_name" 644 (kR 390)),(kE P "is_note" 651 (kR 397)),(kE P "is_amount" 660 (kR 404)),(kE P "is_currency" 667 (kR 411)),(kE P "is_row" 676 (kR 418)),(kE P "need_form" 684 (kR 425)),(kE P "need_account" 694 (kR 432)),(kE P "turned" 700 (kR 437)),(kE P "sums_of" 706 (kR 442)),(kE P "need_even" 712 (kR 447)),(kE P "need_rows" 724 (kR 454)),(kE P "LENGTHS" 739 (kR 455)),(kE P "is_day" 746 (kR 462)),(kE P "is_month" 753 (kR 469)),(kE P "leap_days" 760 (kR 476)),(kE P "first_day" 770 (kR 483)),(kE P "last_day" 777 (kR 490)),(kE P "month_of" 785 (kR 497)),(kE P "are_names" 793 (kR 502)),(kE P "is_path" 800 (kR 509)),(kE P "names_of" 807 (kR 516)),(kE P "above" 813 (kR 521)),(kE P "rows_of" 824 (kR 528)),(kE P "bookings_up_to" 830 (kR 533)),(kE P "balances" 839 (kR 540)),(kE P "seal" 851 (kR 547)),(kE P "holds" 860 (kR 554)),(kE P "Seals" 903 (kR 585)),(kE P "carry_rows" 911 (kR 594)),(kE P "need_keeper" 920 (kR 601)),(kE P "need_currencies" 926 (kR 606)),(kE P "carry" 938 (kR 613)),(kE P "close" 951 (kR 620)),(kE P "KINDS" 959 (kR 621)),(kE P "Account" 1010 (kR 652)),(kE P "Chart" 1128 (kR 748)),(kE P "need_note_and_gate" 1139 (kR 759)),(kE P "book" 1151 (kR 766)),(kE P "undo" 1157 (kR 771)),(kE P "Gate" 1218 (kR 816)),(kE P "Journal" 1289 (kR 872)),(kE P "_law_cell_at" 1299 (kR 883)),(kE P "_law_whole" 1306 (kR 890)),(kE P "_law_names" 1312 (kR 895)),(kE P "_law_currencies" 1318 (kR 900)),(kE P "_law_start" 1325 (kR 907)),(kE P "_law_lengths" 1333 (kR 914)),(kE P "_law_month_ends" 1342 (kR 921)),(kE P "_law_month" 1351 (kR 928)),(kE P "_law_base" 1359 (kR 935)),(kE P "_law_day" 1367 (kR 942)),(kE P "_law_accounts" 1386 (kR 949)),(kE P "_law_chart" 1399 (kR 956)),(kE P "_law_is_open" 1410 (kR 963)),(kE P "_law_rows_by" 1416 (kR 968)),(kE P "_law_balances" 1422 (kR 973)),(kE P "_law_tried" 1428 (kR 978)),(kE P "_law_changed" 1434 (kR 983)),(kE P "_law_sealed" 1440 (kR 988)),(kE P "_law_fresh" 1446 (kR 993)),(kE P "law" 1464 (kR 1000))] 92) #[]))::
(nat_lit 15,(kT #[]))::
(nat_lit 17,(kT #[(kz "k" 190)]))::
(nat_lit 18,(kT #[]))::
(nat_lit 20,(q0 "_wall" 187 "_wall" 188 189 1 1 15 16 17 18 19 191 192))::
(nat_lit 21,(kO (kY "function") none (Data.func (FuncData.mk (kS "_wall") (kS "_wall") (Arguments.mk [] [(Arg.mk (kS "k") none (Pos.mk 1 10 1 11))] none [] [] none []) (FuncBody.stmts [(Stmt.While (Expr.Constant (Const.bool true) 0 (Pos.mk 2 10 2 14)) [(Stmt.Pass (Pos.mk 3 8 3 12))] [] (Pos.mk 2 4 3 12))]) (Scope.mk ScopeKind.function [((kS "k"),NameKind.local)] false false []) 3 [] kN kN kN (kz "__main__" 164) none (kR 20) kN 0)) #[]))::
(nat_lit 22,(kT #[(kY "ValueError")]))::
(nat_lit 29,(kT #[]))::
(nat_lit 30,(q4 P 203 207 5 206 "__static_attributes__" 208 29 "__weakref__" 210 32 211 3))::
(nat_lit 31,(kO (kY "type") none (Data.cls (ClassData.mk (kS "HouseError") [(kY "ValueError")] [(kR 31),(kY "ValueError"),(kY "Exception"),(kY "BaseException"),(kY "object")] 30 (kS "HouseError") true [] [(kR 51),(kR 70),(kR 89),(kR 108),(kR 127),(kR 146),(kR 165),(kR 184),(kR 203),(kR 222),(kR 241),(kR 260),(kR 286),(kR 305),(kR 324),(kR 343),(kR 362)] false none false)) #[(some (kR 22)),none,(some (kz "HouseError" 196)),(some (kz "HouseError" 204)),(some (kB "ValueError.__new__")),(some kU)]))::
(nat_lit 32,(q6 209 31))::
(nat_lit 35,(kT #[(kR 31)]))::
(nat_lit 42,(kT #[]))::
(nat_lit 44,(kT #[(kz "self" 229)]))::
(nat_lit 45,(kT #[]))::
(nat_lit 47,(q0 "small_words" 226 "BadName.small_words" 227 228 9 1 42 43 44 45 46 230 231))::
(nat_lit 48,(q1 "small_words" "BadName.small_words" 9 20 24 10 0 15 16 "evenhall.errors" 194 47))::
(nat_lit 49,(kT #[]))::
(nat_lit 50,(q4 P 221 225 7 224 "small_words" 232 48 "__static_attributes__" 233 49 234 2))::
(nat_lit 51,(q2 "BadName" 51 50 35 214 222))::
(nat_lit 54,(kT #[(kR 31)]))::
(nat_lit 61,(kT #[]))::
(nat_lit 63,(kT #[(kz "self" 252)]))::
(nat_lit 64,(kT #[]))::
(nat_lit 66,(q0 "small_words" 249 "BadNote.small_words" 250 251 13 1 61 62 63 64 65 253 254))::
(nat_lit 67,(q1 "small_words" "BadNote.small_words" 13 20 24 14 1 15 16 "evenhall.errors" 194 66))::
(nat_lit 68,(kT #[]))::
(nat_lit 69,(q4 P 244 248 11 247 "small_words" 255 67 "__static_attributes__" 256 68 257 2))::
(nat_lit 70,(q2 "BadNote" 70 69 54 237 245))::
(nat_lit 73,(kT #[(kR 31)]))::
(nat_lit 80,(kT #[]))::
(nat_lit 82,(kT #[(kz "self" 275)]))::
(nat_lit 83,(kT #[]))::
(nat_lit 85,(q0 "small_words" 272 "BadDay.small_words" 273 274 17 1 80 81 82 83 84 276 277))::
(nat_lit 86,(q1 "small_words" "BadDay.small_words" 17 20 24 18 2 15 16 "evenhall.errors" 194 85))::
(nat_lit 87,(kT #[]))::
(nat_lit 88,(q4 P 267 271 15 270 "small_words" 278 86 "__static_attributes__" 279 87 280 2))::
(nat_lit 89,(q2 "BadDay" 89 88 73 260 268))::
(nat_lit 92,(kT #[(kR 31)]))::
(nat_lit 99,(kT #[]))::
(nat_lit 101,(kT #[(kz "self" 298)]))::
(nat_lit 102,(kT #[]))::
(nat_lit 104,(q0 "small_words" 295 "BadMonth.small_words" 296 297 21 1 99 100 101 102 103 299 300))::
(nat_lit 105,(q1 "small_words" "BadMonth.small_words" 21 20 24 22 3 15 16 "evenhall.errors" 194 104))::
(nat_lit 106,(kT #[]))::
(nat_lit 107,(q4 P 290 294 19 293 "small_words" 301 105 "__static_attributes__" 302 106 303 2))::
(nat_lit 108,(q2 "BadMonth" 108 107 92 283 291))::
(nat_lit 111,(kT #[(kR 31)]))::
(nat_lit 118,(kT #[]))::
(nat_lit 120,(kT #[(kz "self" 321)]))::
(nat_lit 121,(kT #[]))::
(nat_lit 123,(q0 "small_words" 318 "BadCurrency.small_words" 319 320 25 1 118 119 120 121 122 322 323))::
(nat_lit 124,(q1 "small_words" "BadCurrency.small_words" 25 20 24 26 4 15 16 "evenhall.errors" 194 123))::
(nat_lit 125,(kT #[]))::
(nat_lit 126,(q4 P 313 317 23 316 "small_words" 324 124 "__static_attributes__" 325 125 326 2))::
(nat_lit 127,(q2 "BadCurrency" 127 126 111 306 314))::
(nat_lit 130,(kT #[(kR 31)]))::
(nat_lit 137,(kT #[]))::
(nat_lit 139,(kT #[(kz "self" 344)]))::
(nat_lit 140,(kT #[]))::
(nat_lit 142,(q0 "small_words" 341 "BadPath.small_words" 342 343 29 1 137 138 139 140 141 345 346))::
(nat_lit 143,(q1 "small_words" "BadPath.small_words" 29 20 24 30 5 15 16 "evenhall.errors" 194 142))::
(nat_lit 144,(kT #[]))::
(nat_lit 145,(q4 P 336 340 27 339 "small_words" 347 143 "__static_attributes__" 348 144 349 2))::
(nat_lit 146,(q2 "BadPath" 146 145 130 329 337))::
(nat_lit 149,(kT #[(kR 31)]))::
(nat_lit 156,(kT #[]))::
(nat_lit 158,(kT #[(kz "self" 367)]))::
(nat_lit 159,(kT #[]))::
(nat_lit 161,(q0 "small_words" 364 "BadKind.small_words" 365 366 33 1 156 157 158 159 160 368 369))::
(nat_lit 162,(q1 "small_words" "BadKind.small_words" 33 20 24 34 6 15 16 "evenhall.errors" 194 161))::
(nat_lit 163,(kT #[]))::
(nat_lit 164,(q4 P 359 363 31 362 "small_words" 370 162 "__static_attributes__" 371 163 372 2))::
(nat_lit 165,(q2 "BadKind" 165 164 149 352 360))::
(nat_lit 168,(kT #[(kR 31)]))::
(nat_lit 175,(kT #[]))::
(nat_lit 177,(kT #[(kz "self" 390)]))::
(nat_lit 178,(kT #[]))::
(nat_lit 180,(q0 "small_words" 387 "NoAccount.small_words" 388 389 37 1 175 176 177 178 179 391 392))::
(nat_lit 181,(q1 "small_words" "NoAccount.small_words" 37 20 24 38 7 15 16 "evenhall.errors" 194 180))::
(nat_lit 182,(kT #[]))::
(nat_lit 183,(q4 P 382 386 35 385 "small_words" 393 181 "__static_attributes__" 394 182 395 2))::
(nat_lit 184,(q2 "NoAccount" 184 183 168 375 383))::
(nat_lit 187,(kT #[(kR 31)]))::
(nat_lit 194,(kT #[]))::
(nat_lit 196,(kT #[(kz "self" 413)]))::
(nat_lit 197,(kT #[]))::
(nat_lit 199,(q0 "small_words" 410 "Twice.small_words" 411 412 41 1 194 195 196 197 198 414 415))::
(nat_lit 200,(q1 "small_words" "Twice.small_words" 41 20 24 42 8 15 16 "evenhall.errors" 194 199))::
(nat_lit 201,(kT #[]))::
(nat_lit 202,(q4 P 405 409 39 408 "small_words" 416 200 "__static_attributes__" 417 201 418 2))::
(nat_lit 203,(q2 "Twice" 203 202 187 398 406))::
(nat_lit 206,(kT #[(kR 31)]))::
(nat_lit 213,(kT #[]))::
(nat_lit 215,(kT #[(kz "self" 436)]))::
(nat_lit 216,(kT #[]))::
(nat_lit 218,(q0 "small_words" 433 "NotOpen.small_words" 434 435 45 1 213 214 215 216 217 437 438))::
(nat_lit 219,(q1 "small_words" "NotOpen.small_words" 45 20 24 46 9 15 16 "evenhall.errors" 194 218))::
(nat_lit 220,(kT #[]))::
(nat_lit 221,(q4 P 428 432 43 431 "small_words" 439 219 "__static_attributes__" 440 220 441 2))::
(nat_lit 222,(q2 "NotOpen" 222 221 206 421 429))::
(nat_lit 225,(kT #[(kR 31)]))::
(nat_lit 232,(kT #[]))::
(nat_lit 234,(kT #[(kz "self" 459)]))::
(nat_lit 235,(kT #[]))::
(nat_lit 237,(q0 "small_words" 456 "HasBelow.small_words" 457 458 49 1 232 233 234 235 236 460 461))::
(nat_lit 238,(q1 "small_words" "HasBelow.small_words" 49 20 24 50 10 16 17 "evenhall.errors" 194 237))::
(nat_lit 239,(kT #[]))::
(nat_lit 240,(q4 P 451 455 47 454 "small_words" 462 238 "__static_attributes__" 463 239 464 2))::
(nat_lit 241,(q2 "HasBelow" 241 240 225 444 452))::
(nat_lit 244,(kT #[(kR 31)]))::
(nat_lit 251,(kT #[]))::
(nat_lit 253,(kT #[(kz "self" 482)]))::
(nat_lit 254,(kT #[]))::
(nat_lit 256,(q0 "small_words" 479 "BadRow.small_words" 480 481 53 1 251 252 253 254 255 483 484))::
(nat_lit 257,(q1 "small_words" "BadRow.small_words" 53 20 24 54 11 16 17 "evenhall.errors" 194 256))::
(nat_lit 258,(kT #[]))::
(nat_lit 259,(q4 P 474 478 51 477 "small_words" 485 257 "__static_attributes__" 486 258 487 2))::
(nat_lit 260,(q2 "BadRow" 260 259 244 467 475))::
(nat_lit 263,(kT #[(kR 31)]))::
(nat_lit 270,(kT #[]))::
(nat_lit 272,(kT #[(kz "self" 505),(kz "currency" 506)]))::
(nat_lit 273,(kT #[]))::
(nat_lit 275,(q0 "__init__" 502 "Uneven.__init__" 503 504 57 2 270 271 272 273 274 507 508))::
(nat_lit 276,(Zz "__init__" "Uneven.__init__" (bg (top 15) 0) "evenhall.errors" 194 275))::
(nat_lit 277,(kT #[]))::
(nat_lit 279,(kT #[(kz "self" 513)]))::
(nat_lit 280,(kT #[]))::
(nat_lit 282,(q0 "small_words" 510 "Uneven.small_words" 511 512 60 1 277 278 279 280 281 514 515))::
(nat_lit 283,(q1 "small_words" "Uneven.small_words" 60 20 24 61 12 16 17 "evenhall.errors" 194 282))::
(nat_lit 284,(kT #[(kz "currency" 517)]))::
(nat_lit 285,(kO (kY "dict") none (YI #[(kE P "__module__" 497 (kz "evenhall.errors" 194)),(kE P "__firstlineno__" 501 (kI 55 500)),(kE P "__init__" 509 (kR 276)),(kE P "small_words" 516 (kR 283)),(kE P "__static_attributes__" 518 (kR 284)),(kE P "__doc__" 519 kN)] 2) #[]))::
(nat_lit 286,(q2 "Uneven" 286 285 263 490 498))::
(nat_lit 289,(kT #[(kR 31)]))::
(nat_lit 296,(kT #[]))::
(nat_lit 298,(kT #[(kz "self" 537)]))::
(nat_lit 299,(kT #[]))::
(nat_lit 301,(q0 "small_words" 534 "NoBooking.small_words" 535 536 64 1 296 297 298 299 300 538 539))::
(nat_lit 302,(q1 "small_words" "NoBooking.small_words" 64 20 24 65 13 16 17 "evenhall.errors" 194 301))::
(nat_lit 303,(kT #[]))::
(nat_lit 304,(q4 P 529 533 62 532 "small_words" 540 302 "__static_attributes__" 541 303 542 2))::
(nat_lit 305,(q2 "NoBooking" 305 304 289 522 530))::
(nat_lit 308,(kT #[(kR 31)]))::
(nat_lit 315,(kT #[]))::
(nat_lit 317,(kT #[(kz "self" 560)]))::
(nat_lit 318,(kT #[]))::
(nat_lit 320,(q0 "small_words" 557 "Undone.small_words" 558 559 68 1 315 316 317 318 319 561 562))::
(nat_lit 321,(q1 "small_words" "Undone.small_words" 68 20 24 69 14 16 17 "evenhall.errors" 194 320))::
(nat_lit 322,(kT #[]))::
(nat_lit 323,(q4 P 552 556 66 555 "small_words" 563 321 "__static_attributes__" 564 322 565 2))::
(nat_lit 324,(q2 "Undone" 324 323 308 545 553))::
(nat_lit 327,(kT #[(kR 31)]))::
(nat_lit 334,(kT #[]))::
(nat_lit 336,(kT #[(kz "self" 583)]))::
(nat_lit 337,(kT #[]))::
(nat_lit 339,(q0 "small_words" 580 "Closed.small_words" 581 582 72 1 334 335 336 337 338 584 585))::
(nat_lit 340,(q1 "small_words" "Closed.small_words" 72 20 24 73 15 16 17 "evenhall.errors" 194 339))::
(nat_lit 341,(kT #[]))::
(nat_lit 342,(q4 P 575 579 70 578 "small_words" 586 340 "__static_attributes__" 587 341 588 2))::
(nat_lit 343,(q2 "Closed" 343 342 327 568 576))::
(nat_lit 346,(kT #[(kR 31)]))::
(nat_lit 353,(kT #[]))::
(nat_lit 355,(kT #[(kz "self" 606)]))::
(nat_lit 356,(kT #[]))::
(nat_lit 358,(q0 "small_words" 603 "NotNext.small_words" 604 605 76 1 353 354 355 356 357 607 608))::
(nat_lit 359,(q1 "small_words" "NotNext.small_words" 76 20 24 77 16 16 17 "evenhall.errors" 194 358))::
(nat_lit 360,(kT #[]))::
(nat_lit 361,(q4 P 598 602 74 601 "small_words" 609 359 "__static_attributes__" 610 360 611 2))::
(nat_lit 362,(q2 "NotNext" 362 361 346 591 599))::
(nat_lit 365,(kT #[]))::
(nat_lit 367,(kT #[(kz "thing" 619)]))::
(nat_lit 368,(kT #[]))::
(nat_lit 370,(q0 "is_whole" 616 "is_whole" 617 618 79 1 365 366 367 368 369 620 621))::
(nat_lit 371,(Zy "is_whole" "is_whole" (top 21) 370))::
(nat_lit 372,(kT #[]))::
(nat_lit 374,(kT #[(kz "thing" 626),(kz "least" 627),(kz "most" 628)]))::
(nat_lit 375,(kT #[]))::
(nat_lit 377,(q0 "is_among" 623 "is_among" 624 625 81 3 372 373 374 375 376 629 630))::
(nat_lit 378,(Zy "is_among" "is_among" (top 22) 377))::
(nat_lit 379,(kT #[]))::
(nat_lit 382,(q3 "signs_lie" 632 "signs_lie" 633 634 83 3 379 380 381 635 636))::
(nat_lit 383,(Zy "signs_lie" "signs_lie" (top 23) 382))::
(nat_lit 384,(kT #[]))::
(nat_lit 386,(kT #[(kz "thing" 641)]))::
(nat_lit 387,(kT #[]))::
(nat_lit 389,(q0 "is_name" 638 "is_name" 639 640 85 1 384 385 386 387 388 642 643))::
(nat_lit 390,(Zy "is_name" "is_name" (top 24) 389))::
(nat_lit 391,(kT #[]))::
(nat_lit 393,(kT #[(kz "thing" 648)]))::
(nat_lit 394,(kT #[]))::
(nat_lit 396,(q0 "is_note" 645 "is_note" 646 647 87 1 391 392 393 394 395 649 650))::
(nat_lit 397,(Zy "is_note" "is_note" (top 25) 396))::
(nat_lit 398,(kT #[]))::
(nat_lit 400,(kT #[(kz "thing" 657)]))::
(nat_lit 401,(kT #[]))::
(nat_lit 403,(q0 "is_amount" 654 "is_amount" 655 656 94 1 398 399 400 401 402 658 659))::
(nat_lit 404,(Zz "is_amount" "is_amount" (top 27) "evenhall.money" 652 403))::
(nat_lit 405,(kT #[]))::
(nat_lit 407,(kT #[(kz "thing" 664)]))::
(nat_lit 408,(kT #[]))::
(nat_lit 410,(q0 "is_currency" 661 "is_currency" 662 663 96 1 405 406 407 408 409 665 666))::
(nat_lit 411,(Zz "is_currency" "is_currency" (top 28) "evenhall.money" 652 410))::
(nat_lit 412,(kT #[]))::
(nat_lit 414,(kT #[(kz "thing" 673)]))::
(nat_lit 415,(kT #[]))::
(nat_lit 417,(q0 "is_row" 670 "is_row" 671 672 99 1 412 413 414 415 416 674 675))::
(nat_lit 418,(Zx "is_row" "is_row" (top 30) 417))::
(nat_lit 419,(kT #[]))::
(nat_lit 421,(kT #[(kz "rows" 680),(kz "row" 681)]))::
(nat_lit 422,(kT #[]))::
(nat_lit 424,(q0 "need_form" 677 "need_form" 678 679 103 1 419 420 421 422 423 682 683))::
(nat_lit 425,(Zx "need_form" "need_form" (top 31) 424))::
(nat_lit 426,(kT #[]))::
(nat_lit 428,(kT #[(kz "chart" 688),(kz "day" 689),(kz "path" 690),(kz "currency" 691)]))::
(nat_lit 429,(kT #[]))::
(nat_lit 431,(q0 "need_account" 685 "need_account" 686 687 109 4 426 427 428 429 430 692 693))::
(nat_lit 432,(Zx "need_account" "need_account" (top 32) 431))::
(nat_lit 433,(kT #[]))::
(nat_lit 436,(q3 "turned" 695 "turned" 696 697 114 1 433 434 435 698 699))::
(nat_lit 437,(Zx "turned" "turned" (top 33) 436))::
(nat_lit 438,(kT #[]))::
(nat_lit 441,(q3 "sums_of" 701 "sums_of" 702 703 116 1 438 439 440 704 705))::
(nat_lit 442,(Zx "sums_of" "sums_of" (top 34) 441))::
(nat_lit 443,(kT #[]))::
(nat_lit 446,(q3 "need_even" 707 "need_even" 708 709 121 1 443 444 445 710 711))::
(nat_lit 447,(Zx "need_even" "need_even" (top 35) 446))::
(nat_lit 448,(kT #[]))::
(nat_lit 450,(kT #[(kz "chart" 716),(kz "day" 717),(kz "rows" 718),(kz "path" 719),(kz "currency" 720),(kz "amount" 721)]))::
(nat_lit 451,(kT #[]))::
(nat_lit 453,(q0 "need_rows" 713 "need_rows" 714 715 125 3 448 449 450 451 452 722 723))::
(nat_lit 454,(Zx "need_rows" "need_rows" (top 36) 453))::
(nat_lit 455,(kT #[(kI 31 727),(kI 28 728),(kI 31 729),(kI 30 730),(kI 31 731),(kI 30 732),(kI 31 733),(kI 31 734),(kI 30 735),(kI 31 736),(kI 30 737),(kI 31 738)]))::
(nat_lit 456,(kT #[]))::
(nat_lit 458,(kT #[(kz "thing" 743)]))::
(nat_lit 459,(kT #[]))::
(nat_lit 461,(q0 "is_day" 740 "is_day" 741 742 132 1 456 457 458 459 460 744 745))::
(nat_lit 462,(Zw "is_day" "is_day" (top 39) 461))::
(nat_lit 463,(kT #[]))::
(nat_lit 465,(kT #[(kz "thing" 750)]))::
(nat_lit 466,(kT #[]))::
(nat_lit 468,(q0 "is_month" 747 "is_month" 748 749 134 1 463 464 465 466 467 751 752))::
(nat_lit 469,(Zw "is_month" "is_month" (top 40) 468))::
(nat_lit 470,(kT #[]))::
(nat_lit 472,(kT #[(kz "years" 757)]))::
(nat_lit 473,(kT #[]))::
(nat_lit 475,(q0 "leap_days" 754 "leap_days" 755 756 136 1 470 471 472 473 474 758 759))::
(nat_lit 476,(Zw "leap_days" "leap_days" (top 41) 475))::
(nat_lit 477,(kT #[]))::
(nat_lit 479,(kT #[(kz "month" 764),(kz "years" 765),(kz "ahead" 766),(kz "leaps" 767)]))::
(nat_lit 480,(kT #[]))::
(nat_lit 482,(q0 "first_day" 761 "first_day" 762 763 138 1 477 478 479 480 481 768 769))::
(nat_lit 483,(Zw "first_day" "first_day" (top 42) 482))::
(nat_lit 484,(kT #[]))::
(nat_lit 486,(kT #[(kz "month" 774)]))::
(nat_lit 487,(kT #[]))::
(nat_lit 489,(q0 "last_day" 771 "last_day" 772 773 143 1 484 485 486 487 488 775 776))::
(nat_lit 490,(Zw "last_day" "last_day" (top 43) 489))::
(nat_lit 491,(kT #[]))::
(nat_lit 493,(kT #[(kz "day" 781),(kz "month" 782)]))::
(nat_lit 494,(kT #[]))::
(nat_lit 496,(q0 "month_of" 778 "month_of" 779 780 145 1 491 492 493 494 495 783 784))::
(nat_lit 497,(Zw "month_of" "month_of" (top 44) 496))::
(nat_lit 498,(kT #[]))::
(nat_lit 501,(q3 "are_names" 788 "are_names" 789 790 153 1 498 499 500 791 792))::
(nat_lit 502,(Zv "are_names" "are_names" (top 46) 501))::
(nat_lit 503,(kT #[]))::
(nat_lit 505,(kT #[(kz "thing" 797)]))::
(nat_lit 506,(kT #[]))::
(nat_lit 508,(q0 "is_path" 794 "is_path" 795 796 155 1 503 504 505 506 507 798 799))::
(nat_lit 509,(Zv "is_path" "is_path" (top 47) 508))::
(nat_lit 510,(kT #[]))::
(nat_lit 512,(kT #[(kz "path" 804)]))::
(nat_lit 513,(kT #[]))::
(nat_lit 515,(q0 "names_of" 801 "names_of" 802 803 157 1 510 511 512 513 514 805 806))::
(nat_lit 516,(Zv "names_of" "names_of" (top 48) 515))::
(nat_lit 517,(kT #[]))::
(nat_lit 520,(q3 "above" 808 "above" 809 810 161 1 517 518 519 811 812))::
(nat_lit 521,(Zv "above" "above" (top 49) 520))::
(nat_lit 522,(kT #[]))::
(nat_lit 524,(kT #[(kz "bookings" 819),(kz "rows" 820),(kz "booking" 821)]))::
(nat_lit 525,(kT #[]))::
(nat_lit 527,(q0 "rows_of" 816 "rows_of" 817 818 165 1 522 523 524 525 526 822 823))::
(nat_lit 528,(Zz "rows_of" "rows_of" (top 51) "evenhall.reports" 814 527))::
(nat_lit 529,(kT #[]))::
(nat_lit 532,(q3 "bookings_up_to" 825 "bookings_up_to" 826 827 170 2 529 530 531 828 829))::
(nat_lit 533,(Zz "bookings_up_to" "bookings_up_to" (top 52) "evenhall.reports" 814 532))::
(nat_lit 534,(kT #[]))::
(nat_lit 536,(kT #[(kz "chart" 834),(kz "journal" 835),(kz "day" 836)]))::
(nat_lit 537,(kT #[]))::
(nat_lit 539,(q0 "balances" 831 "balances" 832 833 172 3 534 535 536 537 538 837 838))::
(nat_lit 540,(Zz "balances" "balances" (top 53) "evenhall.reports" 814 539))::
(nat_lit 541,(kT #[]))::
(nat_lit 543,(kT #[(kz "chart" 845),(kz "journal" 846),(kz "month" 847),(kz "day" 848)]))::
(nat_lit 544,(kT #[]))::
(nat_lit 546,(q0 "seal" 842 "seal" 843 844 175 3 541 542 543 544 545 849 850))::
(nat_lit 547,(Zu "seal" "seal" (top 55) 546))::
(nat_lit 548,(kT #[]))::
(nat_lit 550,(kT #[(kz "chart" 855),(kz "journal" 856),(kz "told" 857)]))::
(nat_lit 551,(kT #[]))::
(nat_lit 553,(q0 "holds" 852 "holds" 853 854 180 3 548 549 550 551 552 858 859))::
(nat_lit 554,(Zu "holds" "holds" (top 56) 553))::
(nat_lit 562,(kT #[]))::
(nat_lit 564,(kT #[(kz "self" 876)]))::
(nat_lit 565,(kT #[]))::
(nat_lit 567,(q0 "__init__" 873 "Seals.__init__" 874 875 184 1 562 563 564 565 566 877 878))::
(nat_lit 568,(Zu "__init__" "Seals.__init__" (bg (top 57) 0) 567))::
(nat_lit 569,(kT #[]))::
(nat_lit 571,(kT #[(kz "self" 883),(kz "told" 884)]))::
(nat_lit 572,(kT #[]))::
(nat_lit 574,(q0 "put" 880 "Seals.put" 881 882 187 2 569 570 571 572 573 885 886))::
(nat_lit 575,(Zu "put" "Seals.put" (bg (top 57) 1) 574))::
(nat_lit 576,(kT #[]))::
(nat_lit 578,(kT #[(kz "self" 891)]))::
(nat_lit 579,(kT #[]))::
(nat_lit 581,(q0 "every" 888 "Seals.every" 889 890 190 1 576 577 578 579 580 892 893))::
(nat_lit 582,(Zu "every" "Seals.every" (bg (top 57) 2) 581))::
(nat_lit 583,(kT #[(kz "told_seals" 895)]))::
(nat_lit 584,(kO (kY "dict") none (YI #[(kE P "__module__" 868 (kz "evenhall.seals" 840)),(kE P "__firstlineno__" 872 (kI 182 871)),(kE P "__init__" 879 (kR 568)),(kE P "put" 887 (kR 575)),(kE P "every" 894 (kR 582)),(kE P "__static_attributes__" 896 (kR 583)),(kE P "__dict__" 898 (kR 586)),(kE P "__weakref__" 900 (kR 587)),(kE P "__doc__" 901 kN)] 4) #[]))::
(nat_lit 585,(q5 "Seals" 585 584 861 869))::
(nat_lit 586,(q7 897 585))::
(nat_lit 587,(q6 899 585))::
(nat_lit 590,(kT #[]))::
(nat_lit 593,(q3 "carry_rows" 906 "carry_rows" 907 908 193 4 590 591 592 909 910))::
(nat_lit 594,(Zt "carry_rows" "carry_rows" (top 59) 593))::
(nat_lit 595,(kT #[]))::
(nat_lit 597,(kT #[(kz "chart" 915),(kz "path" 916),(kz "day" 917)]))::
(nat_lit 598,(kT #[]))::
(nat_lit 600,(q0 "need_keeper" 912 "need_keeper" 913 914 197 3 595 596 597 598 599 918 919))::
(nat_lit 601,(Zt "need_keeper" "need_keeper" (top 60) 600))::
(nat_lit 602,(kT #[]))::
(nat_lit 605,(q3 "need_currencies" 921 "need_currencies" 922 923 202 3 602 603 604 924 925))::
(nat_lit 606,(Zt "need_currencies" "need_currencies" (top 61) 605))::
(nat_lit 607,(kT #[]))::
(nat_lit 609,(kT #[(kz "chart" 930),(kz "journal" 931),(kz "month" 932),(kz "path" 933),(kz "day" 934),(kz "rows" 935)]))::
(nat_lit 610,(kT #[]))::
(nat_lit 612,(q0 "carry" 927 "carry" 928 929 206 4 607 608 609 610 611 936 937))::
(nat_lit 613,(Zt "carry" "carry" (top 62) 612))::
(nat_lit 614,(kT #[]))::
(nat_lit 616,(kT #[(kz "chart" 942),(kz "gate" 943),(kz "journal" 944),(kz "seals" 945),(kz "month" 946),(kz "path" 947),(kz "told" 948)]))::
(nat_lit 617,(kT #[]))::
(nat_lit 619,(q0 "close" 939 "close" 940 941 213 6 614 615 616 617 618 949 950))::
(nat_lit 620,(Zt "close" "close" (top 63) 619))::
(nat_lit 621,(kT #[(kz "have" 954),(kz "owe" 955),(kz "own" 956),(kz "gain" 957),(kz "cost" 958)]))::
(nat_lit 629,(kT #[]))::
(nat_lit 631,(kT #[(kz "self" 975),(kz "kind" 976),(kz "currency" 977),(kz "first" 978)]))::
(nat_lit 632,(kT #[]))::
(nat_lit 634,(q0 "__init__" 972 "Account.__init__" 973 974 225 4 629 630 631 632 633 979 980))::
(nat_lit 635,(Zs "__init__" "Account.__init__" (bg (top 66) 0) 634))::
(nat_lit 636,(kT #[]))::
(nat_lit 638,(kT #[(kz "self" 985),(kz "day" 986)]))::
(nat_lit 639,(kT #[]))::
(nat_lit 641,(q0 "stands_on" 982 "Account.stands_on" 983 984 232 2 636 637 638 639 640 987 988))::
(nat_lit 642,(Zs "stands_on" "Account.stands_on" (bg (top 66) 1) 641))::
(nat_lit 643,(kT #[]))::
(nat_lit 645,(kT #[(kz "self" 993),(kz "day" 994)]))::
(nat_lit 646,(kT #[]))::
(nat_lit 648,(q0 "stands_later" 990 "Account.stands_later" 991 992 235 2 643 644 645 646 647 995 996))::
(nat_lit 649,(Zs "stands_later" "Account.stands_later" (bg (top 66) 2) 648))::
(nat_lit 650,(kT #[(kz "below" 998),(kz "currency" 999),(kz "first" 1000),(kz "kind" 1001),(kz "until" 1002)]))::
(nat_lit 651,(kO (kY "dict") none (YI #[(kE P "__module__" 967 (kz "evenhall.chart" 952)),(kE P "__firstlineno__" 971 (kI 223 970)),(kE P "__init__" 981 (kR 635)),(kE P "stands_on" 989 (kR 642)),(kE P "stands_later" 997 (kR 649)),(kE P "__static_attributes__" 1003 (kR 650)),(kE P "__dict__" 1005 (kR 653)),(kE P "__weakref__" 1007 (kR 654)),(kE P "__doc__" 1008 kN)] 4) #[]))::
(nat_lit 652,(q5 "Account" 652 651 960 968))::
(nat_lit 653,(q7 1004 652))::
(nat_lit 654,(q6 1006 652))::
(nat_lit 664,(kT #[]))::
(nat_lit 666,(kT #[(kz "self" 1026)]))::
(nat_lit 667,(kT #[]))::
(nat_lit 669,(q0 "__init__" 1023 "Chart.__init__" 1024 1025 239 1 664 665 666 667 668 1027 1028))::
(nat_lit 670,(Zs "__init__" "Chart.__init__" (bg (top 67) 0) 669))::
(nat_lit 671,(kT #[]))::
(nat_lit 673,(kT #[(kz "self" 1033),(kz "name" 1034),(kz "kind" 1035)]))::
(nat_lit 674,(kT #[]))::
(nat_lit 676,(q0 "add_top" 1030 "Chart.add_top" 1031 1032 242 3 671 672 673 674 675 1036 1037))::
(nat_lit 677,(Zs "add_top" "Chart.add_top" (bg (top 67) 1) 676))::
(nat_lit 678,(kT #[]))::
(nat_lit 680,(kT #[(kz "self" 1042),(kz "path" 1043),(kz "currency" 1044),(kz "day" 1045),(kz "upper" 1046)]))::
(nat_lit 681,(kT #[]))::
(nat_lit 683,(q0 "add" 1039 "Chart.add" 1040 1041 251 4 678 679 680 681 682 1047 1048))::
(nat_lit 684,(Zs "add" "Chart.add" dL 683))::
(nat_lit 685,(kT #[]))::
(nat_lit 688,(q3 "shut" 1050 "Chart.shut" 1051 1052 266 3 685 686 687 1053 1054))::
(nat_lit 689,(Zs "shut" "Chart.shut" (bg (top 67) 3) 688))::
(nat_lit 690,(kT #[]))::
(nat_lit 692,(kT #[(kz "self" 1059),(kz "path" 1060)]))::
(nat_lit 693,(kT #[]))::
(nat_lit 695,(q0 "has" 1056 "Chart.has" 1057 1058 278 2 690 691 692 693 694 1061 1062))::
(nat_lit 696,(Zs "has" "Chart.has" (bg (top 67) 4) 695))::
(nat_lit 697,(kT #[]))::
(nat_lit 699,(kT #[(kz "self" 1067),(kz "path" 1068)]))::
(nat_lit 700,(kT #[]))::
(nat_lit 702,(q0 "account" 1064 "Chart.account" 1065 1066 281 2 697 698 699 700 701 1069 1070))::
(nat_lit 703,(Zs "account" "Chart.account" (bg (top 67) 5) 702))::
(nat_lit 704,(kT #[]))::
(nat_lit 706,(kT #[(kz "self" 1075),(kz "path" 1076)]))::
(nat_lit 707,(kT #[]))::
(nat_lit 709,(q0 "kind_of" 1072 "Chart.kind_of" 1073 1074 286 2 704 705 706 707 708 1077 1078))::
(nat_lit 710,(Zs "kind_of" "Chart.kind_of" (bg (top 67) 6) 709))::
(nat_lit 711,(kT #[]))::
(nat_lit 713,(kT #[(kz "self" 1083),(kz "path" 1084)]))::
(nat_lit 714,(kT #[]))::
(nat_lit 716,(q0 "currency_of" 1080 "Chart.currency_of" 1081 1082 289 2 711 712 713 714 715 1085 1086))::
(nat_lit 717,(Zs "currency_of" "Chart.currency_of" (bg (top 67) 7) 716))::
(nat_lit 718,(kT #[]))::
(nat_lit 720,(kT #[(kz "self" 1091),(kz "path" 1092)]))::
(nat_lit 721,(kT #[]))::
(nat_lit 723,(q0 "span_of" 1088 "Chart.span_of" 1089 1090 292 2 718 719 720 721 722 1093 1094))::
(nat_lit 724,(kO (kY "function") none (Data.func (FuncData.mk (kS "span_of") (kS "Chart.span_of") (Arguments.mk [] [(Arg.mk (kS "self") none (Pos.mk 292 16 292 20)),(Arg.mk (kS "path") none (Pos.mk 292 22 292 26))] none [] [] none []) (FuncBody.stmts [(Stmt.Expr (Expr.Call (Expr.Name (kS "_wall") (Pos.mk 293 8 293 13)) [(Expr.Constant (Const.int 17) 0 (Pos.mk 293 14 293 16))] [] (Pos.mk 293 8 293 17)) (Pos.mk 293 8 293 17))]) (Scope.mk ScopeKind.function [((kS "self"),NameKind.local),((kS "path"),NameKind.local),((kS "_wall"),NameKind.globalImplicit)] false false []) 3 [] kN kN kN (kz "evenhall.chart" 952) none (kR 723) kN 0)) #[]))::
(nat_lit 725,(kT #[]))::
(nat_lit 727,(kT #[(kz "self" 1099),(kz "path" 1100),(kz "day" 1101)]))::
(nat_lit 728,(kT #[]))::
(nat_lit 730,(q0 "is_open" 1096 "Chart.is_open" 1097 1098 295 3 725 726 727 728 729 1102 1103))::
(nat_lit 731,(Zs "is_open" "Chart.is_open" (bg (top 67) 9) 730))::
(nat_lit 732,(kT #[]))::
(nat_lit 734,(kT #[(kz "self" 1108),(kz "path" 1109)]))::
(nat_lit 735,(kT #[]))::
(nat_lit 737,(q0 "beneath" 1105 "Chart.beneath" 1106 1107 298 2 732 733 734 735 736 1110 1111))::
(nat_lit 738,(Zs "beneath" "Chart.beneath" (bg (top 67) 10) 737))::
(nat_lit 739,(kT #[]))::
(nat_lit 741,(kT #[(kz "self" 1116)]))::
(nat_lit 742,(kT #[]))::
(nat_lit 744,(q0 "accounts" 1113 "Chart.accounts" 1114 1115 301 1 739 740 741 742 743 1117 1118))::
(nat_lit 745,(q1 "accounts" "Chart.accounts" 301 17 21 302 18 16 17 "evenhall.chart" 952 744))::
(nat_lit 746,(kT #[(kz "by_path" 1120)]))::
(nat_lit 747,(kO (kY "dict") none (YI #[(kE P "__module__" 1018 (kz "evenhall.chart" 952)),(kE P "__firstlineno__" 1022 (kI 237 1021)),(kE P "__init__" 1029 (kR 670)),(kE P "add_top" 1038 (kR 677)),(kE P "add" 1049 (kR 684)),(kE P "shut" 1055 (kR 689)),(kE P "has" 1063 (kR 696)),(kE P "account" 1071 (kR 703)),(kE P "kind_of" 1079 (kR 710)),(kE P "currency_of" 1087 (kR 717)),(kE P "span_of" 1095 (kR 724)),(kE P "is_open" 1104 (kR 731)),(kE P "beneath" 1112 (kR 738)),(kE P "accounts" 1119 (kR 745)),(kE P "__static_attributes__" 1121 (kR 746)),(kE P "__dict__" 1123 (kR 749)),(kE P "__weakref__" 1125 (kR 750)),(kE P "__doc__" 1126 kN)] 4) #[]))::
(nat_lit 748,(q5 "Chart" 748 747 1011 1019))::
(nat_lit 749,(q7 1122 748))::
(nat_lit 750,(q6 1124 748))::
(nat_lit 753,(kT #[]))::
(nat_lit 755,(kT #[(kz "gate" 1134),(kz "day" 1135),(kz "note" 1136)]))::
(nat_lit 756,(kT #[]))::
(nat_lit 758,(q0 "need_note_and_gate" 1131 "need_note_and_gate" 1132 1133 304 3 753 754 755 756 757 1137 1138))::
(nat_lit 759,(Zz "need_note_and_gate" "need_note_and_gate" (top 69) "evenhall.deeds" 1129 758))::
(nat_lit 760,(kT #[]))::
(nat_lit 762,(kT #[(kz "chart" 1143),(kz "gate" 1144),(kz "journal" 1145),(kz "day" 1146),(kz "note" 1147),(kz "rows" 1148)]))::
(nat_lit 763,(kT #[]))::
(nat_lit 765,(q0 "book" 1140 "book" 1141 1142 309 6 760 761 762 763 764 1149 1150))::
(nat_lit 766,(Zz "book" "book" (top 70) "evenhall.deeds" 1129 765))::
(nat_lit 767,(kT #[]))::
(nat_lit 770,(q3 "undo" 1152 "undo" 1153 1154 315 6 767 768 769 1155 1156))::
(nat_lit 771,(Zz "undo" "undo" (top 71) "evenhall.deeds" 1129 770))::
(nat_lit 779,(kT #[]))::
(nat_lit 781,(kT #[(kz "self" 1175)]))::
(nat_lit 782,(kT #[]))::
(nat_lit 784,(q0 "__init__" 1172 "Gate.__init__" 1173 1174 328 1 779 780 781 782 783 1176 1177))::
(nat_lit 785,(Zr "__init__" "Gate.__init__" (bg (top 73) 0) 784))::
(nat_lit 786,(kT #[]))::
(nat_lit 788,(kT #[(kz "self" 1182)]))::
(nat_lit 789,(kT #[]))::
(nat_lit 791,(q0 "closed" 1179 "Gate.closed" 1180 1181 331 1 786 787 788 789 790 1183 1184))::
(nat_lit 792,(Zr "closed" "Gate.closed" (bg (top 73) 1) 791))::
(nat_lit 793,(kT #[]))::
(nat_lit 795,(kT #[(kz "self" 1189),(kz "day" 1190)]))::
(nat_lit 796,(kT #[]))::
(nat_lit 798,(q0 "lets" 1186 "Gate.lets" 1187 1188 334 2 793 794 795 796 797 1191 1192))::
(nat_lit 799,(Zr "lets" "Gate.lets" (bg (top 73) 2) 798))::
(nat_lit 800,(kT #[]))::
(nat_lit 802,(kT #[(kz "self" 1197),(kz "month" 1198)]))::
(nat_lit 803,(kT #[]))::
(nat_lit 805,(q0 "need_next" 1194 "Gate.need_next" 1195 1196 337 2 800 801 802 803 804 1199 1200))::
(nat_lit 806,(Zr "need_next" "Gate.need_next" (bg (top 73) 3) 805))::
(nat_lit 807,(kT #[]))::
(nat_lit 809,(kT #[(kz "self" 1205),(kz "month" 1206)]))::
(nat_lit 810,(kT #[]))::
(nat_lit 812,(q0 "shut" 1202 "Gate.shut" 1203 1204 343 2 807 808 809 810 811 1207 1208))::
(nat_lit 813,(Zr "shut" "Gate.shut" (bg (top 73) 4) 812))::
(nat_lit 814,(kT #[(kz "last_closed" 1210)]))::
(nat_lit 815,(kO (kY "dict") none (YI #[(kE P "__module__" 1167 (kz "evenhall.journal" 1158)),(kE P "__firstlineno__" 1171 (kI 326 1170)),(kE P "__init__" 1178 (kR 785)),(kE P "closed" 1185 (kR 792)),(kE P "lets" 1193 (kR 799)),(kE P "need_next" 1201 (kR 806)),(kE P "shut" 1209 (kR 813)),(kE P "__static_attributes__" 1211 (kR 814)),(kE P "__dict__" 1213 (kR 817)),(kE P "__weakref__" 1215 (kR 818)),(kE P "__doc__" 1216 kN)] 4) #[]))::
(nat_lit 816,(q5 "Gate" 816 815 1160 1168))::
(nat_lit 817,(q7 1212 816))::
(nat_lit 818,(q6 1214 816))::
(nat_lit 828,(kT #[]))::
(nat_lit 830,(kT #[(kz "self" 1234)]))::
(nat_lit 831,(kT #[]))::
(nat_lit 833,(q0 "__init__" 1231 "Journal.__init__" 1232 1233 348 1 828 829 830 831 832 1235 1236))::
(nat_lit 834,(Zr "__init__" "Journal.__init__" (bg (top 74) 0) 833))::
(nat_lit 835,(kT #[]))::
(nat_lit 837,(kT #[(kz "self" 1241),(kz "day" 1242),(kz "note" 1243),(kz "rows" 1244),(kz "undoes" 1245),(kz "number" 1246)]))::
(nat_lit 838,(kT #[]))::
(nat_lit 840,(q0 "put" 1238 "Journal.put" 1239 1240 352 5 835 836 837 838 839 1247 1248))::
(nat_lit 841,(Zr "put" "Journal.put" (bg (top 74) 1) 840))::
(nat_lit 842,(kT #[]))::
(nat_lit 844,(kT #[(kz "self" 1253)]))::
(nat_lit 845,(kT #[]))::
(nat_lit 847,(q0 "many" 1250 "Journal.many" 1251 1252 359 1 842 843 844 845 846 1254 1255))::
(nat_lit 848,(Zr "many" "Journal.many" (bg (top 74) 2) 847))::
(nat_lit 849,(kT #[]))::
(nat_lit 851,(kT #[(kz "self" 1260),(kz "number" 1261)]))::
(nat_lit 852,(kT #[]))::
(nat_lit 854,(q0 "booking" 1257 "Journal.booking" 1258 1259 362 2 849 850 851 852 853 1262 1263))::
(nat_lit 855,(Zr "booking" "Journal.booking" (bg (top 74) 3) 854))::
(nat_lit 856,(kT #[]))::
(nat_lit 858,(kT #[(kz "self" 1268)]))::
(nat_lit 859,(kT #[]))::
(nat_lit 861,(q0 "every" 1265 "Journal.every" 1266 1267 367 1 856 857 858 859 860 1269 1270))::
(nat_lit 862,(Zr "every" "Journal.every" (bg (top 74) 4) 861))::
(nat_lit 863,(kT #[]))::
(nat_lit 865,(kT #[(kz "self" 1275),(kz "number" 1276)]))::
(nat_lit 866,(kT #[]))::
(nat_lit 868,(q0 "undone_by" 1272 "Journal.undone_by" 1273 1274 370 2 863 864 865 866 867 1277 1278))::
(nat_lit 869,(Zr "undone_by" "Journal.undone_by" (bg (top 74) 5) 868))::
(nat_lit 870,(kT #[(kz "bookings" 1280),(kz "undoings" 1281)]))::
(nat_lit 871,(kO (kY "dict") none (YI #[(kE P "__module__" 1226 (kz "evenhall.journal" 1158)),(kE P "__firstlineno__" 1230 (kI 346 1229)),(kE P "__init__" 1237 (kR 834)),(kE P "put" 1249 (kR 841)),(kE P "many" 1256 (kR 848)),(kE P "booking" 1264 (kR 855)),(kE P "every" 1271 (kR 862)),(kE P "undone_by" 1279 (kR 869)),(kE P "__static_attributes__" 1282 (kR 870)),(kE P "__dict__" 1284 (kR 873)),(kE P "__weakref__" 1286 (kR 874)),(kE P "__doc__" 1287 kN)] 4) #[]))::
(nat_lit 872,(q5 "Journal" 872 871 1219 1227))::
(nat_lit 873,(q7 1283 872))::
(nat_lit 874,(q6 1285 872))::
(nat_lit 877,(kT #[]))::
(nat_lit 879,(kT #[(kz "_law_script" 1295),(kz "_law_k" 1296)]))::
(nat_lit 880,(kT #[]))::
(nat_lit 882,(q0 "_law_cell_at" 1292 "_law_cell_at" 1293 1294 373 2 877 878 879 880 881 1297 1298))::
(nat_lit 883,(Zq "_law_cell_at" "_law_cell_at" (top 76) 882))::
(nat_lit 891,(kT #[]))::
(nat_lit 894,(q3 "_law_names" 1307 "_law_names" 1308 1309 379 1 891 892 893 1310 1311))::
(nat_lit 895,(Zq "_law_names" "_law_names" (top 78) 894))::
(nat_lit 896,(kT #[]))::
(nat_lit 899,(q3 "_law_currencies" 1313 "_law_currencies" 1314 1315 387 1 896 897 898 1316 1317))::
(nat_lit 900,(Zq "_law_currencies" "_law_currencies" (top 79) 899))::
(nat_lit 901,(kT #[]))::
(nat_lit 903,(kT #[(kz "_law_year" 1322)]))::
(nat_lit 904,(kT #[]))::
(nat_lit 906,(q0 "_law_start" 1319 "_law_start" 1320 1321 390 1 901 902 903 904 905 1323 1324))::
(nat_lit 907,(Zq "_law_start" "_law_start" (top 80) 906))::
(nat_lit 908,(kT #[]))::
(nat_lit 910,(kT #[(kz "_law_year" 1329),(kz "_law_second" 1330)]))::
(nat_lit 911,(kT #[]))::
(nat_lit 913,(q0 "_law_lengths" 1326 "_law_lengths" 1327 1328 392 1 908 909 910 911 912 1331 1332))::
(nat_lit 914,(Zq "_law_lengths" "_law_lengths" (top 81) 913))::
(nat_lit 915,(kT #[]))::
(nat_lit 917,(kT #[(kz "_law_month_here" 1337),(kz "_law_lengths_here" 1338),(kz "_law_first" 1339)]))::
(nat_lit 918,(kT #[]))::
(nat_lit 920,(q0 "_law_month_ends" 1334 "_law_month_ends" 1335 1336 395 1 915 916 917 918 919 1340 1341))::
(nat_lit 921,(Zq "_law_month_ends" "_law_month_ends" (top 82) 920))::
(nat_lit 922,(kT #[]))::
(nat_lit 924,(kT #[(kz "_law_day_here" 1346),(kz "_law_year" 1347),(kz "_law_month_here" 1348)]))::
(nat_lit 925,(kT #[]))::
(nat_lit 927,(q0 "_law_month" 1343 "_law_month" 1344 1345 399 1 922 923 924 925 926 1349 1350))::
(nat_lit 928,(Zq "_law_month" "_law_month" (top 83) 927))::
(nat_lit 929,(kT #[]))::
(nat_lit 931,(kT #[(kz "_law_script" 1355),(kz "_law_cell" 1356)]))::
(nat_lit 932,(kT #[]))::
(nat_lit 934,(q0 "_law_base" 1352 "_law_base" 1353 1354 409 1 929 930 931 932 933 1357 1358))::
(nat_lit 935,(Zq "_law_base" "_law_base" (top 84) 934))::
(nat_lit 936,(kT #[]))::
(nat_lit 938,(kT #[(kz "_law_script" 1363),(kz "_law_k" 1364)]))::
(nat_lit 939,(kT #[]))::
(nat_lit 941,(q0 "_law_day" 1360 "_law_day" 1361 1362 412 2 936 937 938 939 940 1365 1366))::
(nat_lit 942,(Zq "_law_day" "_law_day" (top 85) 941))::
(nat_lit 943,(kT #[]))::
(nat_lit 945,(kT #[(kz "_law_script" 1371),(kz "_law_names_here" 1372),(kz "_law_currencies_here" 1373),(kz "_law_cell" 1374),(kz "_law_kinds" 1375),(kz "_law_tops" 1376),(kz "_law_accounts_here" 1377),(kz "_law_k" 1378),(kz "_law_some" 1379),(kz "_law_more" 1380),(kz "_law_upper" 1381),(kz "_law_until" 1382),(kz "_law_currency" 1383)]))::
(nat_lit 946,(kT #[]))::
(nat_lit 948,(q0 "_law_accounts" 1368 "_law_accounts" 1369 1370 414 1 943 944 945 946 947 1384 1385))::
(nat_lit 949,(Zq "_law_accounts" "_law_accounts" aV 948))::
(nat_lit 950,(kT #[]))::
(nat_lit 952,(kT #[(kz "_law_accounts_here" 1390),(kz "_law_chart_here" 1391),(kz "_law_path" 1392),(kz "_law_currency" 1393),(kz "_law_first" 1394),(kz "_law_until" 1395),(kz "_law_kind" 1396)]))::
(nat_lit 953,(kT #[]))::
(nat_lit 955,(q0 "_law_chart" 1387 "_law_chart" 1388 1389 433 1 950 951 952 953 954 1397 1398))::
(nat_lit 956,(Zq "_law_chart" "_law_chart" (top 87) 955))::
(nat_lit 957,(kT #[]))::
(nat_lit 959,(kT #[(kz "_law_accounts_here" 1403),(kz "_law_path" 1404),(kz "_law_day_here" 1405),(kz "_law_first" 1406),(kz "_law_until" 1407)]))::
(nat_lit 960,(kT #[]))::
(nat_lit 962,(q0 "_law_is_open" 1400 "_law_is_open" 1401 1402 445 3 957 958 959 960 961 1408 1409))::
(nat_lit 963,(Zq "_law_is_open" "_law_is_open" (top 88) 962))::
(nat_lit 964,(kT #[]))::
(nat_lit 967,(q3 "_law_rows_by" 1411 "_law_rows_by" 1412 1413 448 4 964 965 966 1414 1415))::
(nat_lit 968,(Zq "_law_rows_by" "_law_rows_by" (top 89) 967))::
(nat_lit 969,(kT #[]))::
(nat_lit 972,(q3 "_law_balances" 1417 "_law_balances" 1418 1419 459 2 969 970 971 1420 1421))::
(nat_lit 973,(Zq "_law_balances" "_law_balances" (top 90) 972))::
(nat_lit 974,(kT #[]))::
(nat_lit 977,(q3 "_law_tried" 1423 "_law_tried" 1424 1425 466 5 974 975 976 1426 1427))::
(nat_lit 978,(Zq "_law_tried" "_law_tried" (top 91) 977))::
(nat_lit 979,(kT #[]))::
(nat_lit 982,(q3 "_law_changed" 1429 "_law_changed" 1430 1431 488 4 979 980 981 1432 1433))::
(nat_lit 983,(Zq "_law_changed" "_law_changed" (top 92) 982))::
(nat_lit 984,(kT #[]))::
(nat_lit 987,(q3 "_law_sealed" 1435 "_law_sealed" 1436 1437 499 2 984 985 986 1438 1439))::
(nat_lit 988,(Zq "_law_sealed" "_law_sealed" (top 93) 987))::
(nat_lit 989,(kT #[]))::
(nat_lit 992,(q3 "_law_fresh" 1441 "_law_fresh" 1442 1443 503 4 989 990 991 1444 1445))::
(nat_lit 993,(Zq "_law_fresh" "_law_fresh" (top 94) 992))::
(nat_lit 994,(kT #[]))::
(nat_lit 996,(kT #[(kz "_law_script" 1450),(kz "_law_accounts_here" 1451),(kz "_law_currencies_here" 1452),(kz "_law_held" 1453),(kz "_law_every" 1454),(kz "_law_seals" 1455),(kz "_law_k" 1456),(kz "_law_before" 1457),(kz "_law_told" 1458),(kz "_law_now" 1459),(kz "_law_turn" 1460),(kz "_law_one" 1461)]))::
(nat_lit 997,(kT #[]))::
(nat_lit 999,(q0 "law" 1447 "law" 1448 1449 510 1 994 995 996 997 998 1462 1463))::
(nat_lit 1000,(Zq "law" "law" de 999))
 :: []
noncomputable def adrs:List Addr:=(frag { strHash:=fun _=>0,shareClass:=fun _=>0,mergeTok:=id,idOf:=fun _=>0,idOfShared:=fun _ _=>0,followText:=fun _=>true,idOfImm:=fun _=>0 }).map (·.1)
theorem adrs_eq(P:Params):adrs=(frag P).map (·.1):=by kernel_rfl
noncomputable def vw:Program:=PySem.W.view jZ [0,2,3,4,5,6,7,8,9,10,11,12,13,14,15,16,17,18,19,21,22,23,24,25,27,28,30,31,32,33,34,35,36,38,39,40,41,42,43,44,46,47,48,49,51,52,53,55,56,57,59,60,61,62,63,65,66,67,69,70,71,73,74,76,77,78,79,80,81,82,83,84,85,86,87,88,89,90,91,92,93,94,95]
open PySem.W in
noncomputable def tree0(P:Params):BT:=(.node (boot_o_0 P) (.node (boot_o_1 P) (.node (boot_o_3 P) (.node (boot_o_7 P) .nil .nil) .nil) (.node (boot_o_5 P) (.node (boot_o_9 P) .nil .nil) .nil)) (.node (boot_o_2 P) (.node (boot_o_4 P) (.node (boot_o_8 P) .nil .nil) .nil) (.node (boot_o_6 P) (.node (boot_o_10 P) .nil .nil) .nil)))
open PySem.W PyProof.Rows in
noncomputable def ran(p:Program)(t:BT)(b:Heap)(w:World)(os:OsState):Option SharedT:=TR.go p w 11 (some (.ref 6)) 16322 ⟨t,11,b.life,Array.mk [],boot_drawn,boot_toks,os⟩ (topStub p)
noncomputable def runA(p:Program)(t:PySem.W.BT)(b:Heap)(w:World)(os:OsState):=(ran p t b w os).map fun x=>TR.lookB p b x.abs
noncomputable def sn(p v:Program)(c:PySem.W.WRecords)(x:PySem.W.SharedT):=PySem.W.openSeen v [] (importedModules p.main.body) (fun s=>PySem.W.xlAt v [] s&&PySem.W.recOk c s) true x.abs
noncomputable def runD(p v:Program)(c:PySem.W.WRecords)(t:PySem.W.BT)(b:Heap)(w:World)(os:OsState):=(ran p t b w os).map fun x=>(sn p v c x).1
noncomputable def runE(p v:Program)(c:PySem.W.WRecords)(t:PySem.W.BT)(b:Heap)(w:World)(os:OsState):=(ran p t b w os).map fun x=>(sn p v c x).2
noncomputable def runC(p:Program)(t:PySem.W.BT)(b:Heap)(l:List Addr)(w:World)(os:OsState):=(ran p t b w os).map fun x=>l.map x.abs.heap.get?
noncomputable def goodD(v:Program)(_:OsState):=some (PySem.W.openGood v []).1
noncomputable def goodE(v:Program)(_:OsState):=some (PySem.W.openGood v []).2
lay_quick K24.runA
lay_quick K24.runD
lay_quick K24.runE
lay_quick K24.runC
lay_quick K24.goodD
lay_quick K24.goodE
theorem gA(w:World):PySem.W.Fast.tw13982799071139363503 jZ (tree0 w.params) (PySem.W.boot_heap w.params) w=fun _=>some true:=by kernel_rfl
theorem gD(w:World):PySem.W.Fast.tw623078461548941516 jZ vw (Ys (ZC (Yk Qq))) (tree0 w.params) (PySem.W.boot_heap w.params) w=PySem.W.Fast.tw3217824602066592014 vw:=by kernel_rfl
theorem gE(w:World):PySem.W.Fast.tw3195348454123514726 jZ vw (Ys (ZC (Yk Qq))) (tree0 w.params) (PySem.W.boot_heap w.params) w=PySem.W.Fast.tw15942839984431301418 vw:=by kernel_rfl
theorem gC(w:World):PySem.W.Fast.tw15021358527685504917 jZ (tree0 w.params) (PySem.W.boot_heap w.params) adrs w=fun _=>some ((frag w.params).map fun p=>some p.2):=by kernel_rfl
theorem left:PySem.W.LeftO jZ vw [] (fun s=>PySem.W.xlAt vw [] s&&PySem.W.recOk (Ys (ZC (Yk Qq))) s) (YW frag adrs adrs_eq).obs (YW frag adrs adrs_eq).val 16322:=
 TR.left (lo:=11) (an:=some (.ref 6)) (tr:=tree0) (PySem.W.boot_open (by kernel_rfl) (by decide) (fun s=>by kernel_rfl)) (fun P=>by kernel_rfl) (fun P=>by kernel_rfl) fun w=>funext fun os=>
  TR.three (congrFun ((congrFun (congrFun (congrFun (congrFun PySem.W.Fast.te13982799071139363503 _) _) _) w).trans (gA w)) os) (TR.pair (g:=sn jZ vw (Ys (ZC (Yk Qq)))) (b:=PySem.W.openGood vw []) (congrFun ((congrFun (congrFun (congrFun (congrFun (congrFun (congrFun PySem.W.Fast.te623078461548941516 _) _) _) _) _) w).trans ((gD w).trans (congrFun PySem.W.Fast.te3217824602066592014 _).symm)) os) (congrFun ((congrFun (congrFun (congrFun (congrFun (congrFun (congrFun PySem.W.Fast.te3195348454123514726 _) _) _) _) _) w).trans ((gE w).trans (congrFun PySem.W.Fast.te15942839984431301418 _).symm)) os)) (congrFun ((congrFun (congrFun (congrFun (congrFun (congrFun PySem.W.Fast.te15021358527685504917 _) _) _) _) w).trans (gC w)) os)
noncomputable def wsaid(l:PySem.W.OpenLaw):Bool:=PySem.W.OpenLaw.wellSaid l
lay_quick K24.wsaid
theorem ws:wsaid Qq=true:=(congrFun PySem.W.Fast.te9507700869321142901 _).trans (by kernel_rfl)
end K24
namespace L2
open PySem PySem.Spec PyProof.Rows
abbrev Key:=Sum Int Str
def pZ:Key->Value->Bool
 | .inl k,v=>Value.isInt k v
 | .inr x,v=>Value.isStrOf x v
def HZ(w:World):Key->Int
 | .inl k=>hashInt k
 | .inr x=>hashStr w x
theorem bR:∀ {k:Key} {v:Value},pZ k v=true->(∃i t,k=Sum.inl i/\v=Value.int i t)\/(∃x t,k=Sum.inr x/\v=YY x t)
 | .inl i,v,h=>by
  obtain⟨t,e⟩:=Value.isInt_shape (k:=i) (v:=v) h;exact .inl ⟨i,t,rfl,e⟩
 | .inr x,v,h=>by
  obtain⟨t,e⟩:=Value.isStrOf_shape (x:=x) (v:=v) h;exact .inr ⟨x,t,rfl,e⟩
theorem yJ(i:Int)(t:Tok):pZ (.inl i) (.int i t)=true:=by simp[pZ,Value.isInt]
theorem xV(x:Str)(t:Tok):pZ (.inr x) (.str x t)=true:=by simp[pZ,Value.isStrOf]
theorem FJ(a b:Int):decide ((Sum.inl a:Key)=Sum.inl b)=(a==b):=by
 by_cases e:a=b
 ·subst e;simp
 ·have h:¬ (Sum.inl a:Key)=Sum.inl b:=fun q=>e (Sum.inl.inj q)
  rw[decide_eq_false h];exact(beq_eq_false_iff_ne.mpr e).symm
theorem F_(a b:Str):decide ((Sum.inr a:Key)=Sum.inr b)=decide (a=b):=by
 by_cases e:a=b
 ·subst e;simp
 ·have h:¬ (Sum.inr a:Key)=Sum.inr b:=fun q=>e (Sum.inr.inj q)
  rw[decide_eq_false h,decide_eq_false e]
theorem Ei(a:Int)(b:Str):decide ((Sum.inl a:Key)=Sum.inr b)=false:=decide_eq_false (fun q=>nomatch q)
theorem En(a:Str)(b:Int):decide ((Sum.inr a:Key)=Sum.inl b)=false:=decide_eq_false (fun q=>nomatch q)
def bC(prog:Program)(w:World):PySem.KeyKind prog w Key where
 is:=pZ
 hash:=HZ w
 inj:=fun v a b ha hb=>by
  rcases bR ha with ⟨i,t,rfl,rfl⟩|⟨x,t,rfl,rfl⟩
  ·rcases bR hb with ⟨j,u,rfl,e⟩|⟨y,u,rfl,e⟩
   ·injection e with e1 _;rw[e1]
   ·exact nomatch e
  ·rcases bR hb with ⟨j,u,rfl,e⟩|⟨y,u,rfl,e⟩
   ·exact nomatch e
   ·injection e with e1 _;rw[e1]
 byValue:=fun k v h=>by
  rcases bR h with ⟨i,t,rfl,rfl⟩|⟨x,t,rfl,rfl⟩ <;> rfl
 pyHash:=fun hv h=>by
  rcases bR hv with ⟨i,t,rfl,rfl⟩|⟨x,t,rfl,rfl⟩
  ·exact wpAny_pyHash_int h
  ·exact wpAny_pyHash_str h
 eqBool:=fun hu hv h=>by
  rcases bR hu with ⟨i,t,rfl,rfl⟩|⟨x,t,rfl,rfl⟩
  ·rcases bR hv with ⟨j,u,rfl,rfl⟩|⟨y,u,rfl,rfl⟩
   ·rw[FJ]at h;exact wpAny_eqBool_int h
   ·rw[Ei]at h;exact SeqAt.EqAt.int_str i t y u _ _ _ _ h
  ·rcases bR hv with ⟨j,u,rfl,rfl⟩|⟨y,u,rfl,rfl⟩
   ·rw[En]at h;exact SeqAt.EqAt.str_int x t j u _ _ _ _ h
   ·rw[F_]at h;exact wpAny_eqBool_str h
 «strs»:=fun k x t v h=>by
  rcases bR h with ⟨i,u,rfl,e⟩|⟨y,u,rfl,e⟩
  ·exact nomatch e
  ·injection e with e1 _
   subst e1;cases v <;> rfl
theorem sV(prog:Program)(w:World)(i:Int)(t:Tok):(bC prog w).is (.inl i) (.int i t)=true:=yJ i t
theorem sB(prog:Program)(w:World)(x:Str)(t:Tok):(bC prog w).is (.inr x) (.str x t)=true:=xV x t
inductive V where
 |non|bl (b:Bool)|int (i:Int)|str (x:Str)|byt (b:Array UInt8)|flt (b:UInt64)|ref (a:Addr)|ty (n:String)
 deriving DecidableEq
def RelV:V->Value->Prop
 | .non,u=>u=Zc
 | .bl b,u=>u=YN b
 | .int i,u=>∃t,u=Value.int i t
 | .str x,u=>∃t,u=YY x t
 | .byt b,u=>∃t,u=Value.bytes b t
 | .flt b,u=>∃t,u=Value.float b t
 | .ref a,u=>u=yX a
 | .ty n,u=>u=Z2 n
abbrev Vals:List V->List Value->Prop:=Paired RelV
theorem Vals.length{xs:List V}{us:List Value}(r:Vals xs us):xs.length=us.length:=Paired.length r
theorem Vals.get:∀ {xs:List V} {us:List Value} {i:Nat} {x:V},Vals xs us->xs[i]? = some x->∃u,us[i]? = some u/\RelV x u
 |_,_,_,_,.nil,e=>by simp at e
 |_,_,0,_,.cons r _,e=>by simp at e;subst e;exact⟨_,rfl,r⟩
 |_,_,i+1,x,.cons _ t,e=>by
  obtain⟨u,h1,h2⟩:=Vals.get (i:=i) (x:=x) t (by simpa using e);exact⟨u,by simpa using h1,h2⟩
theorem Vals.set{x:V}{u:Value}(r:RelV x u):∀ {xs:List V} {us:List Value} (i:Nat),Vals xs us->Vals (xs.set i x) (us.set i u)
 |_,_,_,.nil=>.nil
 |_,_,0,.cons _ t=>.cons r t
 |_,_,i+1,.cons q t=>.cons q (Vals.set r i t)
theorem Vals.append:∀ {xs ys:List V} {us ws:List Value},Vals xs us->Vals ys ws->Vals (xs++ys) (us++ws)
 |_,_,_,_,.nil,s=>s
 |_,_,_,_,.cons r t,s=>.cons r (Vals.append t s)
theorem Vals.take:∀ {xs:List V} {us:List Value} (n:Nat),Vals xs us->Vals (xs.take n) (us.take n)
 |_,_,0,_=>.nil
 |_,_,_+1,.nil=>.nil
 |_,_,n+1,.cons r t=>.cons r (Vals.take n t)
theorem Vals.drop:∀ {xs:List V} {us:List Value} (n:Nat),Vals xs us->Vals (xs.drop n) (us.drop n)
 |_,_,0,r=>r
 |_,_,_+1,.nil=>.nil
 |_,_,n+1,.cons _ t=>Vals.drop n t
def RelO:Option V->Option Value->Prop
 |some v,some u=>RelV v u
 |none,none=>True
 |_,_=>False
def KV{κ:Type}:List (κ × V)->List (κ × Value)->Prop:=Paired fun(p:κ × V) (q:κ × Value)=>p.1=q.1/\RelV p.2 q.2
def kV:Key->V
 | .inl i=>.int i
 | .inr x=>.str x
inductive HO where
 |lst (xs:List V)
 |tup (xs:List V)
 |dK (kvs:List (Key × V))|dT (kvs:List (List Key × V))
 |set (S:Int->Bool) (n:Nat)
 |ins (C dx:Addr) (fs:List (Str × V))
 |own (x:Addr)
 |xd (fs:List (Str × V))
 |met (f x:Addr)
 |rng (lo hi:Int)
 |frz (o:Obj) (u:HO)
 |tbl (ps:Array Value)
 |ext (φ:Heap->Prop)
abbrev Hp:=Addr->Option HO
def upd(H:Hp)(a:Addr)(o:HO):Hp:=fun b=>if b=a then some o else H b
theorem ad:upd H a o a=some o:=by unfold upd;rw[if_pos rfl]
theorem ah(h:b≠a):upd H a o b=H b:=by unfold upd;rw[if_neg h]
theorem j8:upd (upd H a o) a u=upd H a u:=by
 funext b;unfold upd;split <;> rfl
theorem Gw{H:Hp}{a b:Addr}{o u:HO}(h:H a=some o)(h':H b=some u)(d:o≠u):a≠b:=by
 intro e;subst e;rw[h]at h';exact d (uF h')
theorem aC{H:Hp}{a b:Addr}{o:HO}(h:H a=some o)(h':H b=none):a≠b:=by
 intro e;subst e;rw[h]at h';cases h'
section
variable(P:Program)(w:World)
def ObjOk(H:Hp)(h:Heap)(a:Addr):HO->Prop
 | .lst xs=>xs.length<=sizeLine/\∃(its:List Value) (n:Nat),Vals xs its/\h.get? a=some { cls:=.type "list",data:=.seq its.toArray n }
 | .tup xs=>xs.length<=sizeLine/\∃its:List Value,Vals xs its/\IsTup h a its.toArray
 | .dK kvs=>kvs.length<=sizeLine/\(a==ZW)=false/\∃vs,KV kvs vs/\h.DictOf (bC P w) a vs
 | .dT kvs=>kvs.length<=sizeLine/\(a==ZW)=false/\∃xs:List (List Key × Addr × Value),
  Paired (fun(p:List Key × V) (q:List Key × Addr × Value)=>p.1=q.1/\H q.2.1=some (.tup (p.1.map kV))/\RelV p.2 q.2.2) kvs xs /\
  ∃o es ep,h.get? a=some o/\o.ExactDict/\o.data = .dict es ep/\es.toList=xs.map (entryOfKey (tupleKind (bC P w)))/\(xs.map (·.1)).Nodup
 | .set S n=>h.SetOf (intKind P w) a S n
 | .ins C dx fs=>H dx=some (.own a)/\fs.length<=1000/\dx≠a/\h.get? a=some (ZE C dx) /\
  ∃mA,h.Ns1 dx mA/\(∀f,RelO (fs.lookup f) (mA f))/\PySem.Within mA (fs.map (·.1))
 | .own _=>∃o,h.get? a=some o
 | .xd fs=>∃mA,h.Ns1 a mA/\∀f,RelO (fs.lookup f) (mA f)
 | .rng lo hi=>∃t u v,h.get? a=some { cls:=.type "range",data:=.fields #[.int lo t,.int hi u,.int 1 v] }
 | .frz o u=>h.get? a=some o/\ObjOk H h a u
 | .tbl ps=>h.get? a=some { cls:=.none,data:=.fields ps }
 | .met f x=>h.get? a=some (PySem.W.methodObj (.ref f) (.ref x))
 | .ext φ=>φ h/\(∃o,h.get? a=some o)/\∀h1 h2:Heap,φ h1->(∀o,h1.get? a=some o->h2.get? a=some o)->φ h2
def HOk(H:Hp)(h:Heap):Prop:=∀a o,H a=some o->ObjOk P w H h a o
end
section
variable{P:Program}{w:World}{H H':Hp}{h h':Heap}{a:Addr}{o:HO}
theorem ObjOk.lt(x:ObjOk P w H h a o):a<h.objs.size:=by
 cases o with
 |lst xs=>obtain⟨_,_,_,_,e⟩:=x;exact y3 e
 |tup xs=>obtain⟨_,_,_,p⟩:=x;exact p.lt
 |dK kvs=>obtain⟨_,_,_,_,o,_,_,e,_⟩:=x;exact y3 e
 |dT kvs=>obtain⟨_,_,_,_,o,_,_,e,_⟩:=x;exact y3 e
 |set S n=>obtain⟨o,_,_,_,e,_⟩:=x;exact y3 e
 |ins C dx fs=>obtain⟨_,_,_,e,_⟩:=x;exact y3 e
 |own y=>obtain⟨_,e⟩:=x;exact y3 e
 |xd fs=>obtain⟨_,⟨_,_,_,e,_⟩,_⟩:=x;exact y3 e
 |rng lo hi=>obtain⟨_,_,_,e⟩:=x;exact y3 e
 |frz ob u=>obtain⟨e,_⟩:=x;exact y3 e
 |tbl ps=>exact y3 (show h.get? a=some _ from x)
 |met f y=>exact y3 (show h.get? a=some _ from x)
 |ext φ=>obtain⟨_,⟨_,e⟩,_⟩:=x;exact y3 e
theorem Paired.mapP{α β:Type}{F G:α->β->Prop}:∀ {l₁:List α} {l₂:List β},Paired F l₁ l₂->(∀a b,F a b->G a b)->Paired G l₁ l₂
 |_,_,.nil,_=>.nil
 |_,_,.cons r t,f=>.cons (f _ _ r) (Paired.mapP t f)
theorem ObjOk.stay(x:ObjOk P w H h a o)(k:∀b u,(b=a\/H b=some (.own a))->h.get? b=some u->h'.get? b=some u)
 (ho:∀b,H b=some (.own a)->H' b=some (.own a)) (ht:∀b xs,H b=some (.tup xs)->H' b=some (.tup xs)):ObjOk P w H' h' a o:=by
 induction o with
 |lst xs=>obtain⟨z,its,n,r,e⟩:=x;exact⟨z,its,n,r,k _ _ (.inl rfl) e⟩
 |tup xs=>obtain⟨z,its,r,ob,e,c⟩:=x;exact⟨z,its,r,ob,k _ _ (.inl rfl) e,c⟩
 |dK kvs=>obtain⟨z,y,vs,r,ob,es,ep,e,c⟩:=x;exact⟨z,y,vs,r,ob,es,ep,k _ _ (.inl rfl) e,c⟩
 |dT kvs=>
  obtain⟨z,y,xs,r,ob,es,ep,e,c⟩:=x;exact⟨z,y,xs,Paired.mapP r fun p q z=>⟨z.1,ht _ _ z.2.1,z.2.2⟩,ob,es,ep,k _ _ (.inl rfl) e,c⟩
 |set S n=>obtain⟨ob,es,ep,t,e,c⟩:=x;exact⟨ob,es,ep,t,k _ _ (.inl rfl) e,c⟩
 |ins C dx fs=>
  obtain⟨d,z,ne,e,mA,⟨od,es,ep,e2,c⟩,r⟩:=x;exact⟨ho _ d,z,ne,k _ _ (.inl rfl) e,mA,⟨od,es,ep,k _ _ (.inr d) e2,c⟩,r⟩
 |own y=>obtain⟨ob,e⟩:=x;exact⟨ob,k _ _ (.inl rfl) e⟩
 |xd fs=>obtain⟨mA,⟨od,es,ep,e,c⟩,r⟩:=x;exact⟨mA,⟨od,es,ep,k _ _ (.inl rfl) e,c⟩,r⟩
 |rng lo hi=>obtain⟨t,u,v,e⟩:=x;exact⟨t,u,v,k _ _ (.inl rfl) e⟩
 |frz ob u ih=>obtain⟨e,q⟩:=x;exact⟨k _ _ (.inl rfl) e,ih q⟩
 |tbl ps=>
  have e:h.get? a=some { cls:=.none,data:=.fields ps }:=x;show h'.get? a=some { cls:=.none,data:=.fields ps };exact k a _ (.inl rfl) e
 |met f y=>
  have e:h.get? a=some (PySem.W.methodObj (.ref f) (.ref y)):=x;show h'.get? a=some (PySem.W.methodObj (.ref f) (.ref y));exact k a _ (.inl rfl) e
 |ext φ=>obtain⟨p,⟨o,e⟩,st⟩:=x;exact⟨st _ _ p fun o q=>k _ _ (.inl rfl) q,⟨o,k _ _ (.inl rfl) e⟩,st⟩
theorem HOk.lt(x:HOk P w H h)(e:H a=some o):a<h.objs.size:=(x a o e).lt
theorem HOk.fresh(x:HOk P w H h)(e:h.objs.size<=a):H a=none:=by
 cases q:H a with
 |none=>rfl
 |some u=>exact absurd (ug (x.lt q) e) (ZZ _)
theorem HOk.kept(x:HOk P w H h)(k:∀b u,h.get? b=some u->h'.get? b=some u):HOk P w H h':=fun a o e=>
 (x a o e).stay (fun b u _ q=>k b u q) (fun _ q=>q) fun _ _ q=>q
theorem HOk.laid(x:HOk P w H h)(k:∀b u,h.get? b=some u->h'.get? b=some u)(hp:h.objs.size<=a)(new:ObjOk P w (upd H a o) h' a o):HOk P w (upd H a o) h':=fun b u e=>by
 have hn:=x.fresh hp;by_cases hb:b=a
 ·subst hb;rw[ad]at e;cases e;exact new
 ·rw[ah hb]at e
  exact(x b u e).stay (fun c v _ q=>k c v q) (fun c q=>by rw[ah (aC q hn)];exact q) fun c xs q=>by rw[ah (aC q hn)];exact q
end
def Rd(H:Hp)(a:Addr)(u:HO):Prop:=H a=some u\/∃o,H a=some (.frz o u)
theorem Rd.ok{P:Program}{w:World}{H:Hp}{h:Heap}{a:Addr}{u:HO}(r:Rd H a u)(x:HOk P w H h):ObjOk P w H h a u:=by
 rcases r with r|⟨o,r⟩
 ·exact x a u r
 ·obtain⟨_,q⟩:=x a _ r
  exact q
def Mut:Option HO->Prop
 |some (.lst _)=>True
 |some (.dK _)=>True
 |some (.dT _)=>True
 |some (.set _ _)=>True
 |some (.ins _ _ _)=>True
 |some (.ext _)=>True
 |_=>False
section
variable{P:Program}{w:World}{H:Hp}{h h':Heap}{x e:Addr}{o':HO}
theorem HOk.write(ok:HOk P w H h)(mu:Mut (H x))(he:e=x\/H e=some (.own x))(k:∀b u,b≠e->h.get? b=some u->h'.get? b=some u)(heo:∃u,h'.get? e=some u)
 (new:ObjOk P w (upd H x o') h' x o'):HOk P w (upd H x o') h':=fun b u q=>by
 have nown:∀c y,H c=some (.own y)->c≠x:=fun c y r z=>by subst z;rw[r]at mu;exact mu
 have ntup:∀c xs,H c=some (.tup xs)->c≠x:=fun c xs r z=>by subst z;rw[r]at mu;exact mu
 by_cases hb:b=x
 ·subst hb;rw[ad]at q;cases q;exact new
 ·rw[ah hb]at q
  by_cases hbe:b=e
  ·have q':H b=some (.own x):=by
    rcases he with z|z
    ·exact absurd (hbe.trans z) hb
    ·rw[hbe];exact z
   rw[q]at q';cases q';obtain⟨v,hv⟩:=heo;exact⟨v,by rw[hbe];exact hv⟩
  ·refine(ok b u q).stay (fun c v hc r=>k c v ?_ r) (fun c r=>by rw[ah (nown c b r)];exact r) fun c xs r=>by rw[ah (ntup c xs r)];exact r
   rcases hc with rfl|hc
   ·exact hbe
   ·rintro rfl
    rcases he with z|z
    ·exact nown c b hc z
    ·rw[hc]at z;cases z;exact hb rfl
end
structure Un(fs ex:List Addr)(H H':Hp)(h h':Heap):Prop where
 keep:∀b o,h.get? b=some o->H b=none->b∉fs->b∉ex->h'.get? b=some o
 slot:∀b o,h.get? b=some o->H b=none->b∈fs->b∉ex->∃sl,h'.get? b=some { o with slots:=sl }
 free:∀b o,h.get? b=some o->H b=none->b∉ex->H' b=none
 there:∀b o,h.get? b=some o->b∉ex->∃o',h'.get? b=some o'
 tups:∀b xs,H b=some (.tup xs)->H' b=some (.tup xs)
 frzs:∀b o u,H b=some (.frz o u)->H' b=some (.frz o u)
 tbls:∀b ps,H b=some (.tbl ps)->∃more,H' b=some (.tbl (ps++more))
section
variable{fs fs' ex ex':List Addr}{H H1 H2:Hp}{h h1 h2 h':Heap}{a x e:Addr}{o:HO}
theorem Un.any(u:Un fs ex H H1 h h1){b:Addr}{ob:Obj}(q:h.get? b=some ob)(n:H b=none)(hx:b∉ex):∃sl,h1.get? b=some { ob with slots:=sl }:=by
 by_cases hb:b∈fs
 ·exact u.slot b ob q n hb hx
 ·exact⟨ob.slots,u.keep b ob q n hb hx⟩
theorem Un.kept(k:∀b u,h.get? b=some u->h'.get? b=some u):Un fs ex H H h h':=
 ⟨fun b ob q _ _ _=>k b ob q,fun b ob q _ _ _=>⟨ob.slots,k b ob q⟩,fun _ _ _ n _=>n,fun b ob q _=>⟨ob,k b ob q⟩,fun _ _ q=>q,fun _ _ _ q=>q,fun _ ps q=>⟨#[],by rw[q];simp⟩⟩
theorem Un.refl:Un fs ex H H h h:=Un.kept fun _ _ q=>q
theorem Un.laid(k:∀b u,h.get? b=some u->h'.get? b=some u)(hp:h.objs.size<=a)(hn:H a=none):Un fs ex H (upd H a o) h h' where
 keep:=fun b u q _ _ _=>k b u q
 slot:=fun b u q _ _ _=>⟨u.slots,k b u q⟩
 free:=fun b u q n _=>by rw[ah (ui (ug (y3 q) hp))];exact n
 there:=fun b u q _=>⟨u,k b u q⟩
 tups:=fun b xs q=>by rw[ah (aC q hn)];exact q
 frzs:=fun b u xs q=>by rw[ah (aC q hn)];exact q
 tbls:=fun b ps q=>⟨#[],by rw[ah (aC q hn),q];simp⟩
theorem Un.write(mu:Mut (H x))(he:e=x\/H e=some (.own x))(k:∀b u,b≠e->h.get? b=some u->h'.get? b=some u)(heo:∃u,h'.get? e=some u):Un fs ex H (upd H x o) h h':=by
 have hx:∀b,H b=none->b≠x:=fun b n z=>by subst z;rw[n]at mu;exact mu
 have hb:∀b,H b=none->b≠e:=fun b n z=>by
  subst z;rcases he with r|r
  ·exact hx b n r
  ·rw[n]at r;cases r
 have hm:∀b u,H b=some u -> ¬ Mut (some u)->b≠x:=fun b u q nm z=>by subst z;rw[q]at mu;exact nm mu
 refine⟨fun b u q n _ _=>k b u (hb b n) q,fun b u q n _ _=>⟨u.slots,k b u (hb b n) q⟩,fun b u q n _=>by rw[ah (hx b n)];exact n,fun b u q _=>?_,
  fun b xs q=>by rw[ah (hm b _ q fun z=>z)];exact q,fun b u xs q=>by rw[ah (hm b _ q fun z=>z)];exact q,fun b ps q=>⟨#[],by rw[ah (hm b _ q fun z=>z),q];simp⟩⟩
 by_cases hbe:b=e
 ·subst hbe;exact heo
 ·exact⟨u,k b u hbe q⟩
end
def trk(h:Heap)(H:Hp):List Addr:=(Zi h.objs.size).filter fun a=>(H a).isSome
def qk(h:Heap)(H:Hp):Heap:=PySem.W.hideAll h (trk h H)
theorem xI(h:Heap)(H:Hp):(qk h H).objs.size=h.objs.size:=PySem.W.hideAll_size _ _
theorem y6{h:Heap}(e:h.get? b=some o)(n:H b=none):(qk h H).get? b=some o:=
 PySem.W.hideAll_get _ e fun hm=>by
  have q:(H b).isSome=true:=(qh.mp hm).2;rw[n]at q;simp at q
theorem Dm{h:Heap}(e:(qk h H).get? b=some o):h.get? b=some o/\H b=none:=by
 have e':h.get? b=some o:=PySem.W.of_hideAll (trk h H) e;refine⟨e',?_⟩;cases q:H b with
 |none=>rfl
 |some x=>
  have hm:b∈trk h H:=qh.mpr ⟨List.mem_range.mpr (y3 e'),by simp[q]⟩;have z:(qk h H).get? b=none:=PySem.W.hideAll_none (trk h H) hm;rw[z]at e;cases e
def Cy(g h:Heap)(L:Addr):List (Addr × Obj):=(Zi h.objs.size).filterMap fun a=>if a=L\/(g.get? a).isSome=true then none else (h.get? a).map fun o=>(a,o)
def rest(g h:Heap)(L d:Addr):List (Addr × Obj):=(Cy g h L).filter fun p=>decide (p.1≠d)
structure Mod(K:W.Frag)(mg:Str->Option Value)(base:Heap):Prop where
 kin:K.In base
 glob:base.Ns Zb mg
 blt:∃mb,base.Ns builtinsNs mb/\∀x:Str,x ≠ "__name__" -> mb x=rF x
 nolimit:base.NoLimit
structure Cx where
 prog:Program
 w:World
 K:W.Frag
 mg:Str->Option Value
 base:Heap
 A:Around
 N:List Str
 s₀:Shared
 H₀:Hp
 env:Env
 outer:List Env
 stack:List Env
 ex:List Addr
 fn:Str->Bool
 calm:Bool
 pn:List (Addr × Obj)
 xe:Value->Shared->Prop
def frs(l:List Env):List Addr:=l.filterMap (·.frame)
abbrev Cx.fs(X:Cx):List Addr:=frs X.outer
def Vis(sc:Scope)(x:Str):Prop:=sc.names.lookup x=some .local\/sc.names.lookup x=some .cell\/sc.names.lookup x=some .free
def Loc(sc:Scope)(x:Str):Prop:=sc.names.lookup x=some .local\/sc.names.lookup x=some .cell
def Ie(env:Env)(h:Heap)(m:Str->Option Value)(x:Str)(u:Value):Prop:=
 (env.kindOf x=some .local/\m x=some u)\/((env.kindOf x=some .cell\/env.kindOf x=some .free)/\∃c,env.cells.lookup x=some c/\h.IsCell c (some u))
structure Cx.Ok(X:Cx):Prop where
 mod:Mod X.K X.mg X.base
 kind:X.env.scope.kind = .function
 glob:X.env.globals=Zb
 blt:X.env.builtins=builtinsNs
 above:X.s₀.heap.objs.size<=X.env.locals
 inj:∀x y c,X.env.cells.lookup x=some c->X.env.cells.lookup y=some c->x=y
 has:∀x,(X.env.kindOf x=some .cell\/X.env.kindOf x=some .free)->∃c,X.env.cells.lookup x=some c
 cab:∀x c,X.fn x=true->X.env.cells.lookup x=some c->X.s₀.heap.objs.size<=c
 hd:X.calm=true->X.A.handled=none
 frames:X.A.frames=some X.stack
 stk:X.stack=X.outer\/(X.stack=X.env::X.outer/\X.env.frame=some X.env.locals)
 exf:∀b∈X.ex,b≠X.env.locals/\∀x c,X.env.cells.lookup x=some c->c≠b
 bs:∀b o,X.base.get? b=some o->X.s₀.heap.get? b=some o/\X.H₀ b=none
 bsz:X.base.objs.size<=X.s₀.heap.objs.size
 noex:∀b o,X.base.get? b=some o->b∉X.ex
 exfs:∀b∈X.ex,b∉X.fs
 funs:X.s₀.heap.FunFrames X.base X.outer
 frf:∀b∈X.fs,X.H₀ b=none
structure Inv(X:Cx)(pins:List (Addr × Obj))(σ:List (Option V))(H:Hp)(s:Shared):Prop where
 ok:X.Ok
 os:s.os=X.s₀.os
 bare:AllBare s.gens
 base:Un X.fs X.ex X.H₀ H X.s₀.heap s.heap
 loc:∃m,s.heap.Ns X.env.locals m/\∀(i:Nat) (x:Str) (v:V),X.N[i]? = some x->σ[i]? = some (some v)->Vis X.env.scope x->∃u,RelV v u/\Ie X.env s.heap m x u
 cell:∀x c,X.env.cells.lookup x=some c->∃v,s.heap.IsCell c v
 free:H X.env.locals=none
 freeC:∀x c,X.env.cells.lookup x=some c->H c=none
 pin:∀p∈X.pn++pins,s.heap.get? p.1=some p.2/\H p.1=none/\p.1≠X.env.locals/\p.1∉X.fs/\∀v,p.2.data ≠ .cell v
 hok:HOk X.prog X.w H s.heap
 len:σ.length=X.N.length
section
variable{X:Cx}{pins:List (Addr × Obj)}{σ:List (Option V)}{H H':Hp}{s:Shared}{h':Heap}
theorem Cx.Ok.nofr(ok:X.Ok)(e:X.base.get? b=some o):b∉X.fs:=fun hb=>by
 have:=(ok.funs.mem hb).1;rw[e]at this;cases this
theorem Inv.bs(I:Inv X pins σ H s):∀b o,X.base.get? b=some o->s.heap.get? b=some o/\H b=none:=fun b o e=>
 ⟨I.base.keep b o (I.ok.bs b o e).1 (I.ok.bs b o e).2 (I.ok.nofr e) (I.ok.noex b o e),I.base.free b o (I.ok.bs b o e).1 (I.ok.bs b o e).2 (I.ok.noex b o e)⟩
theorem Inv.bk(I:Inv X pins σ H s):∀b o,X.base.get? b=some o->s.heap.get? b=some o:=fun b o e=>(I.bs b o e).1
theorem Inv.mod(I:Inv X pins σ H s):Mod X.K X.mg X.base:=I.ok.mod
theorem Inv.kIn(I:Inv X pins σ H s):X.K.In s.heap:=I.ok.mod.kin.keeps I.bk
theorem Inv.lt(I:Inv X pins σ H s):X.env.locals<s.heap.objs.size:=let ⟨_,hn,_⟩:=I.loc;hn.lt
theorem Inv.sz(I:Inv X pins σ H s):X.s₀.heap.objs.size<=s.heap.objs.size:=xx I.ok.above (Yw I.lt)
theorem Inv.nofs(I:Inv X pins σ H s)(h:s.heap.objs.size<=a):a∉X.fs:=fun hb=>by
 obtain⟨_,o,ho,_⟩:=I.ok.funs.mem hb;exact absurd (ug (y3 ho) (xx I.sz h)) (ZZ _)
theorem Inv.cne(I:Inv X pins σ H s):∀x c,X.env.cells.lookup x=some c->c≠X.env.locals:=fun x c e z=>by
 obtain⟨v,o,ho,hd⟩:=I.cell x c e;obtain⟨m,⟨o',es,ep,ho',hd',_⟩,_⟩:=I.loc;rw[z,ho']at ho;cases ho;rw[hd']at hd;cases hd
theorem Inv.funs(I:Inv X pins σ H s):s.heap.FunFrames X.base X.outer:=by
 have all:∀(l:List Env),(∀b∈frs l,b∈X.fs)->X.s₀.heap.FunFrames X.base l->s.heap.FunFrames X.base l:=by
  intro l
  induction l with
  |nil=>intro _ _;trivial
  |cons env r ih=>
   intro hs hl;obtain⟨hk,⟨L,o,hf,hn,ho,hd⟩,hr⟩:=hl;have hL:L∈X.fs:=hs L (by unfold frs;rw[Yj,hf];exact Z6);obtain⟨sl,e⟩:=I.base.slot L o ho (I.ok.frf L hL) hL fun z=>I.ok.exfs L z hL;exact⟨hk,⟨L,_,hf,hn,e,hd⟩,ih (fun b hb=>hs b (by unfold frs;rw[Yj,hf];exact xC _ hb)) hr⟩
 exact all X.outer (fun _ hb=>hb) I.ok.funs
theorem Inv.stack(I:Inv X pins σ H s):s.heap.FunFrames X.base X.stack:=by
 rcases I.ok.stk with e|⟨e,hf⟩
 ·rw[e];exact I.funs
 ·rw[e]
  obtain⟨m,hn,_⟩:=I.loc;refine .cons (by rw[I.ok.kind];decide) hf hn ?_ I.funs;exact Heap.get?_none_of_le (xx I.ok.bsz I.ok.above)
theorem Inv.stkSub(I:Inv X pins σ H s):∀b∈frs X.stack,b∈X.env.locals::X.fs:=fun b hb=>by
 rcases I.ok.stk with e|⟨e,hf⟩
 ·rw[e]at hb;exact xC _ hb
 ·rw[e]at hb
  unfold frs at hb;rw[Yj,hf]at hb;exact hb
theorem Inv.stkFree(I:Inv X pins σ H s):∀b∈frs X.stack,H b=none:=fun b hb=>by
 rcases z6.mp (I.stkSub b hb) with e|hb
 ·rw[e];exact I.free
 ·obtain⟨_,o,ho,_⟩:=I.ok.funs.mem hb
  exact I.base.free b o ho (I.ok.frf b hb) fun z=>I.ok.exfs b z hb
theorem Inv.step{g':Array GenState}{t':Nat}{d':Drawn}{ch:List Addr}(I:Inv X pins σ H s)
 (hch:∀b∈ch,(b∈X.ex\/X.s₀.heap.objs.size<=b)/\b≠X.env.locals/\(∀x c,X.env.cells.lookup x=some c->c≠b)/\∀p∈X.pn++pins,p.1≠b)
 (keep:∀b o,b≠X.env.locals->b∉X.fs->b∉ch->s.heap.get? b=some o->H b=none->h'.get? b=some o)
 (slot:∀b o,b≠X.env.locals->b∈X.fs->b∉ch->s.heap.get? b=some o->H b=none->∃sl,h'.get? b=some { o with slots:=sl }) (free:∀b o,b∉ch->s.heap.get? b=some o->H b=none->H' b=none)
 (there:∀b o,b∉ch->s.heap.get? b=some o->∃o',h'.get? b=some o')
 (tups:∀b xs,H b=some (.tup xs)->H' b=some (.tup xs)) (frzs:∀b o u,H b=some (.frz o u)->H' b=some (.frz o u)) (tbls:∀b ps,H b=some (.tbl ps)->∃more,H' b=some (.tbl (ps++more)))
 (ns:∀m,s.heap.Ns X.env.locals m->h'.Ns X.env.locals m) (hok:HOk X.prog X.w H' h') (hg:AllBare g') :
 Inv X pins σ H' { s with heap:=h',gens:=g',drawn:=d',toks:=t' }:=by
 have neL:∀b o,X.s₀.heap.get? b=some o->b≠X.env.locals:=fun b o e=>ui (ug (y3 e) I.ok.above);have neC:∀b o,X.s₀.heap.get? b=some o->b∉X.ex->b∉ch:=fun b o e hx hb=>by
  rcases(hch b hb).1 with z|z
  ·exact hx z
  ·exact absurd (ug (y3 e) z) (ZZ _)
 have cellK:∀x c,X.env.cells.lookup x=some c->∀v,s.heap.IsCell c v->h'.IsCell c v:=fun x c e v ⟨o,ho,hd⟩=>by
  have nch:c∉ch:=fun z=>(hch c z).2.2.1 x c e rfl;by_cases hc:c∈X.fs
  ·obtain⟨sl,q⟩:=slot c o (I.cne x c e) hc nch ho (I.freeC x c e)
   exact⟨_,q,hd⟩
  ·exact⟨o,keep c o (I.cne x c e) hc nch ho (I.freeC x c e),hd⟩
 refine⟨I.ok,I.os,hg,⟨fun b o e n hb hx=>?_,fun b o e n hb hx=>?_,fun b o e n hx=>?_,fun b o e hx=>?_,fun b xs e=>tups b xs (I.base.tups b xs e),fun b o xs e=>frzs b o xs (I.base.frzs b o xs e),fun b ps e=>?_⟩,?_,fun x c e=>?_,?_,fun x c e=>?_,fun p hp=>?_,hok,I.len⟩
 ·exact keep b o (neL b o e) hb (neC b o e hx) (I.base.keep b o e n hb hx) (I.base.free b o e n hx)
 ·obtain⟨sl,e1⟩:=I.base.slot b o e n hb hx
  obtain⟨sl',e2⟩:=slot b _ (neL b o e) hb (neC b o e hx) e1 (I.base.free b o e n hx);exact⟨sl',e2⟩
 ·obtain⟨o',e1⟩:=I.base.there b o e hx
  exact free b o' (neC b o e hx) e1 (I.base.free b o e n hx)
 ·obtain⟨o',e1⟩:=I.base.there b o e hx
  exact there b o' (neC b o e hx) e1
 ·obtain⟨m1,e1⟩:=I.base.tbls b ps e
  obtain⟨m2,e2⟩:=tbls b _ e1;exact⟨m1++m2,by rw[e2,Array.append_assoc]⟩
 ·obtain⟨m,hn,hl⟩:=I.loc
  refine⟨m,ns m hn,fun i x v e1 e2 e3=>?_⟩;obtain⟨u,r,l⟩:=hl i x v e1 e2 e3;refine⟨u,r,?_⟩;rcases l with l|⟨k,c,e,z⟩
  ·exact .inl l
  ·exact .inr ⟨k,c,e,cellK x c e _ z⟩
 ·obtain⟨v,z⟩:=I.cell x c e
  exact⟨v,cellK x c e v z⟩
 ·obtain⟨m,⟨o,_,_,ho,_⟩,_⟩:=I.loc
  exact free _ o (fun z=>(hch _ z).2.1 rfl) ho I.free
 ·obtain⟨v,o,ho,hd⟩:=I.cell x c e
  exact free c o (fun z=>(hch c z).2.2.1 x c e rfl) ho (I.freeC x c e)
 ·obtain⟨e,n,ne,nf,d⟩:=I.pin p hp
  have nch:p.1∉ch:=fun z=>(hch p.1 z).2.2.2 p hp rfl;exact⟨keep p.1 p.2 ne nf nch e n,free p.1 p.2 nch e n,ne,nf,d⟩
theorem Inv.un{t':Nat}(I:Inv X pins σ H s)(u:Un X.fs [] H H' s.heap h')(hok:HOk X.prog X.w H' h'):Inv X pins σ H' { s with heap:=h',toks:=t' }:=by
 obtain⟨m,⟨o,es,ep,ho,r⟩,_⟩:=id I.loc;obtain⟨sl,hL⟩:=u.any ho I.free (by simp);exact I.step (g':=s.gens) (d':=s.drawn) (ch:=[]) (fun _ z=>nomatch z) (fun b o _ hb _ e n=>u.keep b o e n hb (by simp)) (fun b o _ hb _ e n=>u.slot b o e n hb (by simp)) (fun b o _ e n=>u.free b o e n (by simp)) (fun b o _ e=>u.there b o e (by simp)) u.tups u.frzs u.tbls (fun m' hm=>by
  obtain⟨o',es',ep',ho',r'⟩:=hm;rw[ho]at ho';cases ho';exact⟨_,es',ep',hL,r'⟩) hok I.bare
theorem Inv.call{g':Array GenState}{t':Nat}{d':Drawn}{ch:List Addr}(I:Inv X pins σ H s)(u:Un (frs X.stack) ch H H' s.heap h')(hok:HOk X.prog X.w H' h')(hg:AllBare g')
 (hch:∀b∈ch,(b∈X.ex\/X.s₀.heap.objs.size<=b)/\b≠X.env.locals/\(∀x c,X.env.cells.lookup x=some c->c≠b)/\∀p∈X.pn++pins,p.1≠b) :
 Inv X pins σ H' { s with heap:=h',gens:=g',drawn:=d',toks:=t' }:=by
 obtain⟨m,⟨o,es,ep,ho,r⟩,_⟩:=id I.loc;obtain⟨sl,hL⟩:=u.any ho I.free fun z=>(hch _ z).2.1 rfl;exact I.step (ch:=ch) hch (fun b o hL hb hc e n=>u.keep b o e n (fun z=>(z6.mp (I.stkSub b z)).elim hL hb) hc) (fun b o _ _ hc e n=>u.any e n hc) (fun b o hc e n=>u.free b o e n hc) (fun b o hc e=>u.there b o e hc) u.tups u.frzs u.tbls (fun m' hm=>by
  obtain⟨o',es',ep',ho',r'⟩:=hm;rw[ho]at ho';cases ho';exact⟨_,es',ep',hL,r'⟩) hok hg
theorem Inv.turned{t':Nat}{it:Addr}(I:Inv X pins σ H s)(k:∀b o,b≠it->s.heap.get? b=some o->h'.get? b=some o)(hn:H it=none)(hL:it≠X.env.locals)
 (h1:it∈X.ex\/X.s₀.heap.objs.size<=it) (h2:∀x c,X.env.cells.lookup x=some c->c≠it) (h3:∀p∈X.pn++pins,p.1≠it):Inv X pins σ H { s with heap:=h',toks:=t' }:=by
 have nit:∀b u,H b=some u->b≠it:=fun b u e z=>by rw[z,hn]at e;cases e
 refine I.step (g':=s.gens) (d':=s.drawn) (ch:=[it]) (fun b hb=>?_) (fun b o _ _ hc e _=>k b o (fun z=>hc (by simp[z])) e) (fun b o _ _ hc e _=>⟨o.slots,k b o (fun z=>hc (by simp[z])) e⟩) (fun _ _ _ _ n=>n)
  (fun b o hc e=>⟨o,k b o (fun z=>hc (by simp[z])) e⟩) (fun _ _ e=>e) (fun _ _ _ e=>e) (fun b ps e=>⟨#[],by rw[e];simp⟩) (fun m hm=>?_) (fun b u e=>?_) I.bare
 ·have e:b=it:=by simpa using hb
  subst e;exact⟨h1,hL,h2,h3⟩
 ·obtain⟨o,es,ep,ho,r⟩:=hm
  exact⟨o,es,ep,k _ o (Ne.symm hL) ho,r⟩
 ·refine(I.hok b u e).stay (fun c v hc q=>k c v ?_ q) (fun _ q=>q) fun _ _ q=>q
  rcases hc with z|z
  ·rw[z];exact nit b u e
  ·exact nit c _ z
theorem Inv.tok(I:Inv X pins σ H s)(t:Nat):Inv X pins σ H { s with toks:=t }:=I.un (h':=s.heap) (t':=t) Un.refl I.hok
theorem Inv.kept{t':Nat}(I:Inv X pins σ H s)(k:∀b u,s.heap.get? b=some u->h'.get? b=some u):Inv X pins σ H { s with heap:=h',toks:=t' }:=I.un (Un.kept k) (I.hok.kept k)
theorem Inv.laid{a:Addr}{o:HO}{t':Nat}(I:Inv X pins σ H s)(k:∀b u,s.heap.get? b=some u->h'.get? b=some u)(hp:s.heap.objs.size<=a)(new:ObjOk X.prog X.w (upd H a o) h' a o) :
 Inv X pins σ (upd H a o) { s with heap:=h',toks:=t' }:=I.un (Un.laid k hp (I.hok.fresh hp)) (I.hok.laid k hp new)
theorem Inv.write(I:Inv X pins σ H s)(mu:Mut (H x))(he:e=x\/H e=some (.own x))(k:∀b u,b≠e->s.heap.get? b=some u->h'.get? b=some u)(heo:∃u,h'.get? e=some u)
 (new:ObjOk X.prog X.w (upd H x o) h' x o):Inv X pins σ (upd H x o) { s with heap:=h',toks:=t' }:=I.un (Un.write mu he k heo) (I.hok.write mu he k heo new)
theorem Inv.pins_of(I:Inv X pins σ H s)(h:∀p∈pins',s.heap.get? p.1=some p.2/\H p.1=none/\p.1≠X.env.locals/\p.1∉X.fs/\∀v,p.2.data ≠ .cell v):Inv X pins' σ H s:=
 ⟨I.ok,I.os,I.bare,I.base,I.loc,I.cell,I.free,I.freeC,fun p hp=>(yI.mp hp).elim (fun z=>I.pin p (vJ _ z)) (h p),I.hok,I.len⟩
theorem tW{N:List Str}(hN:N.Nodup){i j:Nat}{x:Str}(a:N[i]? = some x)(b:N[j]? = some x):i=j:=by
 obtain⟨h1,e1⟩:=List.getElem?_eq_some_iff.mp a;obtain⟨h2,e2⟩:=List.getElem?_eq_some_iff.mp b;exact(List.getElem_inj hN).mp (e1.trans e2.symm)
theorem o9{M:Model}{A:Around}{E:Value->Shared->Prop}{i:Nat}{x:Str}{v:V}{u:Value}{Q:Unit->Shared->Prop}(I:Inv X pins σ H s)(hN:X.N.Nodup)(hi:X.N[i]? = some x)(hx:Loc X.env.scope x)(r:RelV v u)
 (h:∀s',Inv X pins (σ.set i (some v)) H s'->(∃a,Heap.SameBut a s.heap s'.heap/\(a=X.env.locals\/X.env.cells.lookup x=some a))->Q () s') (hf:X.fn x=true\/X.env.scope.names.lookup x=some .local:=by first|exact .inl rfl|exact .inr rfl|assumption):wpAny M A (storeName X.env x u) Q E s:=by
 obtain⟨m,hn,hl⟩:=id I.loc;have hcls:(X.env.scope.kind == .class || (X.env.scope.kind == .module&&X.env.locals != X.env.globals))=false:=by rw[I.ok.kind];rfl
 have hiσ:i<σ.length:=by rw[I.len];exact(List.getElem?_eq_some_iff.mp hi).1
 have cne:=I.cne;have tracked:∀ {a:Addr} {h':Heap},(∃o,s.heap.get? a=some o/\H a=none)->Heap.SameBut a s.heap h'->HOk X.prog X.w H h':=fun {a h'} ha hs b ob e=>by
  obtain⟨_,_,hfree⟩:=ha;refine(I.hok b ob e).stay (fun c w' hc q=>(hs.2 c ?_).trans q) (fun _ q=>q) fun _ _ q=>q;rintro rfl;rcases hc with rfl|hc
  ·rw[hfree]at e;cases e
  ·rw[hfree]at hc;cases hc
 rcases hx with hk|hk
 ·refine wpAny_storeName_local hk hn (fun h' hn' hs=>?_) hcls
  obtain⟨oL,_,_,hoL,_⟩:=id hn;refine h _ ⟨I.ok,I.os,I.bare,⟨fun b o e n hb hx=>?_,fun b o e n hb hx=>?_,I.base.free,fun b o e hx=>?_,I.base.tups,I.base.frzs,I.base.tbls⟩,⟨_,hn',fun j y v' e1 e2 e3=>?_⟩,fun y c e=>?_,I.free,I.freeC,fun p hp=>?_,tracked ⟨oL,hoL,I.free⟩ hs,by simpa using I.len⟩ ⟨_,hs,.inl rfl⟩
  ·exact(hs.2 b (ui (ug (y3 e) I.ok.above))).trans (I.base.keep b o e n hb hx)
  ·obtain⟨sl,e1⟩:=I.base.slot b o e n hb hx
   exact⟨sl,(hs.2 b (ui (ug (y3 e) I.ok.above))).trans e1⟩
  ·obtain⟨o',e1⟩:=I.base.there b o e hx
   exact⟨o',(hs.2 b (ui (ug (y3 e) I.ok.above))).trans e1⟩
  ·by_cases hj:j=i
   ·subst hj
    rw[hi]at e1;cases e1;rw[List.getElem?_set_self hiσ]at e2;cases e2;exact⟨u,r,.inl ⟨hk,by simp⟩⟩
   ·rw[List.getElem?_set_ne (Ne.symm hj)]at e2
    obtain⟨u',r',q⟩:=hl j y v' e1 e2 e3;refine⟨u',r',?_⟩;rcases q with ⟨k,e⟩|⟨k,c,e,z⟩
    ·refine .inl ⟨k,?_⟩
     have:y≠x:=fun e=>hj (tW hN e1 (e ▸ hi));simp[this,e]
    ·exact .inr ⟨k,c,e,z.sameBut hs (cne y c e)⟩
  ·obtain⟨w',z⟩:=I.cell y c e
   exact⟨w',z.sameBut hs (cne y c e)⟩
  ·obtain⟨e,n,ne,nf,d⟩:=I.pin p hp
   exact⟨(hs.2 p.1 ne).trans e,n,ne,nf,d⟩
 ·have hfn:X.fn x=true:=by
   rcases hf with z|z
   ·exact z
   ·rw[z]at hk;cases hk
  obtain⟨c,hc⟩:=I.ok.has x (.inl hk);obtain⟨w',z⟩:=I.cell x c hc;refine wpAny_storeName_cell I.ok.kind hk hc z (fun h' hc' hs=>?_);obtain⟨oc,hoc,hocd⟩:=id z;refine h { s with heap:=h' } ⟨I.ok,I.os,I.bare,⟨fun b o e n hb hx=>?_,fun b o e n hb hx=>?_,I.base.free,fun b o e hx=>?_,I.base.tups,I.base.frzs,I.base.tbls⟩,⟨m,hn.sameBut hs (Ne.symm (cne x c hc)),fun j y v' e1 e2 e3=>?_⟩,fun y c' e=>?_,I.free,I.freeC,fun p hp=>?_,tracked ⟨oc,hoc,I.freeC x c hc⟩ hs,by simpa using I.len⟩ ⟨c,hs,.inr hc⟩
  ·exact(hs.2 b (ui (ug (y3 e) (I.ok.cab x c hfn hc)))).trans (I.base.keep b o e n hb hx)
  ·obtain⟨sl,e1⟩:=I.base.slot b o e n hb hx
   exact⟨sl,(hs.2 b (ui (ug (y3 e) (I.ok.cab x c hfn hc)))).trans e1⟩
  ·obtain⟨o',e1⟩:=I.base.there b o e hx
   exact⟨o',(hs.2 b (ui (ug (y3 e) (I.ok.cab x c hfn hc)))).trans e1⟩
  ·by_cases hj:j=i
   ·subst hj
    rw[hi]at e1;cases e1;rw[List.getElem?_set_self hiσ]at e2;cases e2;exact⟨u,r,.inr ⟨.inl hk,c,hc,hc'⟩⟩
   ·rw[List.getElem?_set_ne (Ne.symm hj)]at e2
    obtain⟨u',r',q⟩:=hl j y v' e1 e2 e3;refine⟨u',r',?_⟩;rcases q with q|⟨k,c',e,z'⟩
    ·exact .inl q
    ·refine .inr ⟨k,c',e,z'.sameBut hs ?_⟩
     rintro rfl;exact hj (tW hN e1 (I.ok.inj _ _ _ e hc ▸ hi))
  ·by_cases hcc:c'=c
   ·subst hcc;exact⟨_,hc'⟩
   ·obtain⟨w2,z2⟩:=I.cell y c' e
    exact⟨w2,z2.sameBut hs hcc⟩
  ·obtain⟨e,n,ne,nf,d⟩:=I.pin p hp
   refine⟨(hs.2 p.1 ?_).trans e,n,ne,nf,d⟩;intro q;rw[q,hoc]at e;have q':oc=p.2:=uF e;exact d w' (by rw[<- q'];exact hocd)
theorem sD{M:Model}{A:Around}{E:Value->Shared->Prop}{i:Nat}{x:Str}{v:V}{u:Value}{Q:Unit->Shared->Prop}(I:Inv X pins σ H s)(hN:X.N.Nodup)(hi:X.N[i]? = some x)(hx:Loc X.env.scope x)(r:RelV v u)
 (h:∀s',Inv X pins (σ.set i (some v)) H s'->Q () s') (hf:X.fn x=true\/X.env.scope.names.lookup x=some .local:=by first|exact .inl rfl|exact .inr rfl|assumption):wpAny M A (storeName X.env x u) Q E s:=
 o9 I hN hi hx r (fun s' I' _=>h s' I') hf
theorem Inv.call'{s':Shared}(I:Inv X pins σ H s)(ho:s'.os=s.os)(u:Un (frs X.stack) ch H H' s.heap s'.heap)(hok:HOk X.prog X.w H' s'.heap)(hg:AllBare s'.gens)
 (hch:∀b∈ch,(b∈X.ex\/X.s₀.heap.objs.size<=b)/\b≠X.env.locals/\(∀x c,X.env.cells.lookup x=some c->c≠b)/\∀p∈X.pn++pins,p.1≠b):Inv X pins σ H' s':=by
 obtain⟨h',g',d',t',o'⟩:=s';have e:o'=s.os:=ho;subst e;exact I.call (g':=g') (t':=t') (d':=d') u hok hg hch
end
abbrev XK:=Value->Option Addr->Hp->Prop
abbrev St:=List (Option V)
abbrev VK:=V->Hp->Prop
abbrev TE:=St->Hp->VK->Prop
abbrev TT:=St->Hp->(Bool->Hp->Prop)->Prop
abbrev TA:=St->Hp->(List V->Hp->Prop)->Prop
structure fF where
 nx:St->Hp->Prop
 rt:VK
 bk:St->Hp->Prop:=fun _ _=>False
 ct:St->Hp->Prop:=fun _ _=>False
abbrev TS:=fF->St->Hp->Prop
def EP(X:Cx)(pins:List (Addr × Obj))(σ:St)(Q:VK)(u:Value)(s':Shared):Prop:=∃v H',Inv X pins σ H' s'/\RelV v u/\Q v H'
def TP(X:Cx)(pins:List (Addr × Obj))(σ:St)(Q:Bool->Hp->Prop)(b:Bool)(s':Shared):Prop:=∃H',Inv X pins σ H' s'/\Q b H'
def AP(X:Cx)(pins:List (Addr × Obj))(σ:St)(Q:List V->Hp->Prop)(us:List Value)(s':Shared):Prop:=∃vs H',Inv X pins σ H' s'/\Vals vs us/\Q vs H'
def SP(X:Cx)(pins:List (Addr × Obj))(D:fF)(f:Flow)(s':Shared):Prop:=
 match f with
 | .next=>∃σ' H',Inv X pins σ' H' s'/\D.nx σ' H'
 | .brk=>∃σ' H',Inv X pins σ' H' s'/\D.bk σ' H'
 | .cont=>∃σ' H',Inv X pins σ' H' s'/\D.ct σ' H'
 | .ret u=>∃v σ' H',Inv X pins σ' H' s'/\RelV v u/\D.rt v H'
def PE(X:Cx)(e:Expr)(t:TE):Prop:=
 ∀(pins:List (Addr × Obj)) (s:Shared) (σ:St) (H:Hp) (Q:VK),Inv X pins σ H s->t σ H Q->wpAny (model X.prog X.w) X.A (eval e X.env) (EP X pins σ Q) X.xe s
def PT(X:Cx)(e:Expr)(t:TT):Prop:=
 ∀(pins:List (Addr × Obj)) (s:Shared) (σ:St) (H:Hp) (Q:Bool->Hp->Prop),Inv X pins σ H s->t σ H Q->wpAny (model X.prog X.w) X.A (isTrue e X.env (eval e X.env)) (TP X pins σ Q) X.xe s
def PW(X:Cx)(e:Expr)(t:TT):Prop:=
 ∀(whole:Sem Value) (pins:List (Addr × Obj)) (s:Shared) (σ:St) (H:Hp) (Q:Bool->Hp->Prop),Inv X pins σ H s->t σ H Q->wpAny (model X.prog X.w) X.A (isTrue e X.env whole) (TP X pins σ Q) X.xe s
theorem PW.pt{X:Cx}{e:Expr}{t:TT}(h:PW X e t):PT X e t:=h _
def PA(X:Cx)(es:List Expr)(t:TA):Prop:=
 ∀(pos:Pos) (pins:List (Addr × Obj)) (s:Shared) (σ:St) (H:Hp) (Q:List V->Hp->Prop),Inv X pins σ H s->t σ H Q->wpAny (model X.prog X.w) X.A (spliced (backTo pos (starEach es X.env))) (AP X pins σ Q) X.xe s
def PS(X:Cx)(st:Stmt)(t:TS):Prop:=
 ∀(pins:List (Addr × Obj)) (s:Shared) (σ:St) (H:Hp) (D:fF),Inv X pins σ H s->t D σ H->wpAny (model X.prog X.w) X.A (exec st X.env) (SP X pins D) X.xe s
def PSs(X:Cx)(st:List Stmt)(t:TS):Prop:=
 ∀(pins:List (Addr × Obj)) (s:Shared) (σ:St) (H:Hp) (D:fF),Inv X pins σ H s->t D σ H->wpAny (model X.prog X.w) X.A (execs st X.env) (SP X pins D) X.xe s
theorem thn{α:Type}{t:Sem α}{Q Q':α->Shared->Prop}{M:Model}{A:Around}{E:Value->Shared->Prop}{s:Shared}(h:wpAny M A t Q E s)(hQ:∀a s,Q a s->Q' a s):wpAny M A t Q' E s:=uY h hQ fun _ _ x=>x
section
variable{X:Cx}
theorem bin{a b:Expr}{ta tb:TE}(ha:PE X a ta)(hb:PE X b tb){pins:List (Addr × Obj)}{s:Shared}{σ:St}{H:Hp}{R:V->V->Hp->Prop}(I:Inv X pins σ H s)(h:ta σ H fun x H1=>tb σ H1 fun y H2=>R x y H2)
 {α:Type} {Q:α->Shared->Prop} {f:Value->Value->Sem α}
 (hf:∀v u s2 x y H2,Inv X pins σ H2 s2->RelV x v->RelV y u->R x y H2->wpAny (model X.prog X.w) X.A (f v u) Q X.xe s2) :
 wpAny (model X.prog X.w) X.A (eval a X.env) (fun v s₁=>wpAny (model X.prog X.w) X.A (eval b X.env) (fun u s₂=>wpAny (model X.prog X.w) X.A (f v u) Q X.xe s₂) X.xe s₁) X.xe s:=by
 refine thn (ha pins s σ H _ I h) fun v s1 ⟨x,H1,I1,r1,q1⟩=>?_;refine thn (hb pins s1 σ H1 _ I1 q1) fun u s2 ⟨y,H2,I2,r2,q2⟩=>?_;exact hf v u s2 x y H2 I2 r1 r2 q2
def Id(i:Nat):TE:=fun σ H Q=>∃v,σ[i]? = some (some v)/\Q v H
def tC(v:V):TE:=fun _ H Q=>Q v H
theorem FY(hN:X.N[i]? = some x)(hv:Vis X.env.scope x)(hd:(x==("__debug__":Str))=false:=by decide)(hcd:(x==("__classdict__":Str))=false:=by decide):PE X (.Name x pos) (Id i):=by
 intro pins s σ H Q I h;obtain⟨v,e,h⟩:=h;obtain⟨m,hn,hl⟩:=I.loc;obtain⟨u,r,l⟩:=hl i x v hN e hv;have fin:EP X pins σ Q u s:=⟨v,H,I,r,h⟩;rcases l with ⟨hk,hm⟩|⟨hk,c,hc,hcell⟩
 ·exact wpAny_Name (wpAny_loadName_local I.ok.kind hk hn hm fin) hd
 ·rcases hk with hk|hk
  ·exact wpAny_Name (wpAny_loadName_cell I.ok.kind hk hc hcell fin) hd
  ·exact wpAny_Name (wpAny_loadName_free I.ok.kind hk hc hcell fin hcd) hd
theorem aa{i j pos}:PE X (.Constant (.int i) j pos) (tC (.int i)):=fun _ _ _ H _ I h=>wpAny_Constant_int ⟨.int i,H,I.tok _,⟨_,rfl⟩,h⟩
theorem iH{b j pos}:PE X (.Constant (.bool b) j pos) (tC (.bl b)):=fun _ _ _ H _ I h=>Constant_bool ⟨.bl b,H,I,rfl,h⟩
theorem da{j pos}:PE X (.Constant .none j pos) (tC .non):=fun _ _ _ H _ I h=>Constant_none ⟨.non,H,I,rfl,h⟩
theorem AN{x j pos}:PE X (.Constant (.str x) j pos) (tC (.str x)):=fun _ _ _ H _ I h=>Calls.Constant_str ⟨.str x,H,I.tok _,⟨_,rfl⟩,h⟩
def Gl(X:Cx)(x:Str):Prop:=X.env.kindOf x=some .globalImplicit
theorem ie{E:Value->Shared->Prop}{pins:List (Addr × Obj)}{s:Shared}{σ:St}{H:Hp}{x:Str}{u:Value}{pos:Pos}{Q:Value->Shared->Prop}(I:Inv X pins σ H s)(hg:Gl X x)(hm:X.mg x=some u)(h:Q u s)
 (hd:(x==("__debug__":Str))=false:=by decide):wpAny (model X.prog X.w) X.A (eval (.Name x pos) X.env) Q E s:=
 Calls.Name_function_global I.ok.kind hg (Calls.loadGlobal_global (by rw[I.ok.glob];exact I.mod.glob.keeps I.bk) hm h) hd
theorem lI{E:Value->Shared->Prop}{pins:List (Addr × Obj)}{s:Shared}{σ:St}{H:Hp}{x:Str}{u:Value}{pos:Pos}{Q:Value->Shared->Prop}(I:Inv X pins σ H s)(hg:Gl X x)(hm:X.mg x=none)(hv:rF x=some u)(h:Q u s)
 (hn:x ≠ "__name__":=by decide) (hd:(x==("__debug__":Str))=false:=by decide):wpAny (model X.prog X.w) X.A (eval (.Name x pos) X.env) Q E s:=by
 obtain⟨mb,h1,h2⟩:=I.mod.blt;exact Calls.Name_function_global I.ok.kind hg (Calls.loadGlobal_builtin (by rw[I.ok.glob];exact I.mod.glob.keeps I.bk) hm (by rw[I.ok.blt];exact h1.keeps I.bk) ((h2 x hn).trans hv) h) hd
theorem wE(hg:Gl X x)(hm:X.mg x=some u)(r:RelV v u)(hd:(x==("__debug__":Str))=false:=by decide):PE X (.Name x pos) (tC v):=
 fun _ _ _ H _ I h=>ie I hg hm ⟨v,H,I,r,h⟩ hd
theorem eK(hg:Gl X x)(hm:X.mg x=none)(hv:rF x=some u)(r:RelV v u)(hn:x ≠ "__name__":=by decide)(hd:(x==("__debug__":Str))=false:=by decide):PE X (.Name x pos) (tC v):=
 fun _ _ _ H _ I h=>lI I hg hm hv ⟨v,H,I,r,h⟩ hn hd
variable{a b:Expr}{ta tb:TE}{pos:Pos}
def PC(X:Cx)(op:CmpOp)(a b:Expr)(t:TE):Prop:=
 ∀(pins:List (Addr × Obj)) (s:Shared) (σ:St) (H:Hp) (Q:VK),Inv X pins σ H s->t σ H Q ->
  wpAny (model X.prog X.w) X.A (eval a X.env) (fun v s₁=>wpAny (model X.prog X.w) X.A (eval b X.env) (fun u s₂=>wpAny (model X.prog X.w) X.A (uK op v u) (EP X pins σ Q) X.xe s₂) X.xe s₁) X.xe s
theorem ur(b:Expr){op:CmpOp}(h:op ≠ .In)(h2:op ≠ .NotIn):Z0 op b=false:=by
 have e1:(op==CmpOp.In)=false:=by cases op <;> first|rfl|exact absurd rfl h
 have e2:(op==CmpOp.NotIn)=false:=by cases op <;> first|rfl|exact absurd rfl h2
 cases b <;> simp[Z0,e1,e2]
def Hm(ta:TE):TE:=fun σ H Q=>ta σ H fun x H1=>Q (.bl (decide (x = .non))) H1
def Ed(ta:TE):TE:=fun σ H Q=>ta σ H fun x H1=>Q (.bl (!decide (x = .non))) H1
theorem RelV.none_iff{x:V}{v:Value}(r:RelV x v):(v==Zc)=decide (x = .non):=by
 cases x with
 |non=>cases r;rfl
 |bl _=>cases r;rfl
 |int _=>obtain⟨t,rfl⟩:=r;rfl
 |str _=>obtain⟨t,rfl⟩:=r;rfl
 |byt _=>obtain⟨t,rfl⟩:=r;rfl
 |flt _=>obtain⟨t,rfl⟩:=r;rfl
 |ref _=>cases r;rfl
 |ty _=>cases r;rfl
theorem nW{j pos'}(ha:PE X a ta):PC X .Is a (.Constant .none j pos') (Hm ta):=by
 intro pins s σ H Q I h;refine thn (ha pins s σ H _ I h) fun v s1 ⟨x,H1,I1,r1,q1⟩=>?_;exact Constant_none (is_none_gen ⟨.bl _,H1,I1,by rw[r1.none_iff];rfl,q1⟩)
theorem cJ{j pos'}(ha:PE X a ta):PC X .IsNot a (.Constant .none j pos') (Ed ta):=by
 intro pins s σ H Q I h;refine thn (ha pins s σ H _ I h) fun v s1 ⟨x,H1,I1,r1,q1⟩=>?_;exact Constant_none (isnot_none_gen ⟨.bl _,H1,I1,by rw[r1.none_iff];rfl,q1⟩)
theorem qG(h:PC X op a b t)(h1:Z0 op b=false:=by first|exact ur _ (by decide) (by decide)|rfl):PE X (.Compare a [op] [b] pos) t:=fun pins s σ H Q I hw=>wpAny_Compare1 (h pins s σ H Q I hw) h1
variable{tA tB':TT}{rest:List Expr}
def E1(t u:TT):TT:=fun σ H Q=>t σ H fun c H1=>if c=true then u σ H1 Q else Q false H1
def tOr(t u:TT):TT:=fun σ H Q=>t σ H fun c H1=>if c=true then Q true H1 else u σ H1 Q
def Hh(t:TT):TT:=fun σ H Q=>t σ H fun c H1=>Q (!c) H1
theorem d7(ha:PT X a tA):PW X (.BoolOp .And [a] pos) tA:=by
 intro wh pins s σ H Q I h;refine isTrue_and (thn (ha pins s σ H Q I h) fun c s1 e=>?_);cases c with
 |true=>exact isTrue_and_nil e
 |false=>exact e
theorem eD(ha:PT X a tA):PW X (.BoolOp .Or [a] pos) tA:=by
 intro wh pins s σ H Q I h;refine isTrue_or (thn (ha pins s σ H Q I h) fun c s1 e=>?_);cases c with
 |false=>exact isTrue_or_nil e
 |true=>exact e
theorem fO(ha:PT X a tA)(hb:PW X (.BoolOp .And (b::rest) pos) tB'):PW X (.BoolOp .And (a::b::rest) pos) (E1 tA tB'):=by
 intro wh pins s σ H Q I h;refine isTrue_and (thn (ha pins s σ H _ I h) fun c s1 ⟨H1,I1,q1⟩=>?_);cases c with
 |true=>exact hb wh pins s1 σ H1 Q I1 q1
 |false=>exact⟨H1,I1,q1⟩
theorem fI(ha:PT X a tA)(hb:PW X (.BoolOp .Or (b::rest) pos) tB'):PW X (.BoolOp .Or (a::b::rest) pos) (tOr tA tB'):=by
 intro wh pins s σ H Q I h;refine isTrue_or (thn (ha pins s σ H _ I h) fun c s1 ⟨H1,I1,q1⟩=>?_);cases c with
 |true=>exact⟨H1,I1,q1⟩
 |false=>exact hb wh pins s1 σ H1 Q I1 q1
theorem bK(ha:PT X a tA):PT X (.UnaryOp .Not a pos) (Hh tA):=by
 intro pins s σ H Q I h;exact isTrue_not (ha pins s σ H (fun c H1=>Q (!c) H1) I h)
theorem dH{op}(h:PE X a t):PE X (.BoolOp op [a] pos) t:=fun pins s σ H Q I hw=>BoolOp_one (h pins s σ H Q I hw)
def tIf(t:TT)(ta tb:TE):TE:=fun σ H Q=>t σ H fun c H1=>if c=true then ta σ H1 Q else tb σ H1 Q
theorem BF{c:Expr}(hc:PT X c tA)(ha:PE X a ta)(hb:PE X b tb):PE X (.IfExp c a b pos) (tIf tA ta tb):=by
 intro pins s σ H Q I h;refine wpAny_IfExp (thn (hc pins s σ H _ I h) fun d s1 ⟨H1,I1,q1⟩=>?_);cases d with
 |true=>exact ha pins s1 σ H1 Q I1 q1
 |false=>exact hb pins s1 σ H1 Q I1 q1
end
def SqL(K:W.Frag)(H:Hp)(a:Addr)(xs:List V):Prop:=
 Rd H a (.lst xs) \/
  ∃(o:Obj) (its:Array Value) (n:Nat),K.lookup a=some o/\o.cls = .type "list" /\ o.dict=none/\o.data = .seq its n/\its.size<=sizeLine/\Vals xs its.toList
def SqT(K:W.Frag)(H:Hp)(a:Addr)(xs:List V):Prop:=
 Rd H a (.tup xs) \/
  ∃(o:Obj) (its:Array Value) (n:Nat),K.lookup a=some o/\o.cls = .type "tuple" /\ o.data = .seq its n/\its.size<=sizeLine/\Vals xs its.toList
def HS:Value->Option V
 | .none=>some .non
 | .bool b=>some (.bl b)
 | .int i _=>some (.int i)
 | .str x _=>some (.str x)
 | .bytes b _=>some (.byt b)
 | .float b _=>some (.flt b)
 | .ref a=>some (.ref a)
 | .type n=>some (.ty n)
 |_=>none
theorem RelV.abs(r:RelV x u):HS u=some x:=by
 cases x with
 |non=>cases r;rfl
 |bl _=>cases r;rfl
 |int _=>obtain⟨t,rfl⟩:=r;rfl
 |str _=>obtain⟨t,rfl⟩:=r;rfl
 |byt _=>obtain⟨t,rfl⟩:=r;rfl
 |flt _=>obtain⟨t,rfl⟩:=r;rfl
 |ref _=>cases r;rfl
 |ty _=>cases r;rfl
theorem RelV.inj(r:RelV x u)(q:RelV y u):x=y:=uF (r.abs.symm.trans q.abs)
theorem Vals.inj:∀ {xs ys:List V} {us:List Value},Vals xs us->Vals ys us->xs=ys
 |_,_,_,.nil,.nil=>rfl
 |_,_,_,.cons r t,.cons r' t'=>by rw[r.inj r',Vals.inj t t']
section
variable{X:Cx}{pins:List (Addr × Obj)}{σ:St}{H:Hp}{s:Shared}{a:Addr}{xs ys:List V}
theorem SqL.of{K:W.Frag}(h:H a=some (.lst xs)):SqL K H a xs:=.inl (.inl h)
theorem SqT.of{K:W.Frag}(h:H a=some (.tup xs)):SqT K H a xs:=.inl (.inl h)
theorem Inv.list(I:Inv X pins σ H s)(h:SqL X.K H a xs):∃its:List Value,Vals xs its/\PlainL s.heap a its.toArray/\xs.length<=sizeLine:=by
 rcases h with h|⟨o,its,n,hk,hc,hd,hs,hz,r⟩
 ·obtain⟨z,its,n,r,e⟩:=h.ok I.hok
  exact⟨its,r,⟨_,n,e,rfl,rfl,rfl⟩,z⟩
 ·refine⟨its.toList,r,⟨o,n,I.kIn a o hk,hc,hd,by simpa using hs⟩,?_⟩
  have e:=r.length;simp only[ZN]at e;lia
theorem Inv.tuple(I:Inv X pins σ H s)(h:SqT X.K H a xs):∃its:List Value,Vals xs its/\IsTup s.heap a its.toArray/\xs.length<=sizeLine:=by
 rcases h with h|⟨o,its,n,hk,hc,hs,hz,r⟩
 ·obtain⟨z,its,r,p⟩:=h.ok I.hok
  exact⟨its,r,p,z⟩
 ·refine⟨its.toList,r,⟨o,I.kIn a o hk,hc,n,by simpa using hs⟩,?_⟩
  have e:=r.length;simp only[ZN]at e;lia
theorem Inv.list_inj(I:Inv X pins σ H s)(h:SqL X.K H a xs)(h':SqL X.K H a ys):xs=ys:=by
 obtain⟨its,r,⟨o,n,e,_,_,d⟩,_⟩:=I.list h;obtain⟨its',r',⟨o',n',e',_,_,d'⟩,_⟩:=I.list h';rw[e]at e';cases e';rw[d]at d';injection d' with d1 _
 have:its=its':=by simpa using congrArg Array.toList d1
 subst this;exact r.inj r'
theorem Inv.tuple_inj(I:Inv X pins σ H s)(h:SqT X.K H a xs)(h':SqT X.K H a ys):xs=ys:=by
 obtain⟨its,r,⟨o,e,_,n,d⟩,_⟩:=I.tuple h;obtain⟨its',r',⟨o',e',_,n',d'⟩,_⟩:=I.tuple h';rw[e]at e';cases e';rw[d]at d';injection d' with d1 _
 have:its=its':=by simpa using congrArg Array.toList d1
 subst this;exact r.inj r'
end
abbrev Cx.wish(X:Cx)(E:Value->Shared->Prop):Cx:={ X with xe:=E }
abbrev Cx.nox(X:Cx):Cx:=X.wish fun _ _=>False
section
variable{X:Cx}{pins:List (Addr × Obj)}{σ:St}{H:Hp}{s:Shared}{E:Value->Shared->Prop}
end
section
variable{X:Cx}{st:Stmt}{rest:List Stmt}{t u:TS}{e:Expr}{te:TE}{pos:Pos}
def DA:TS:=fun D σ H=>D.nx σ H
def Gp(t u:TS):TS:=fun D σ H=>t { D with nx:=u D } σ H
theorem aL:PSs X [] DA:=fun _ _ σ H _ I h=>YB ⟨σ,H,I,h⟩
theorem af(h1:PS X st t)(h2:PSs X rest u):PSs X (st::rest) (Gp t u):=by
 intro pins s σ H D I h;refine wpAny_execs_cons (thn (h1 pins s σ H { D with nx:=u D } I h) fun f s1 q=>?_);cases f with
 |next=>
  obtain⟨σ',H',I',q⟩:=q;exact h2 pins s1 σ' H' D I' q
 |ret v=>exact q
 |brk=>exact q
 |cont=>exact q
theorem ag(h1:PS X st t):PSs X [st] t:=by
 intro pins s σ H D I h;refine wpAny_execs_cons (thn (h1 pins s σ H D I h) fun f s1 q=>?_);cases f with
 |next=>exact YB q
 |ret v=>exact q
 |brk=>exact q
 |cont=>exact q
theorem Inv.quiet{pins:List (Addr × Obj)}{σ:St}{H:Hp}{s:Shared}(I:Inv X pins σ H s):interactive X.env=false:=by simp[interactive,I.ok.kind]
def DE(te:TE):TS:=fun D σ H=>te σ H fun _ H1=>D.nx σ H1
theorem bd(he:PE X e te)(hs:swapsWith e none pos.line X.env=pure false:=by rfl):PS X (.Expr e pos) (DE te):=by
 intro pins s σ H D I h;exact wpAny_Expr_any (thn (he pins s σ H _ I h) fun v s1 ⟨x,H1,I1,r1,q1⟩=>⟨σ,H1,I1,q1⟩) I.quiet hs
def Hd(te:TE):TS:=fun D σ H=>te σ H D.rt
theorem aJ(he:PE X e te):PS X (.Return (some e) pos) (Hd te):=by
 intro pins s σ H D I h;exact wpAny_Return_some (thn (he pins s σ H _ I h) fun v s1 ⟨x,H1,I1,r1,q1⟩=>⟨x,σ,H1,I1,r1,q1⟩)
def HC(c:TT)(t u:TS):TS:=fun D σ H=>c σ H fun b H1=>if b=true then t D σ H1 else u D σ H1
theorem aW{c:Expr}{a b:List Stmt}{tc:TT}(hc:PT X c tc)(ha:PSs X a t)(hb:PSs X b u):PS X (.If c a b pos) (HC tc t u):=by
 intro pins s σ H D I h;refine wpAny_If (thn (hc pins s σ H _ I h) fun d s1 ⟨H1,I1,q1⟩=>?_);cases d with
 |true=>exact ha pins s1 σ H1 D I1 q1
 |false=>exact hb pins s1 σ H1 D I1 q1
end
abbrev TG:=V->St->Hp->(St->Hp->Prop)->Prop
abbrev TGs:=List V->St->Hp->(St->Hp->Prop)->Prop
def PG(X:Cx)(target:Expr)(t:TG):Prop:=
 ∀(pins:List (Addr × Obj)) (s:Shared) (σ:St) (H:Hp) (v:V) (u:Value) (Q:St->Hp->Prop),Inv X pins σ H s->RelV v u->t v σ H Q ->
  wpAny (model X.prog X.w) X.A (assign target X.env u) (fun _ s'=>∃σ' H',Inv X pins σ' H' s'/\Q σ' H') X.xe s
def PGs(X:Cx)(ts:List Expr)(t:TGs):Prop:=
 ∀(pins:List (Addr × Obj)) (s:Shared) (σ:St) (H:Hp) (vs:List V) (us:List Value) (Q:St->Hp->Prop),Inv X pins σ H s->Vals vs us->t vs σ H Q ->
  wpAny (model X.prog X.w) X.A (assignInOrder ((Yp ts X.env).map (·.2)) us) (fun _ s'=>∃σ' H',Inv X pins σ' H' s'/\Q σ' H') X.xe s
abbrev Ew:=V->V->V->Hp->(Hp->Prop)->Prop
def Hs(X:Cx)(t:Ew):Prop:=
 ∀(pins:List (Addr × Obj)) (s:Shared) (σ:St) (H:Hp) (o i v:V) (ov iv u:Value) (Q:Hp->Prop),Inv X pins σ H s->RelV o ov->RelV i iv->RelV v u->t o i v H Q ->
  wpAny (model X.prog X.w) X.A (setItem ov iv u) (fun _ s'=>∃H',Inv X pins σ H' s'/\Q H') X.xe s
section
variable{X:Cx}{pos:Pos}
def iq(i:Nat):TG:=fun v σ H Q=>Q (σ.set i (some v)) H
theorem aM(hN:X.N.Nodup)(hi:X.N[i]? = some x)(hx:Loc X.env.scope x)(hf:X.fn x=true\/X.env.scope.names.lookup x=some .local:=by first|exact .inl rfl|exact .inr rfl|assumption):PG X (.Name x pos) (iq i):=by
 intro pins s σ H v u Q I r h;exact wpAny_assign_Name (sD I hN hi hx r (fun s' I'=>⟨_,H,I',h⟩) hf)
def GD:TGs:=fun vs σ H Q=>vs=[]/\Q σ H
def D3(t:TG)(u:TGs):TGs:=fun vs σ H Q=>∃v r,vs=v::r/\t v σ H fun σ' H'=>u r σ' H' Q
theorem g_:PGs X [] GD:=by
 intro pins s σ H vs us Q I r h;obtain⟨e,h⟩:=h;subst e;cases r;exact assignInOrder_nil ⟨σ,H,I,h⟩
theorem bp{e:Expr}{es:List Expr}{t:TG}{u:TGs}(h1:PG X e t)(h2:PGs X es u)
 (hs:(Yp (e::es) X.env).map (·.2)=assign e X.env::(Yp es X.env).map (·.2):=by rfl):PGs X (e::es) (D3 t u):=by
 intro pins s σ H vs us Q I r h;obtain⟨v,vr,e1,h⟩:=h;subst e1;cases r with
 |cons r rr=>
  rw[hs];refine assignInOrder_cons (thn (h1 pins s σ H _ _ _ I r h) fun _ s1 ⟨σ1,H1,I1,q1⟩=>?_);exact h2 pins s1 σ1 H1 _ _ Q I1 rr q1
def FH(K:W.Frag)(n:Nat)(t:TGs):TG:=fun v σ H Q=>∃a xs,v = .ref a/\SqT K H a xs/\xs.length=n/\t xs σ H Q
theorem Fn(hc:X.calm=true)(h:PGs X es t)
 (hn:(Yp es X.env).length=n:=by rfl) (hst:(Yp es X.env).findIdx? (·.1)=none:=by rfl):PG X (.Tuple es k pos) (FH X.K n t):=by
 intro pins s σ H v u Q I r hw;obtain⟨a,xs,e1,hq,hl,hw⟩:=hw;subst e1;cases r;obtain⟨its,rv,ht,hz⟩:=I.tuple hq;refine assign_Tuple_tuple (I.ok.hd hc) ht (by simp[hn,<- hl,rv.length]) hst fun h' hx=>?_;have I1:Inv X pins σ H { s with heap:=h' }:=I.kept (t':=s.toks) fun b o e=>hx b o (ui (y3 e)) e;exact h pins _ σ H xs _ Q I1 (by simpa using rv) hw
def G8(to ti:TE)(t:Ew):TG:=fun v σ H Q=>to σ H fun o H1=>ti σ H1 fun i H2=>t o i v H2 fun H3=>Q σ H3
theorem EC{o i:Expr}{to ti:TE}{t:Ew}(ho:PE X o to)(hi:PE X i ti)(hs:Hs X t)
 (ha:∀v,assign (.Subscript o i pos) X.env v=(do
  let ov <- holding [v] (eval o X.env)
  let iv <- holding [v,ov] (eval i X.env)
  standAt pos
  holding [v,ov,iv] (setItem ov iv v)
  release [v,ov,iv] []):=by intro _;rfl):PG X (.Subscript o i pos) (G8 to ti t):=by
 intro pins s σ H v u Q I r h;rw[ha];refine zw (ZT (thn (ho pins s σ H _ I h) fun ov s1 ⟨x,H1,I1,r1,q1⟩=>?_));refine zw (ZT (thn (hi pins s1 σ H1 _ I1 q1) fun iv s2 ⟨y,H2,I2,r2,q2⟩=>?_));refine zw (YX (zw (ZT (thn (hs pins s2 σ H2 x y v ov iv u _ I2 r1 r2 r q2) fun _ s3 ⟨H3,I3,q3⟩=>?_))));exact wpAny_release ⟨σ,H3,I3,q3⟩
def vA(te:TE)(g:TG):TS:=fun D σ H=>te σ H fun x H1=>g x σ H1 D.nx
theorem vX{tg e:Expr}{te:TE}{g:TG}(he:PE X e te)(hg:PG X tg g)(hs:swapsWithSole [tg] e pos.line X.env=pure false:=by rfl)(hw:swappedStores [tg] e X.env=pure none:=by rfl)
 (h1:(Yp [tg] X.env).map (·.2)=[assign tg X.env]:=by rfl):PS X (.Assign [tg] e pos) (vA te g):=by
 intro pins s σ H D I h;refine wpAny_Assign_stores (thn (he pins s σ H _ I h) fun v s1 ⟨x,H1,I1,r1,q1⟩=>?_) hs hw;rw[h1];exact thn (hg pins s1 σ H1 x v _ I1 r1 q1) fun _ s2 q=>q
theorem EU{i:Nat}{x:Str}{e:Expr}{te:TE}{pos':Pos}(hN:X.N.Nodup)(hi:X.N[i]? = some x)(hx:Loc X.env.scope x)(he:PE X e te)(hs:swapsWith e (some (.Name x pos')) pos.line X.env=pure false:=by rfl)(hf:X.fn x=true\/X.env.scope.names.lookup x=some .local:=by first|exact .inl rfl|exact .inr rfl|assumption) :
 PS X (.Assign [.Name x pos'] e pos) (vA te (iq i)):=by
 intro pins s σ H D I h;refine wpAny_Assign_Name (thn (he pins s σ H _ I h) fun v s1 ⟨y,H1,I1,r1,q1⟩=>?_) hs;exact sD I1 hN hi hx r1 (fun s2 I2=>⟨_,H1,I2,q1⟩) hf
def Fk(c:TT)(tb:TS):TS:=fun D σ H=>∃W:Nat->St->Hp->Prop,(∃m,W m σ H)/\∀m σ H,W m σ H ->
 c σ H fun b H1=>if b=true then ∃N:St->Hp->Prop,(∀σ' H',N σ' H'->∃m',m'<m/\W m' σ' H')/\tb { D with nx:=N,ct:=N,bk:=D.nx } σ H1 else D.nx σ H1
theorem iu{c:Expr}{body:List Stmt}{tc:TT}{tb:TS}(hp:PassesOwn (model X.prog X.w) X.A X.env X.xe)(hc:PT X c tc)(hb:PSs X body tb):PS X (.While c body [] pos) (Fk tc tb):=by
 intro pins s σ H D I h;obtain⟨W,⟨m0,w0⟩,turn⟩:=h;refine wpAny_While (codeAny_whileLoop (fun n s'=>∃σ' H',Inv X pins σ' H' s'/\W n σ' H') ?_ m0 ⟨σ,H,I,w0⟩);rintro n s1 ⟨σ1,H1,I1,w1⟩;refine Z8 hp (thn (hc pins s1 σ1 H1 _ I1 (turn n σ1 H1 w1)) fun b s2 ⟨H2,I2,q2⟩=>?_);cases b with
 |true=>
  obtain⟨N,hN,q2⟩:=q2;rw[if_pos rfl];refine Z8 hp (thn (hb pins s2 σ1 H2 _ I2 q2) fun f s3 q3=>?_);cases f with
  |next=>
   obtain⟨σ3,H3,I3,n3⟩:=q3;obtain⟨m',hm,w3⟩:=hN σ3 H3 n3;exact⟨m',hm,σ3,H3,I3,w3⟩
  |cont=>
   obtain⟨σ3,H3,I3,n3⟩:=q3;obtain⟨m',hm,w3⟩:=hN σ3 H3 n3;exact⟨m',hm,σ3,H3,I3,w3⟩
  |brk=>exact q3
  |ret v=>exact q3
 |false=>
  rw[if_neg y9];exact YB ⟨σ1,H2,I2,q2⟩
end
structure It where
 go:Nat->Hp->Prop
 yld:Nat->Hp->V->Hp->Prop
 stop:Nat->Hp->Prop
def j_(X:Cx)(pins:List (Addr × Obj))(H:Hp)(b:Addr):Prop:=
 H b=none/\b≠X.env.locals/\b∉X.fs/\(b∈X.ex\/X.s₀.heap.objs.size<=b)/\(∀x c,X.env.cells.lookup x=some c->c≠b)/\∀p∈X.pn++pins,p.1≠b
theorem Inv.fpOk{X:Cx}{pins:List (Addr × Obj)}{σ:St}{H H':Hp}{s:Shared}{b:Addr}(I:Inv X pins σ H s)(hb:s.heap.objs.size<=b)(hn:H' b=none):j_ X pins H' b:=by
 refine⟨hn,Nat.ne_of_gt (ug I.lt hb),I.nofs hb,.inr (xx I.sz hb),fun x c e z=>?_,fun p hp z=>?_⟩
 ·obtain⟨v,q⟩:=I.cell x c e
  exact absurd (ug q.lt (by rw[z];exact hb)) (ZZ _)
 ·exact absurd (ug (y3 (I.pin p hp).1) (by rw[z];exact hb)) (ZZ _)
structure uH(P:Program)(w:World)(K:W.Frag)(tg:Expr)(J:It)(fp:List Addr)(it:Addr)(tn:Nat->Heap->Prop):Prop where
 mem:it∈fp
 obj:∀i h,tn i h->∀b∈fp,∃o,h.get? b=some o/\∀v,o.data ≠ .cell v
 keep:∀i h h',tn i h->(∀b∈fp,∀o,h.get? b=some o->h'.get? b=some o)->tn i h'
 item:∀(X:Cx),X.prog=P->X.w=w->X.K=K->X.calm=true->∀(i:Nat) (pins:List (Addr × Obj)) (s:Shared) (σ:St) (H:Hp) (E:Value->Shared->Prop),Inv X pins σ H s->(∀b∈fp,j_ X pins H b)->tn i s.heap->J.go i H ->
  wpAny (model P w) X.A (pyNext (.ref it)) (fun r s1=>∃u,r=some u /\
   wpAny (model P w) X.A (YA tg (.ref it) u) (fun _ s2=>∃x H',Inv X pins σ H' s2/\RelV x u/\J.yld i H x H'/\tn (i+1) s2.heap/\∀b∈fp,H' b=none) E s1) E s
 done:∀(X:Cx),X.prog=P->X.w=w->X.K=K->X.calm=true->∀(i:Nat) (pins:List (Addr × Obj)) (s:Shared) (σ:St) (H:Hp) (E:Value->Shared->Prop),Inv X pins σ H s->(∀b∈fp,j_ X pins H b)->tn i s.heap->J.stop i H ->
  wpAny (model P w) X.A (pyNext (.ref it)) (fun r s1=>r=none/\Inv X pins σ H s1) E s
 self:∀(A:Around) (i:Nat) (s:Shared) (Q:Value->Shared->Prop) (E:Value->Shared->Prop),tn i s.heap->Q (.ref it) s->wpAny (model P w) A (pyIter (.ref it)) Q E s
abbrev TI:=St->Hp->(It->Hp->Prop)->Prop
def PIE(X:Cx)(pins:List (Addr × Obj))(σ:St)(tg:Expr)(R:It->Hp->Prop)(itv:Value)(s2:Shared):Prop:=
 ∃(it:Addr) (fp:List Addr) (tn:Nat->Heap->Prop) (J:It) (H':Hp),itv = .ref it/\Inv X pins σ H' s2/\uH X.prog X.w X.K tg J fp it tn/\tn 0 s2.heap/\(∀b∈fp,j_ X pins H' b)/\R J H'
def PI(X:Cx)(tg iter:Expr)(wi:TI):Prop:=
 ∀(pins:List (Addr × Obj)) (s:Shared) (σ:St) (H:Hp) (R:It->Hp->Prop),Inv X pins σ H s->wi σ H R ->
  wpAny (model X.prog X.w) X.A (eval iter X.env) (fun v s1=>wpAny (model X.prog X.w) X.A (pyIter v) (PIE X pins σ tg R) X.xe s1) X.xe s
theorem lM{s:Shared}{o:Obj}(ho:s.heap.get? it=some o)(hc:o.cls = .type n)(hd:o.data = .fields vs)
 (hn:["enumerate","zip","dict_itemiterator","dict_reverseitemiterator","odict_iterator","itertools.zip_longest","itertools.pairwise"].contains n=false) (hQ:Q () s):wpAny M A (YA tg (.ref it) u) Q E s:=by
 unfold YA;cases tg <;> first
  |exact yt hQ
  |(cases u <;> first
   |exact yt hQ
   |(refine zw (wpAny_load ho ?_);rw[hc,hd];show wpAny M A (if (["enumerate","zip","dict_itemiterator","dict_reverseitemiterator","odict_iterator","itertools.zip_longest","itertools.pairwise"].contains n&&vs[0]? == some (rawInt _))=true then _ else _) Q E s;rw[if_neg (by intro h;rw[hn,YK]at h;cases h)];exact yt hQ))
def Itl(K:W.Frag)(a:Addr):It:=
 ⟨fun i H=>∃xs x,SqL K H a xs/\xs[i]? = some x,fun i H x H'=>H'=H/\∀xs,SqL K H a xs->xs[i]? = some x,fun i H=>∃xs,SqL K H a xs/\xs.length<=i⟩
def Itt(K:W.Frag)(a:Addr):It:=
 ⟨fun i H=>∃xs x,SqT K H a xs/\xs[i]? = some x,fun i H x H'=>H'=H/\∀xs,SqT K H a xs->xs[i]? = some x,fun i H=>∃xs,SqT K H a xs/\xs.length<=i⟩
def Itr(lo:Int)(n:Nat):It:=⟨fun i _=>i<n,fun i H x H'=>H'=H/\x = .int (lo+i),fun i _=>n<=i⟩
theorem o_{P:Program}{w:World}{K:W.Frag}{tg:Expr}(a it:Addr):uH P w K tg (Itl K a) [it] it (fun i h=>h.IsListIter it a i) where
 mem:=by simp
 obj:=fun i h st b hb=>by
  have e:b=it:=by simpa using hb
  subst e;obtain⟨o,e,c,d⟩:=st;exact⟨o,e,fun v z=>by rw[d]at z;cases z⟩
 keep:=fun i h h' st k=>st.at fun o e=>k it (by simp) o e
 item:=by
  intro X hP hw hK hc i pins s σ H E I hf st hg;subst hP hw hK;obtain⟨xs,x,hq,hx⟩:=hg;obtain⟨its,rv,p,hz⟩:=I.list hq;obtain⟨u,hu,ru⟩:=rv.get hx;obtain⟨f0,f1,f2,f3,f4,f5⟩:=hf it (by simp);refine wpAny_pyNext_list_item st p.isList (x:=u) (by simpa using hu) fun h' st' sb=>?_;have I1:Inv X pins σ H { s with heap:=h' }:=I.turned (t':=s.toks) (fun b o hb e=>(sb.2 b hb).trans e) f0 f1 f3 f4 f5;obtain⟨o,e,c,d⟩:=id st';exact⟨u,rfl,lM (s:={ s with heap:=h' }) e c d (by decide) ⟨x,H,I1,ru,⟨rfl,fun ys hy=>by rw[I.list_inj hy hq];exact hx⟩,st',fun b hb=>(hf b hb).1⟩⟩
 done:=by
  intro X hP hw hK hc i pins s σ H E I hf st hg;subst hP hw hK;obtain⟨xs,hq,hx⟩:=hg;obtain⟨its,rv,p,hz⟩:=I.list hq;obtain⟨f0,f1,f2,f3,f4,f5⟩:=hf it (by simp);have hl:=rv.length;exact wpAny_pyNext_list_end (I.ok.hd hc) st p.isList (by simp;lia) fun h' eb=>⟨rfl,I.turned (t':=s.toks) (fun b o hb e=>eb b o hb e) f0 f1 f3 f4 f5⟩
 self:=fun _ _ _ _ _ st h=>wpAny_pyIter_listiter st h
theorem nr{P:Program}{w:World}{K:W.Frag}{tg:Expr}(a it:Addr):uH P w K tg (Itt K a) [it] it (fun i h=>h.IsTupleIter it a i) where
 mem:=by simp
 obj:=fun i h st b hb=>by
  have e:b=it:=by simpa using hb
  subst e;obtain⟨o,e,c,d⟩:=st;exact⟨o,e,fun v z=>by rw[d]at z;cases z⟩
 keep:=fun i h h' st k=>st.at fun o e=>k it (by simp) o e
 item:=by
  intro X hP hw hK hc i pins s σ H E I hf st hg;subst hP hw hK;obtain⟨xs,x,hq,hx⟩:=hg;obtain⟨its,rv,p,hz⟩:=I.tuple hq;obtain⟨u,hu,ru⟩:=rv.get hx;obtain⟨f0,f1,f2,f3,f4,f5⟩:=hf it (by simp);refine wpAny_pyNext_tuple_item st (show s.heap.IsTuple a its.toArray from p) (x:=u) (by simpa using hu) fun h' st' sb=>?_;have I1:Inv X pins σ H { s with heap:=h' }:=I.turned (t':=s.toks) (fun b o hb e=>(sb.2 b hb).trans e) f0 f1 f3 f4 f5;obtain⟨o,e,c,d⟩:=id st';exact⟨u,rfl,lM (s:={ s with heap:=h' }) e c d (by decide) ⟨x,H,I1,ru,⟨rfl,fun ys hy=>by rw[I.tuple_inj hy hq];exact hx⟩,st',fun b hb=>(hf b hb).1⟩⟩
 done:=by
  intro X hP hw hK hc i pins s σ H E I hf st hg;subst hP hw hK;obtain⟨xs,hq,hx⟩:=hg;obtain⟨its,rv,p,hz⟩:=I.tuple hq;obtain⟨f0,f1,f2,f3,f4,f5⟩:=hf it (by simp);have hl:=rv.length;exact wpAny_pyNext_tuple_end (I.ok.hd hc) st (show s.heap.IsTuple a its.toArray from p) (by simp;lia) fun h' eb=>⟨rfl,I.turned (t':=s.toks) (fun b o hb e=>eb b o hb e) f0 f1 f3 f4 f5⟩
 self:=fun _ _ _ _ _ st h=>wpAny_pyIter_tupleiter st h
theorem v6{P:Program}{w:World}{K:W.Frag}{tg:Expr}(it:Addr)(lo:Int)(n:Nat):uH P w K tg (Itr lo n) [it] it (fun i h=>IsRangeIter h it (lo+(i:Nat)*1) ((n:Int)-(i:Nat)) 1) where
 mem:=by simp
 obj:=fun i h st b hb=>by
  have e:b=it:=by simpa using hb
  subst e;exact⟨_,st,fun v z=>by
   have z':Data.fields _=Data.cell v:=z;cases z'⟩
 keep:=fun i h h' st k=>k it (by simp) _ st
 item:=by
  intro X hP hw hK hc i pins s σ H E I hf st hg;subst hP hw hK;obtain⟨f0,f1,f2,f3,f4,f5⟩:=hf it (by simp);have W:=Walks.range (prog:=X.prog) (w:=X.w) (I.ok.hd hc) it lo 1 n;refine W.item i s _ _ hg st fun v h' tk hv st' kk=>?_;obtain⟨t,rfl⟩:=hv;have I1:Inv X pins σ H { s with heap:=h',toks:=tk }:=I.turned (fun b o hb e=>kk b o (by simpa using hb) e) f0 f1 f3 f4 f5;refine⟨_,rfl,lM (s:={ s with heap:=h',toks:=tk }) (n:="range_iterator") st' rfl rfl (by decide) ⟨.int (lo+i),H,I1,⟨t,?_⟩,⟨rfl,rfl⟩,st',fun b hb=>(hf b hb).1⟩⟩;rw[Int.mul_one]
 done:=by
  intro X hP hw hK hc i pins s σ H E I hf st hg;subst hP hw hK;obtain⟨f0,f1,f2,f3,f4,f5⟩:=hf it (by simp);exact wpAny_pyNext_range_end (I.ok.hd hc) st (by have:n<=i:=hg;lia) fun h' eb=>⟨rfl,I.turned (t':=s.toks) (fun b o hb e=>eb b o hb e) f0 f1 f3 f4 f5⟩
 self:=fun _ _ _ _ _ st h=>wpAny_pyIter_rangeiter st h
section
variable{X:Cx}{tg:Expr}
def nZ(K:W.Frag)(tl:TE):TI:=fun σ H R=>tl σ H fun x H1=>∃a,x = .ref a/\(∃xs,SqL K H1 a xs)/\R (Itl K a) H1
def xG(K:W.Frag)(tl:TE):TI:=fun σ H R=>tl σ H fun x H1=>∃a,x = .ref a/\(∃xs,SqT K H1 a xs)/\R (Itt K a) H1
theorem Ci{l:Expr}{tl:TE}(hl:PE X l tl):PI X tg l (nZ X.K tl):=by
 intro pins s σ H R I h;refine thn (hl pins s σ H _ I h) fun v s1 ⟨x,H1,I1,r1,q1⟩=>?_;obtain⟨a,e,⟨xs,hq⟩,q⟩:=q1;subst e;cases r1;obtain⟨its,rv,p,hz⟩:=I1.list hq;refine YV p.isList ?_;refine⟨s1.heap.objs.size,[s1.heap.objs.size],_,_,H1,rfl,I1.kept (t':=s1.toks) fun b o e=>Heap.get?_push_of_some _ e,o_ a _,⟨_,Heap.get?_push_size _ rfl,rfl,rfl⟩,fun b hb=>?_,q⟩;have e:b=s1.heap.objs.size:=by simpa using hb
 subst e;exact I1.fpOk (z5 _) (I1.hok.fresh (z5 _))
theorem FM{l:Expr}{tl:TE}(hl:PE X l tl):PI X tg l (xG X.K tl):=by
 intro pins s σ H R I h;refine thn (hl pins s σ H _ I h) fun v s1 ⟨x,H1,I1,r1,q1⟩=>?_;obtain⟨a,e,⟨xs,hq⟩,q⟩:=q1;subst e;cases r1;obtain⟨its,rv,p,hz⟩:=I1.tuple hq;refine wpAny_pyIter_tuple (show s1.heap.IsTuple a its.toArray from p) ?_;refine⟨s1.heap.objs.size,[s1.heap.objs.size],_,_,H1,rfl,I1.kept (t':=s1.toks) fun b o e=>Heap.get?_push_of_some _ e,nr a _,⟨_,Heap.get?_push_size _ rfl,rfl,rfl⟩,fun b hb=>?_,q⟩;have e:b=s1.heap.objs.size:=by simpa using hb
 subst e;exact I1.fpOk (z5 _) (I1.hok.fresh (z5 _))
theorem ud{pins:List (Addr × Obj)}{σ:St}{H:Hp}{s:Shared}{R:It->Hp->Prop}{E:Value->Shared->Prop}{lo hi:Int}{t u v:Tok}{tk:Nat}(I:Inv X pins σ H s)(h1:-(2 ^ 62)<=lo)(h2:lo<2 ^ 62)(h3:-(2 ^ 62)<=hi)(h4:hi<2 ^ 62)
 (q:R (Itr lo (hi-lo).toNat) H):wpAny (model X.prog X.w) X.A (pyIter (.ref s.heap.objs.size)) (PIE X pins σ tg R) E { s with heap:=s.heap.push { cls:=.type "range",data:=.fields #[.int lo t,.int hi u,.int 1 v] },toks:=tk }:=by
 refine wpAny_pyIter_range (IsRange.new ..) (small_one h1 h2 h3 h4) ?_;have I1:Inv X pins σ H { s with heap:=s.heap.push { cls:=.type "range",data:=.fields #[.int lo t,.int hi u,.int 1 v] },toks:=tk }:=I.kept fun b o e=>Heap.get?_push_of_some _ e;refine⟨(s.heap.push { cls:=.type "range",data:=.fields #[.int lo t,.int hi u,.int 1 v] }).objs.size,[(s.heap.push { cls:=.type "range",data:=.fields #[.int lo t,.int hi u,.int 1 v] }).objs.size],_,_,H,rfl,
  I1.kept (t':=tk) fun b o e=>Heap.get?_push_of_some _ e,v6 _ lo (hi-lo).toNat,?_,fun b hb=>?_,q⟩
 ·have e1:lo+((0:Nat):Int)*1=lo:=by simp
  have e2:(((hi-lo).toNat:Nat):Int)-((0:Nat):Int)=Y9 lo hi 1:=by rw[rangeSize_one];split <;> lia
  show IsRangeIter _ _ (lo+((0:Nat):Int)*1) ((((hi-lo).toNat:Nat):Int)-((0:Nat):Int)) 1;rw[e1,e2];exact Heap.get?_push_size _ rfl
 ·have e:b=(s.heap.push { cls:=.type "range",data:=.fields #[.int lo t,.int hi u,.int 1 v] }).objs.size:=by simpa using hb
  subst e;exact I1.fpOk (z5 _) (I1.hok.fresh (z5 _))
def DI(ta:TA):TI:=fun σ H R=>ta σ H fun vs H1=>∃j:Int,vs=[.int j] /\ -(2 ^ 62)<=j/\j<2 ^ 62/\R (Itr 0 j.toNat) H1
def Eh(ta:TA):TI:=fun σ H R=>ta σ H fun vs H1=>∃i j:Int,vs=[.int i,.int j]/\(-(2 ^ 62)<=i/\i<2 ^ 62 /\ -(2 ^ 62)<=j/\j<2 ^ 62)/\R (Itr i (j-i).toNat) H1
theorem iT{a:Expr}{ta:TA}{p pos:Pos}(hg:Gl X "range")(hm:X.mg "range" = none)(ha:PA X [a] ta)(hs:starEach [a] X.env=[(false,eval a X.env)]:=by rfl):PI X tg (.Call (.Name "range" p) [a] [] pos) (DI ta):=by
 intro pins s σ H R I h;refine Call_ (lI I hg hm boot_range (ZA (thn (ha pos pins s σ H _ I h) fun us s1 ⟨vs,H1,I1,r1,q1⟩=>?_) hs rfl));obtain⟨j,e,q1,q2,q⟩:=q1;subst e;cases r1 with
 |cons r rr=>
  cases rr;obtain⟨t,rfl⟩:=r;exact call_range_1 (ud I1 (by lia) (by lia) q1 q2 (by simpa using q))
theorem xL{a b:Expr}{ta:TA}{p pos:Pos}(hg:Gl X "range")(hm:X.mg "range" = none)(ha:PA X [a,b] ta)(hs:starEach [a,b] X.env=[(false,eval a X.env),(false,eval b X.env)]:=by rfl)(hs2:starEach [b] X.env=[(false,eval b X.env)]:=by rfl) :
 PI X tg (.Call (.Name "range" p) [a,b] [] pos) (Eh ta):=by
 intro pins s σ H R I h;refine Call_ (lI I hg hm boot_range (ZA (thn (ha pos pins s σ H _ I h) fun us s1 ⟨vs,H1,I1,r1,q1⟩=>?_) (by rw[hs,hs2]) (by rw[hs2];rfl)));obtain⟨i,j,e,⟨q1,q2,q3,q4⟩,q⟩:=q1;subst e;cases r1 with
 |cons r rr=>
  cases rr with
  |cons r' rr=>
   cases rr;obtain⟨t,rfl⟩:=r;obtain⟨t',rfl⟩:=r';exact call_range_2 (ud I1 q1 q2 q3 q4 q)
def o4(wi:TI)(g:TG)(tb:TS):TS:=fun D σ H=>wi σ H fun J H1=>∃W:Nat->Nat->St->Hp->Prop,(∃m,W 0 m σ H1)/\∀i m σ H,W i m σ H ->
 (J.stop i H/\D.nx σ H)\/(J.go i H/\∃N:St->Hp->Prop,(∀σ' H',N σ' H'->∃m',m'<m/\W (i+1) m' σ' H')/\∀x H',J.yld i H x H'->g x σ H' fun σ2 H2=>tb { D with nx:=N,ct:=N,bk:=D.nx } σ2 H2)
def nj(fp:List Addr)(h:Heap):List (Addr × Obj):=fp.filterMap fun b=>(h.get? b).map fun o=>(b,o)
theorem ij{fp:List Addr}{h:Heap}{b:Addr}{o:Obj}(hb:b∈fp)(e:h.get? b=some o):(b,o)∈nj fp h:=Y3.mpr ⟨b,hb,by rw[e];rfl⟩
theorem xY{h:Heap}(hp:p∈nj fp h):p.1∈fp/\h.get? p.1=some p.2:=by
 obtain⟨b,hb,e⟩:=Y3.mp hp;cases q:h.get? b with
 |none=>rw[q]at e;cases e
 |some o=>
  rw[q]at e;have e':(b,o)=p:=uF e;subst e';exact⟨hb,q⟩
theorem Inv.pinned{pins:List (Addr × Obj)}{σ:St}{H:Hp}{s:Shared}{fp:List Addr}(I:Inv X pins σ H s)(hf:∀b∈fp,j_ X pins H b)(ho:∀b∈fp,∃o,s.heap.get? b=some o/\∀v,o.data ≠ .cell v):Inv X (pins++nj fp s.heap) σ H s:=
 I.pins_of fun p hp=>(yI.mp hp).elim (fun z=>I.pin p (xU _ z)) fun z=>by
  obtain⟨hb,e⟩:=xY z;obtain⟨f0,f1,f2,_⟩:=hf p.1 hb;obtain⟨o,e',d⟩:=ho p.1 hb;rw[e]at e';cases e';exact⟨e,f0,f1,f2,d⟩
theorem Inv.unpinned{pins pl:List (Addr × Obj)}{σ:St}{H:Hp}{s:Shared}(I:Inv X (pins++pl) σ H s):Inv X pins σ H s:=I.pins_of fun p hp=>I.pin p (xU _ (vJ _ hp))
theorem dS{iter:Expr}{body:List Stmt}{wi:TI}{g:TG}{tb:TS}{pos:Pos}(hp:PassesOwn (model X.prog X.w) X.A X.env X.xe)(hc:X.calm=true)(hi:PI X tg iter wi)(hg:PG X tg g)(hb:PSs X body tb)
 (hs:∀x,ZH iter X.env x=pure x:=by intro _;rfl):PS X (.For tg iter body [] pos) (o4 wi g tb):=by
 intro pins s σ H D I h;refine wpAny_For (thn (hi pins s σ H _ I h) fun v s1 h1=>thn h1 fun itv s2 h2=>?_) hs;obtain⟨it,fp,tn,J,H2,e,I2,T,st2,f2,W,⟨m0,w0⟩,turn⟩:=h2;subst e;have stat:∀ {H':Hp},(∀b∈fp,H' b=none)->∀b∈fp,j_ X pins H' b:=fun hn b hb=>⟨hn b hb,(f2 b hb).2⟩;refine codeAny_forLoop_any (fun n s'=>∃i σ' H',Inv X pins σ' H' s'/\tn i s'.heap/\(∀b∈fp,H' b=none)/\W i n σ' H') ?_ m0 ⟨0,σ,H2,I2,st2,fun b hb=>(f2 b hb).1,w0⟩;rintro n s3 ⟨i,σ3,H3,I3,st3,fr3,w3⟩;rcases turn i n σ3 H3 w3 with ⟨stop,qn⟩|⟨go,N,hN,step⟩
 ·refine Z8 hp (thn (T.done X rfl rfl rfl hc i pins s3 σ3 H3 X.xe I3 (stat fr3) st3 stop) fun r s4 ⟨hr,I4⟩=>?_)
  subst hr;exact YB ⟨σ3,H3,I4,qn⟩
 ·refine Z8 hp (thn (T.item X rfl rfl rfl hc i pins s3 σ3 H3 X.xe I3 (stat fr3) st3 go) fun r s4 ⟨u,hr,h4⟩=>?_)
  subst hr;refine Z8 hp (thn h4 fun _ s5 ⟨x,H5,I5,r5,y5,st5,fr5⟩=>?_);have I5':=I5.pinned (stat fr5) (T.obj _ _ st5);refine Z8 hp (thn (hg _ s5 σ3 H5 x u _ I5' r5 (step x H5 y5)) fun _ s6 ⟨σ6,H6,I6,q6⟩=>?_);refine Z8 hp (thn (hb _ s6 σ6 H6 _ I6 q6) fun f s7 q7=>?_);have again:∀ {σ7:St} {H7:Hp},Inv X (pins++nj fp s5.heap) σ7 H7 s7->N σ7 H7->∃m,m<n/\∃i σ' H',Inv X pins σ' H' s7/\tn i s7.heap/\(∀b∈fp,H' b=none)/\W i m σ' H':=fun {σ7 H7} I7 n7=>by
   obtain⟨m',hm,w7⟩:=hN σ7 H7 n7;refine⟨m',hm,i+1,σ7,H7,I7.unpinned,T.keep _ _ _ st5 fun b hb o e=>(I7.pin (b,o) (xU _ (xU _ (ij hb e)))).1,fun b hb=>?_,w7⟩;obtain⟨o,e,d⟩:=T.obj _ _ st5 b hb;exact(I7.pin (b,o) (xU _ (xU _ (ij hb e)))).2.1
  cases f with
  |next=>obtain⟨σ7,H7,I7,n7⟩:=q7;exact again I7 n7
  |cont=>obtain⟨σ7,H7,I7,n7⟩:=q7;exact again I7 n7
  |brk=>obtain⟨σ7,H7,I7,q7⟩:=q7;exact⟨σ7,H7,I7.unpinned,q7⟩
  |ret v=>obtain⟨x7,σ7,H7,I7,r7,q7⟩:=q7;exact⟨x7,σ7,H7,I7.unpinned,r7,q7⟩
end
theorem gQ{K:W.Frag}{a:Addr}{xs:List V}{g:TG}{tb:TS}{D:fF}{σ:St}{H:Hp}(Pv:Nat->St->Hp->Prop)(h0:Pv 0 σ H)(hl:∀i σ H,i<=xs.length->Pv i σ H->SqL K H a xs)
 (hs:∀i x σ H,xs[i]? = some x->Pv i σ H->g x σ H fun σ2 H2=>tb { D with nx:=Pv (i+1),ct:=Pv (i+1),bk:=D.nx } σ2 H2) (hd:∀σ H,Pv xs.length σ H->D.nx σ H) :
 ∃W:Nat->Nat->St->Hp->Prop,(∃m,W 0 m σ H)/\∀i m σ H,W i m σ H ->
  ((Itl K a).stop i H/\D.nx σ H)\/((Itl K a).go i H/\∃N:St->Hp->Prop,(∀σ' H',N σ' H'->∃m',m'<m/\W (i+1) m' σ' H')/\∀x H',(Itl K a).yld i H x H'->g x σ H' fun σ2 H2=>tb { D with nx:=N,ct:=N,bk:=D.nx } σ2 H2):=by
 refine⟨fun i m σ H=>m=xs.length-i/\i<=xs.length/\Pv i σ H,⟨xs.length,by simp,xm _,h0⟩,?_⟩;rintro i m σ H ⟨rfl,hi,p⟩;have q:=hl i σ H hi p;by_cases hlt:i<xs.length
 ·refine .inr ⟨⟨xs,xs[i],q,by simp[hlt]⟩,Pv (i+1),fun σ' H' p'=>⟨xs.length-(i+1),by lia,rfl,hlt,p'⟩,fun x H' y=>?_⟩
  obtain⟨e,y⟩:=y;subst e;exact hs i x σ _ (y xs q) p
 ·have e:i=xs.length:=by lia
  subst e;exact .inl ⟨⟨xs,q,z5 _⟩,hd σ H p⟩
theorem CA{K:W.Frag}{a:Addr}{xs:List V}{g:TG}{tb:TS}{D:fF}{σ:St}{H:Hp}(Pv:Nat->St->Hp->Prop)(h0:Pv 0 σ H)(hl:∀i σ H,i<=xs.length->Pv i σ H->SqT K H a xs)
 (hs:∀i x σ H,xs[i]? = some x->Pv i σ H->g x σ H fun σ2 H2=>tb { D with nx:=Pv (i+1),ct:=Pv (i+1),bk:=D.nx } σ2 H2) (hd:∀σ H,Pv xs.length σ H->D.nx σ H) :
 ∃W:Nat->Nat->St->Hp->Prop,(∃m,W 0 m σ H)/\∀i m σ H,W i m σ H ->
  ((Itt K a).stop i H/\D.nx σ H)\/((Itt K a).go i H/\∃N:St->Hp->Prop,(∀σ' H',N σ' H'->∃m',m'<m/\W (i+1) m' σ' H')/\∀x H',(Itt K a).yld i H x H'->g x σ H' fun σ2 H2=>tb { D with nx:=N,ct:=N,bk:=D.nx } σ2 H2):=by
 refine⟨fun i m σ H=>m=xs.length-i/\i<=xs.length/\Pv i σ H,⟨xs.length,by simp,xm _,h0⟩,?_⟩;rintro i m σ H ⟨rfl,hi,p⟩;have q:=hl i σ H hi p;by_cases hlt:i<xs.length
 ·refine .inr ⟨⟨xs,xs[i],q,by simp[hlt]⟩,Pv (i+1),fun σ' H' p'=>⟨xs.length-(i+1),by lia,rfl,hlt,p'⟩,fun x H' y=>?_⟩
  obtain⟨e,y⟩:=y;subst e;exact hs i x σ _ (y xs q) p
 ·have e:i=xs.length:=by lia
  subst e;exact .inl ⟨⟨xs,q,z5 _⟩,hd σ H p⟩
theorem iY{lo:Int}{n:Nat}{g:TG}{tb:TS}{D:fF}{σ:St}{H:Hp}(Pv:Nat->St->Hp->Prop)(h0:Pv 0 σ H)
 (hs:∀i σ H,i<n->Pv i σ H->g (.int (lo+i)) σ H fun σ2 H2=>tb { D with nx:=Pv (i+1),ct:=Pv (i+1),bk:=D.nx } σ2 H2) (hd:∀σ H,Pv n σ H->D.nx σ H) :
 ∃W:Nat->Nat->St->Hp->Prop,(∃m,W 0 m σ H)/\∀i m σ H,W i m σ H ->
  ((Itr lo n).stop i H/\D.nx σ H)\/((Itr lo n).go i H/\∃N:St->Hp->Prop,(∀σ' H',N σ' H'->∃m',m'<m/\W (i+1) m' σ' H')/\∀x H',(Itr lo n).yld i H x H'->g x σ H' fun σ2 H2=>tb { D with nx:=N,ct:=N,bk:=D.nx } σ2 H2):=by
 refine⟨fun i m σ H=>m=n-i/\i<=n/\Pv i σ H,⟨n,by simp,xm _,h0⟩,?_⟩;rintro i m σ H ⟨rfl,hi,p⟩;by_cases hlt:i<n
 ·refine .inr ⟨hlt,Pv (i+1),fun σ' H' p'=>⟨n-(i+1),by lia,rfl,hlt,p'⟩,fun x H' y=>?_⟩
  obtain⟨e,y⟩:=y;subst e y;exact hs i σ _ hlt p
 ·have e:i=n:=by lia
  subst e;exact .inl ⟨z5 _,hd σ H p⟩
abbrev R2:=V->V->Hp->VK->Prop
def OpR(X:Cx)(f:Value->Value->Sem Value)(r:R2):Prop:=
 ∀(pins:List (Addr × Obj)) (s:Shared) (σ:St) (H:Hp) (x y:V) (v u:Value) (Q:VK),Inv X pins σ H s->RelV x v->RelV y u->r x y H Q ->
  wpAny (model X.prog X.w) X.A (f v u) (EP X pins σ Q) X.xe s
def UnR(X:Cx)(f:Value->Sem Value)(r:V->Hp->VK->Prop):Prop:=
 ∀(pins:List (Addr × Obj)) (s:Shared) (σ:St) (H:Hp) (x:V) (v:Value) (Q:VK),Inv X pins σ H s->RelV x v->r x H Q ->
  wpAny (model X.prog X.w) X.A (f v) (EP X pins σ Q) X.xe s
def CallR(X:Cx)(f:Value)(r:List V->Hp->VK->Prop):Prop:=
 ∀(pins:List (Addr × Obj)) (s:Shared) (σ:St) (H:Hp) (xs:List V) (us:List Value) (Q:VK),Inv X pins σ H s->Vals xs us->r xs H Q ->
  wpAny (model X.prog X.w) X.A (call f us) (EP X pins σ Q) X.xe s
def HG(X:Cx)(r:V->Hp->(Bool->Hp->Prop)->Prop):Prop:=
 ∀(pins:List (Addr × Obj)) (s:Shared) (σ:St) (H:Hp) (x:V) (v:Value) (Q:Bool->Hp->Prop),Inv X pins σ H s->RelV x v->r x H Q ->
  wpAny (model X.prog X.w) X.A (truthy v) (TP X pins σ Q) X.xe s
def tOp(r:R2)(ta tb:TE):TE:=fun σ H Q=>ta σ H fun x H1=>tb σ H1 fun y H2=>r x y H2 Q
def tUn(r:V->Hp->VK->Prop)(ta:TE):TE:=fun σ H Q=>ta σ H fun x H1=>r x H1 Q
def rI(C:Int->Int->Prop)(g:Int->Int->V):R2:=fun x y H Q=>∃i j,x = .int i/\y = .int j/\C i j/\Q (g i j) H
def rI0(g:Int->Int->V):R2:=fun x y H Q=>∃i j,x = .int i/\y = .int j/\Q (g i j) H
def rU(g:Int->V):V->Hp->VK->Prop:=fun x H Q=>∃i,x = .int i/\Q (g i) H
section
variable{X:Cx}{a b c:Expr}{ta tb tc:TE}{pos:Pos}
theorem EZ(ha:PE X a ta)(hb:PE X b tb){pins:List (Addr × Obj)}{s:Shared}{σ:St}{H:Hp}{R:V->V->Hp->Prop}(I:Inv X pins σ H s)
 (h:ta σ H fun x H1=>tb σ H1 fun y H2=>R x y H2) {Q:Value->Shared->Prop} {f:Value->Value->Sem Value}
 (hf:∀v u s2 x y H2,Inv X pins σ H2 s2->RelV x v->RelV y u->R x y H2->wpAny (model X.prog X.w) X.A (f v u) Q X.xe s2) :
 wpAny (model X.prog X.w) X.A (eval a X.env) (fun v s₁=>wpAny (model X.prog X.w) X.A (eval b X.env) (fun u s₂=>wpAny (model X.prog X.w) X.A (f v u) Q X.xe s₂) X.xe s₁) X.xe s:=by
 refine thn (ha pins s σ H _ I h) fun v s1 ⟨x,H1,I1,r1,q1⟩=>?_;refine thn (hb pins s1 σ H1 _ I1 q1) fun u s2 ⟨y,H2,I2,r2,q2⟩=>?_;exact hf v u s2 x y H2 I2 r1 r2 q2
theorem av{op:Operator}{r:R2}(ho:OpR X (binaryOp op) r)(ha:PE X a ta)(hb:PE X b tb):PE X (.BinOp a op b pos) (tOp r ta tb):=by
 intro pins s σ H Q I h;exact wpAny_BinOp (EZ ha hb I h fun v u s2 x y H2 I2 rx ry q=>ho pins s2 σ H2 x y v u Q I2 rx ry q)
theorem Au{op:UnaryOp}{r:V->Hp->VK->Prop}(ho:UnR X (unaryOp op) r)(ha:PE X a ta):PE X (.UnaryOp op a pos) (tUn r ta):=by
 intro pins s σ H Q I h;exact UnaryOp_ (thn (ha pins s σ H _ I h) fun v s1 ⟨x,H1,I1,r1,q1⟩=>ho pins s1 σ H1 x v Q I1 r1 q1)
theorem opI{f:Value->Value->Sem Value}{C:Int->Int->Prop}{g:Int->Int->Int}
 (rule:∀(i j:Int) (t u:Tok) (s:Shared) (Q:Value->Shared->Prop) (E:Value->Shared->Prop),C i j->Q (.int (g i j) s.toks) { s with toks:=s.toks+1 }->wpAny (model X.prog X.w) X.A (f (.int i t) (.int j u)) Q E s) :
 OpR X f (rI C fun i j=>.int (g i j)):=by
 intro pins s σ H x y v u Q I rx ry h;obtain⟨i,j,rfl,rfl,hc,q⟩:=h;obtain⟨t,rfl⟩:=rx;obtain⟨t',rfl⟩:=ry;exact rule i j t t' s _ _ hc ⟨.int (g i j),H,I.tok _,⟨_,rfl⟩,q⟩
theorem Hi{f:Value->Value->Sem Value}{g:Int->Int->Int}
 (rule:∀(i j:Int) (t u:Tok) (s:Shared) (Q:Value->Shared->Prop) (E:Value->Shared->Prop),Q (.int (g i j) s.toks) { s with toks:=s.toks+1 }->wpAny (model X.prog X.w) X.A (f (.int i t) (.int j u)) Q E s) :
 OpR X f (rI0 fun i j=>.int (g i j)):=by
 intro pins s σ H x y v u Q I rx ry h;obtain⟨i,j,rfl,rfl,q⟩:=h;obtain⟨t,rfl⟩:=rx;obtain⟨t',rfl⟩:=ry;exact rule i j t t' s _ _ ⟨.int (g i j),H,I.tok _,⟨_,rfl⟩,q⟩
theorem FV{f:Value->Value->Sem Value}{g:Int->Int->Bool}
 (rule:∀(i j:Int) (t u:Tok) (s:Shared) (Q:Value->Shared->Prop) (E:Value->Shared->Prop),Q (.bool (g i j)) s->wpAny (model X.prog X.w) X.A (f (.int i t) (.int j u)) Q E s) :
 OpR X f (rI0 fun i j=>.bl (g i j)):=by
 intro pins s σ H x y v u Q I rx ry h;obtain⟨i,j,rfl,rfl,q⟩:=h;obtain⟨t,rfl⟩:=rx;obtain⟨t',rfl⟩:=ry;exact rule i j t t' s _ _ ⟨.bl (g i j),H,I,rfl,q⟩
def Gg(i j:Int):Prop:=0<j/\j<1073741824
def E3(i j:Int):Prop:=0<=j/\j<=1000000/\i.natAbs<2 ^ 64
def CMul(i j:Int):Prop:=(-(2 ^ 64)<i/\i<2 ^ 64)\/(-(2 ^ 64)<j/\j<2 ^ 64)
theorem CMul.ok{i j:Int}(h:CMul i j):IntMulOk i j:=by
 rcases h with ⟨h1,h2⟩|⟨h1,h2⟩
 ·exact .of_left (intBits_le_64 h1 h2)
 ·exact .of_right (intBits_le_64 h1 h2)
theorem Ey:OpR X (binaryOp .Add) (rI0 fun i j=>.int (i+j)):=Hi fun _ _ _ _ _ _ _ q=>add_int q
theorem EQ:OpR X (binaryOp .Sub) (rI0 fun i j=>.int (i-j)):=Hi fun _ _ _ _ _ _ _ q=>sub_int q
theorem F6:OpR X (binaryOp .Mult) (rI CMul fun i j=>.int (i*j)):=opI fun _ _ _ _ _ _ _ hc q=>mul_int q hc.ok
theorem C4:OpR X (binaryOp .FloorDiv) (rI Gg fun i j=>.int (i / j)):=opI fun i j _ _ _ _ _ hc q=>by
 have h1:(0:Int)<j:=hc.1;have h2:j<1073741824:=hc.2;exact floordiv_int (by lia) (by rw[Int.fdiv_eq_ediv_of_nonneg i (by lia)];exact q) (.inl (PyProof.noPylong_small (by lia)))
theorem EW:OpR X (binaryOp .Mod) (rI (fun _ j=>0<j) fun i j=>.int (i % j)):=opI fun i j _ _ _ _ _ hc q=>by
 have h1:(0:Int)<j:=hc;exact mod_int' (by lia) (by rw[Int.fmod_eq_emod_of_nonneg i (by lia)];exact q)
theorem EM:OpR X (binaryOp .Pow) (rI E3 fun i j=>.int (i ^ j.toNat)):=opI fun _ _ _ _ _ _ _ hc q=>pow_int_small hc.1 hc.2.1 hc.2.2 q
theorem unI{f:Value->Sem Value}{g:Int->Int}
 (rule:∀(i:Int) (t:Tok) (s:Shared) (Q:Value->Shared->Prop) (E:Value->Shared->Prop),Q (.int (g i) s.toks) { s with toks:=s.toks+1 }->wpAny (model X.prog X.w) X.A (f (.int i t)) Q E s) :
 UnR X f (rU fun i=>.int (g i)):=by
 intro pins s σ H x v Q I rx h;obtain⟨i,rfl,q⟩:=h;obtain⟨t,rfl⟩:=rx;exact rule i t s _ _ ⟨.int (g i),H,I.tok _,⟨_,rfl⟩,q⟩
theorem E_:UnR X (unaryOp .USub) (rU fun i=>.int (-i)):=unI fun _ _ _ _ _ q=>neg_int q
end
def Eo:V->V->Bool
 | .non,.non=>true | .non,.int _=>true | .int _,.non=>true | .non,.bl _=>true | .bl _,.non=>true | .non,.str _=>true | .str _,.non=>true
 | .int _,.int _=>true | .bl _,.bl _=>true | .str _,.str _=>true | .byt _,.byt _=>true
 | .int _,.str _=>true | .str _,.int _=>true | .bl _,.str _=>true | .str _,.bl _=>true
 |_,_=>false
def rEq:R2:=fun x y H Q=>Eo x y=true/\Q (.bl (decide (x=y))) H
def rNe:R2:=fun x y H Q=>Eo x y=true/\Q (.bl (!decide (x=y))) H
theorem w6:decide (V.int i=V.int j)=(i==j):=by
 rw[Yy];simp
theorem zT:decide (V.bl i=V.bl j)=(i==j):=by
 rw[Yy];simp
theorem wF:decide (V.str i=V.str j)=(i==j):=by
 rw[Yy];simp
theorem ww{i j:Array UInt8}:decide (V.byt i=V.byt j)=(i.toList==j.toList):=by
 rw[Yy];cases i;cases j;simp
section
variable{X:Cx}{a b c:Expr}{ta tb tc:TE}{pos:Pos}
theorem bi(I:Inv X pins σ H s)(q:Q (.bl k) H)(e:k=k'):EP X pins σ Q (.bool k') s:=by
 subst e;exact⟨.bl k,H,I,rfl,q⟩
theorem Ho:OpR X (uK .Eq) rEq:=by
 intro pins s σ H x y v u Q I rx ry h;obtain⟨hs,q⟩:=h;cases x with
 |non=>
  cases rx;cases y with
  |non=>cases ry;exact PySem.EqNone.eq_none_none (bi I q (by simp))
  |bl j=>cases ry;exact PySem.EqNone.eq_none_bool (bi I q (by simp))
  |int j=>obtain⟨t',rfl⟩:=ry;exact PySem.EqNone.eq_none_int (bi I q (by simp))
  |str j=>obtain⟨t',rfl⟩:=ry;exact PySem.EqNone.eq_none_str (bi I q (by simp))
  |_=>exact absurd (show false=true from hs) y9
 |bl i=>
  cases rx;cases y with
  |non=>cases ry;exact PySem.EqNone.eq_bool_none (bi I q (by simp))
  |bl j=>cases ry;exact eq_bool (bi I q zT)
  |str j=>obtain⟨t',rfl⟩:=ry;exact PySem.EqMixed.eq_bool_str (bi I q (by simp))
  |_=>exact absurd (show false=true from hs) y9
 |int i=>
  obtain⟨t,rfl⟩:=rx;cases y with
  |non=>cases ry;exact PySem.EqNone.eq_int_none (bi I q (by simp))
  |int j=>obtain⟨t',rfl⟩:=ry;exact eq_int (bi I q w6)
  |str j=>obtain⟨t',rfl⟩:=ry;exact PySem.EqMixed.eq_int_str (bi I q (by simp))
  |_=>exact absurd (show false=true from hs) y9
 |str i=>
  obtain⟨t,rfl⟩:=rx;cases y with
  |non=>cases ry;exact PySem.EqNone.eq_str_none (bi I q (by simp))
  |bl j=>cases ry;exact PySem.EqMixed.eq_str_bool (bi I q (by simp))
  |int j=>obtain⟨t',rfl⟩:=ry;exact PySem.EqMixed.eq_str_int (bi I q (by simp))
  |str j=>obtain⟨t',rfl⟩:=ry;exact eq_str (bi I q wF)
  |_=>exact absurd (show false=true from hs) y9
 |byt i=>
  obtain⟨t,rfl⟩:=rx;cases y with
  |byt j=>obtain⟨t',rfl⟩:=ry;exact PySem.W.eq_bytes (bi I q ww)
  |_=>exact absurd (show false=true from hs) y9
 |_=>cases y <;> exact absurd (show false=true from hs) y9
theorem Hn:OpR X (uK .NotEq) rNe:=by
 intro pins s σ H x y v u Q I rx ry h;obtain⟨hs,q⟩:=h;cases x with
 |non=>
  cases rx;cases y with
  |non=>cases ry;exact PySem.EqNone.ne_none_none (bi I q (by simp))
  |bl j=>cases ry;exact PySem.EqNone.ne_none_bool (bi I q (by simp))
  |int j=>obtain⟨t',rfl⟩:=ry;exact PySem.EqNone.ne_none_int (bi I q (by simp))
  |str j=>obtain⟨t',rfl⟩:=ry;exact PySem.EqNone.ne_none_str (bi I q (by simp))
  |_=>exact absurd (show false=true from hs) y9
 |bl i=>
  cases rx;cases y with
  |non=>cases ry;exact PySem.EqNone.ne_bool_none (bi I q (by simp))
  |bl j=>cases ry;exact ne_bool (bi I q (congrArg not zT))
  |str j=>obtain⟨t',rfl⟩:=ry;exact PySem.EqMixed.ne_bool_str (bi I q (by simp))
  |_=>exact absurd (show false=true from hs) y9
 |int i=>
  obtain⟨t,rfl⟩:=rx;cases y with
  |non=>cases ry;exact PySem.EqNone.ne_int_none (bi I q (by simp))
  |int j=>obtain⟨t',rfl⟩:=ry;exact ne_int (bi I q (congrArg not w6))
  |str j=>obtain⟨t',rfl⟩:=ry;exact PySem.EqMixed.ne_int_str (bi I q (by simp))
  |_=>exact absurd (show false=true from hs) y9
 |str i=>
  obtain⟨t,rfl⟩:=rx;cases y with
  |non=>cases ry;exact PySem.EqNone.ne_str_none (bi I q (by simp))
  |bl j=>cases ry;exact PySem.EqMixed.ne_str_bool (bi I q (by simp))
  |int j=>obtain⟨t',rfl⟩:=ry;exact PySem.EqMixed.ne_str_int (bi I q (by simp))
  |str j=>obtain⟨t',rfl⟩:=ry;exact ne_str (bi I q (congrArg not wF))
  |_=>exact absurd (show false=true from hs) y9
 |byt i=>
  obtain⟨t,rfl⟩:=rx;cases y with
  |byt j=>obtain⟨t',rfl⟩:=ry;exact PySem.W.ne_bytes (bi I q (congrArg not ww))
  |_=>exact absurd (show false=true from hs) y9
 |_=>cases y <;> exact absurd (show false=true from hs) y9
theorem GI:OpR X (uK .Lt) (rI0 fun i j=>.bl (decide (i<j))):=FV fun _ _ _ _ _ _ _ q=>lt_int q
theorem Hq:OpR X (uK .LtE) (rI0 fun i j=>.bl (decide (i<=j))):=FV fun _ _ _ _ _ _ _ q=>le_int q
theorem Hb:OpR X (uK .Gt) (rI0 fun i j=>.bl (decide (j<i))):=FV fun _ _ _ _ _ _ _ q=>gt_int q
theorem ye:OpR X (uK .Lt) (fun x y H Q=>∃i j,x = .str i/\y = .str j/\Q (.bl (decide (i.cps.toList<j.cps.toList))) H):=by
 intro pins s σ H x y v u Q I rx ry h;obtain⟨i,j,rfl,rfl,q⟩:=h;obtain⟨t,rfl⟩:=rx;obtain⟨t',rfl⟩:=ry;exact lt_str (bi I q rfl)
theorem ya:OpR X (uK .In) (fun x y H Q=>∃i j,x = .str i/\y = .str j/\Q (.bl (!(Builtin.Str.occurrences j i 0 j.length 1).isEmpty)) H):=by
 intro pins s σ H x y v u Q I rx ry h;obtain⟨i,j,rfl,rfl,q⟩:=h;obtain⟨t,rfl⟩:=rx;obtain⟨t',rfl⟩:=ry;exact in_str (bi I q rfl)
theorem OpR.or{f:Value->Value->Sem Value}{r r':R2}(h:OpR X f r)(h':OpR X f r'):OpR X f (fun x y H Q=>r x y H Q\/r' x y H Q):=by
 intro pins s σ H x y v u Q I rx ry q;rcases q with q|q
 ·exact h pins s σ H x y v u Q I rx ry q
 ·exact h' pins s σ H x y v u Q I rx ry q
theorem dY(b:Expr)(h:op ≠ .In:=by decide)(h2:op ≠ .NotIn:=by decide):Z0 op b=false:=by
 have e1:(op==CmpOp.In)=false:=by cases op <;> first|rfl|exact absurd rfl h
 have e2:(op==CmpOp.NotIn)=false:=by cases op <;> first|rfl|exact absurd rfl h2
 cases b <;> simp[Z0,e1,e2]
theorem cY{op:CmpOp}{r:R2}(ho:OpR X (uK op) r)(ha:PE X a ta)(hb:PE X b tb)(hm:Z0 op b=false):PE X (.Compare a [op] [b] pos) (tOp r ta tb):=by
 intro pins s σ H Q I h;exact wpAny_Compare1 (EZ ha hb I h fun v u s2 x y H2 I2 rx ry q=>ho pins s2 σ H2 x y v u Q I2 rx ry q) hm
def HR(K:W.Frag)(x:V)(H:Hp)(k:Bool):Prop:=
 match x with
 | .non=>k=false
 | .bl b=>k=b
 | .int i=>k=(i != 0)
 | .str y=>y.length<=sizeLine/\k=((y.length:Int) != 0)
 | .byt y=>y.size<=sizeLine/\k=((y.size:Int) != 0)
 | .ref p=>(∃xs,SqL K H p xs/\k = !xs.isEmpty)\/(∃xs,SqT K H p xs/\k = !xs.isEmpty)\/∃kvs,H p=some (.dK kvs)/\k = !kvs.isEmpty
 |_=>False
theorem vO{κ:Type}{kvs:List (κ × V)}{vs:List (κ × Value)}(r:KV kvs vs):(!vs.isEmpty) = !kvs.isEmpty:=by
 cases r <;> rfl
theorem m4{xs:List V}{its:List Value}(r:Vals xs its):(!its.toArray.isEmpty) = !xs.isEmpty:=by
 cases r <;> simp
theorem ju:(sizeLine:Nat)<2 ^ 63:=by rw[xM];decide
theorem HI:HG X (fun x H Q=>∃k,HR X.K x H k/\Q k H):=by
 intro pins s σ H x v Q I rx h;obtain⟨k,e,q⟩:=h;have hl:=ju;have hs:sizeLine=16777216:=xM;cases x with
 |non=>
  cases rx;have e':k=false:=e;subst e';exact truthy_none ⟨H,I,q⟩
 |bl b=>
  cases rx;have e':k=b:=e;subst e';exact sS ⟨H,I,q⟩
 |int i=>
  obtain⟨t,rfl⟩:=rx;have e':k=(i != 0):=e;subst e';exact PySem.P.truthy_int ⟨H,I,q⟩
 |str y=>
  obtain⟨t,rfl⟩:=rx;obtain⟨hy,e'⟩:y.length<=sizeLine/\k=((y.length:Int) != 0):=e;subst e';exact PySem.P.truthy_str (by lia) ⟨H,I.tok _,q⟩
 |byt y=>
  obtain⟨t,rfl⟩:=rx;obtain⟨hy,e'⟩:y.size<=sizeLine/\k=((y.size:Int) != 0):=e;subst e';exact PySem.W.truthy_bytes (by lia) ⟨H,I.tok _,q⟩
 |ref p=>
  cases rx;have e':(∃xs,SqL X.K H p xs/\k = !xs.isEmpty)\/(∃xs,SqT X.K H p xs/\k = !xs.isEmpty)\/∃kvs,H p=some (.dK kvs)/\k = !kvs.isEmpty:=e;rcases e' with ⟨xs,hx,e'⟩|⟨xs,hx,e'⟩|⟨kvs,hx,e'⟩
  ·subst e'
   obtain⟨its,r,pl,hz⟩:=I.list hx;have hlen:=r.length;exact wpAny_truthy_list pl.isList (by simp only[yp];lia) ⟨H,I.tok _,by rw[m4 r];exact q⟩
  ·subst e'
   obtain⟨its,r,pl,hz⟩:=I.tuple hx;have hlen:=r.length;exact truthy_tuple pl (by simp only[yp];lia) ⟨H,I.tok _,by rw[m4 r];exact q⟩
  ·subst e'
   obtain⟨hz,hS,vs,r,m⟩:kvs.length<=sizeLine/\(p==ZW)=false/\∃vs,KV kvs vs/\s.heap.DictOf (bC X.prog X.w) p vs:=I.hok p _ hx;have hlen:kvs.length=vs.length:=Paired.length r;exact wpAny_truthy_dict hS m (by lia) ⟨H,I.tok _,by rw[vO r];exact q⟩
 |_=>exact(show False from e).elim
theorem uO:OpR X (binaryOp .Add) (fun x y H Q=>∃i j,x = .str i/\y = .str j/\i.length+j.length<=sizeLine/\Q (.str (i++j)) H):=by
 intro pins s σ H x y v u Q I rx ry h;obtain⟨i,j,rfl,rfl,hz,q⟩:=h;obtain⟨t,rfl⟩:=rx;obtain⟨t',rfl⟩:=ry;exact add_str (fun t' tk=>⟨.str (i++j),H,I.tok _,⟨_,rfl⟩,q⟩) hz
theorem eS(r:Vals [x] us):∃u,us=[u]/\RelV x u:=by
 cases r with
 |cons r1 r2=>cases r2;exact⟨_,rfl,r1⟩
theorem v7(r:Vals [x,y] us):∃u w',us=[u,w']/\RelV x u/\RelV y w':=by
 cases r with
 |cons r1 r2=>
  cases r2 with
  |cons r3 r4=>cases r4;exact⟨_,_,rfl,r1,r3⟩
theorem yK(hc:X.calm=true):CallR X (.builtin "max") (fun xs H Q=>∃i j,xs=[.int i,.int j]/\Q (.int (if j > i then j else i)) H):=by
 intro pins s σ H xs us Q I r h;obtain⟨i,j,rfl,q⟩:=h;obtain⟨u,w',rfl,⟨t,rfl⟩,⟨t',rfl⟩⟩:=v7 r;refine max_two_ints (I.ok.hd hc) fun h' tk k=>⟨_,H,I.kept k,?_,q⟩;by_cases hj:j > i
 ·rw[if_pos hj,if_pos hj];exact⟨_,rfl⟩
 ·rw[if_neg hj,if_neg hj];exact⟨_,rfl⟩
theorem xw(hc:X.calm=true):CallR X (.builtin "min") (fun xs H Q=>∃i j,xs=[.int i,.int j]/\Q (.int (if j<i then j else i)) H):=by
 intro pins s σ H xs us Q I r h;obtain⟨i,j,rfl,q⟩:=h;obtain⟨u,w',rfl,⟨t,rfl⟩,⟨t',rfl⟩⟩:=v7 r;refine min_two_ints (I.ok.hd hc) fun h' tk k=>⟨_,H,I.kept k,?_,q⟩;by_cases hj:j<i
 ·rw[if_pos hj,if_pos hj];exact⟨_,rfl⟩
 ·rw[if_neg hj,if_neg hj];exact⟨_,rfl⟩
theorem yC:CallR X (.type "int") (fun xs H Q=>(∃i,xs=[.int i]/\Q (.int i) H)\/∃k,xs=[.bl k]/\Q (.int (if k then 1 else 0)) H):=by
 intro pins s σ H xs us Q I r h;rcases h with ⟨i,rfl,q⟩|⟨k,rfl,q⟩
 ·obtain⟨u,rfl,t,rfl⟩:=eS r
  exact call_int_int ⟨.int i,H,I,⟨_,rfl⟩,q⟩
 ·obtain⟨u,rfl,r1⟩:=eS r
  cases r1;exact call_int_bool ⟨.int (if k then 1 else 0),H,I.tok _,⟨_,rfl⟩,q⟩
def HH(K:W.Frag)(x:V)(H:Hp)(n:Nat):Prop:=
 match x with
 | .str y=>y.length<=sizeLine/\n=y.length
 | .byt y=>y.size<=sizeLine/\n=y.size
 | .ref p=>(∃xs,SqL K H p xs/\n=xs.length)\/∃xs,SqT K H p xs/\n=xs.length
 |_=>False
theorem zP:CallR X (.builtin "len") (fun xs H Q=>∃x n,xs=[x]/\HH X.K x H n/\Q (.int n) H):=by
 intro pins s σ H xs us Q I r h;obtain⟨x,n,rfl,e,q⟩:=h;obtain⟨u,rfl,rx⟩:=eS r;have hl:=ju;have hs:sizeLine=16777216:=xM;cases x with
 |str y=>
  obtain⟨t,rfl⟩:=rx;obtain⟨hy,e'⟩:y.length<=sizeLine/\n=y.length:=e;subst e';exact len_str (by lia) ⟨.int _,H,I.tok _,⟨_,rfl⟩,q⟩
 |byt y=>
  obtain⟨t,rfl⟩:=rx;obtain⟨hy,e'⟩:y.size<=sizeLine/\n=y.size:=e;subst e';exact PySem.W.len_bytes (by lia) ⟨.int _,H,I.tok _,⟨_,rfl⟩,q⟩
 |ref p=>
  cases rx;have e':(∃xs,SqL X.K H p xs/\n=xs.length)\/∃xs,SqT X.K H p xs/\n=xs.length:=e;rcases e' with ⟨xs,hx,e'⟩|⟨xs,hx,e'⟩
  ·subst e'
   obtain⟨its,r',pl,hz⟩:=I.list hx;have hlen:=r'.length;exact Calls.call_len_list pl.isList (by simp only[yp];lia) ⟨.int xs.length,H,I.tok _,⟨_,by simp only[yp];rw[hlen]⟩,q⟩
  ·subst e'
   obtain⟨its,r',pl,hz⟩:=I.tuple hx;have hlen:=r'.length;exact len_tuple pl (by simp only[yp];lia) ⟨.int xs.length,H,I.tok _,⟨_,by simp only[yp];rw[hlen]⟩,q⟩
 |_=>exact(show False from e).elim
end
structure ObjM(h:Heap)(x dx C:Addr)(mA:Str->Option Value):Prop where
 obj:h.get? x=some (ZE C dx)
 ns:h.Ns1 dx mA
 ne:dx≠x
theorem xX{h:Heap}(n:h.Ns1 dx mA):∃od,h.get? dx=some od/\∀name,PySem.W.lookIn name od=some (mA name):=by
 obtain⟨o,es,ep,ho,hd,hk,_,hm⟩:=n;refine⟨o,ho,fun name=>?_⟩;have e:=hm name;unfold nsFind findBy at e;rw[<- Array.find?_toList]at e;unfold PySem.W.lookIn;rw[hd];dsimp only;split
 ·rename_i y q
  rw[q]at e;exact congrArg some e
 ·rename_i q
  rw[q]at e;have a:es.toList.any (·.refKey)=false:=by
   rw[List.any_eq_false];intro y hy;obtain⟨z,t,hkey⟩:=hk y (Array.mem_toList_iff.mp hy);simp[Y6.refKey,hkey]
  have a':¬ es.toList.any (·.refKey)=true:=by rw[a];exact y9
  rw[if_neg a'];exact congrArg some e
theorem ObjM.look(I:ObjM h x dx C mA):∃od,PySem.W.InstAt h x (ZE C dx) C (some od)/\∀name,PySem.W.lookIn name od=some (mA name):=
 let ⟨od,ho,hl⟩:=xX I.ns
 ⟨od,⟨I.obj,rfl,rfl,ho⟩,hl⟩
section
variable{prog:Program}{w:World}{A:Around}{E:Value->Shared->Prop}{s:Shared}{K:W.Frag}{x dx C f:Addr}{mA:Str->Option Value}{name:Str}{v:Value}
theorem Cl(X:K.In s.heap)(I:ObjM s.heap x dx C mA)(hg:PySem.W.plainGet K C name=true)(hh:YT K C=true)
 (ha:vj K (.ref C) name=some none) (hv:mA name=some v) (hv':PySem.W.handedIn v=true) (h:Q v { s with toks:=s.toks+1 }) :
 wpAny (model prog w) A (getAttr (.ref x) name expr) Q E s:=by
 obtain⟨od,J,hl⟩:=I.look;exact PySem.W.get_value X J (PySem.W.plainGet_of hg).1 (PySem.W.findObj_own hh ha rfl (by rw[hl,hv])) hv' h
theorem zM{Q:Value × List Value->Shared->Prop}(X:K.In s.heap)(I:ObjM s.heap x dx C mA)(hg:PySem.W.plainGet K C name=true)
 (hf:vj K (.ref C) name=some (some (.ref f))) (ht:PySem.W.isFn K (.ref f)=true) (hv:mA name=none) (h:Q (.ref f,[.ref x]) s) :
 wpAny (model prog w) A (getMethod (.ref x) name pl) Q E s:=by
 obtain⟨od,J,hl⟩:=I.look;exact PySem.W.method_fn X J (PySem.W.plainGet_of hg).1 (PySem.W.plainGet_of hg).2 hf (beq_iff_eq.mp ht) (by show(PySem.W.lookIn name od).map (·.isSome)=some false;rw[hl,hv];rfl) h
theorem BX{ns:List Str}(X:K.In s.heap)(I:ObjM s.heap x dx C mA)
 (hs:vj K (.ref C) "__setattr__" = some (some (.builtin "object.__setattr__"))) (hp:PySem.W.plainOver K C=true) (ht:PySem.W.takerIn K C name=some none) (hh:YT K C=true)
 (hw:PySem.Within mA ns) (hsz:ns.length<=sizeLine)
 (h:∀h',ObjM h' x dx C (fun y=>if y=name then some v else mA y)->Heap.SameBut dx s.heap h'->Q () { s with heap:=h',toks:=s.toks+2 }) :
 wpAny (model prog w) A (setAttr (.ref x) name v) Q E s:=by
 obtain⟨od,J,hl⟩:=I.look;refine PySem.W.set_plain X J hs (PySem.W.osa_open (s:={ s with toks:=s.toks+1 }) (r:=none) X J hp ht fun b=>?_);obtain⟨cd,hc,hd'⟩:=PySem.W.any_some hh;have hx:s.heap.get? x=some ⟨.ref C,some dx,.plain,#[]⟩:=I.obj;refine zw (yt (zw (zw (wpAny_loadPart hx (zw (PySem.W.Looks.here (s:={ s with toks:=s.toks+1 }) (PySem.W.looks_clsIn X hc) ?_))))));rw[hd'];refine yt (a:=some dx) (zw (yt (zw ?_)));refine wpAny_nsSet1 (s:={ s with toks:=s.toks+1 }) I.ns fun h' hn2 hs2=>?_;obtain⟨oD,esD,epD,hoD,hdD,hcD⟩:=hn2.count (PySem.Within.cons name v hw);refine zw (wpAny_lookBehind hoD (by rw[hdD];exact pastItsLine_dict (xx hcD (by rw[vq];lia))) ?_);exact yt (h _ ⟨(hs2.2 _ (Ne.symm I.ne)).trans I.obj,hn2,I.ne⟩ hs2)
theorem A1(X:K.In s.heap)(hm:PySem.W.makesIn K C=true)
 (hi:vj K (.ref C) "__init__" = some (some (.ref f))) (hf:PySem.W.typeIn K (.ref f)=some (.type "function"))
 (h:codeAny (model prog w) (A.under (.builtin "type.__call__" ⟨.ref C::vs,kw⟩)) (.call (.ref f) ⟨.ref (s.heap.objs.size+1)::vs,kw⟩) (PySem.W.InitBack (s.heap.objs.size+1) R)
  { s with heap:=(s.heap.push Za).push (ZE C s.heap.objs.size) }) :
 codeAny (model prog w) A (.call (.ref C) ⟨vs,kw⟩) R s:=by
 obtain⟨hh,g,d,t,os⟩:=s;exact PySem.W.make_core (PySem.W.makes_of X hm) (PySem.W.looks_findIn X hi) (fun self=>PySem.W.bind_fn X self hf) (.inl rfl) h
end
def dI(f:Str)(v:V):List (Str × V)->List (Str × V)
 | []=>[(f,v)]
 |(g,x)::r=>if g=f then (g,v)::r else (g,x)::dI f v r
theorem lP(f g:Str)(v:V):∀fs:List (Str × V),(dI f v fs).lookup g=if g=f then some v else fs.lookup g
 | []=>by
  show xt g [(f,v)]=_;by_cases h:g=f
  ·have hb:(g==f)=true:=beq_iff_eq.mpr h
   simp only[xt,hb,if_pos h]
  ·have hb:(g==f)=false:=beq_eq_false_iff_ne.mpr h
   simp only[xt,hb,if_neg h]
 |(k,x)::r=>by
  have ih:=lP f g v r;rw[show dI f v ((k,x)::r)=(if k=f then (k,v)::r else (k,x)::dI f v r) from rfl];by_cases hk:k=f
  ·rw[if_pos hk]
   by_cases h:g=k
   ·have hb:(g==k)=true:=beq_iff_eq.mpr h
    simp only[xt,hb,if_pos (h.trans hk)]
   ·have hb:(g==k)=false:=beq_eq_false_iff_ne.mpr h
    simp only[xt,hb,if_neg (fun e:g=f=>h (e.trans hk.symm))]
  ·rw[if_neg hk]
   by_cases h:g=k
   ·have hb:(g==k)=true:=beq_iff_eq.mpr h
    simp only[xt,hb,if_neg (fun e:g=f=>hk (h.symm.trans e))]
   ·have hb:(g==k)=false:=beq_eq_false_iff_ne.mpr h
    simp only[xt,hb];exact ih
theorem lg(f:Str)(v:V):∀fs:List (Str × V),f∈(dI f v fs).map (·.1)/\∀g,g∈fs.map (·.1)->g∈(dI f v fs).map (·.1)
 | []=>⟨by simp[dI],fun g h=>by simp at h⟩
 |(k,x)::r=>by
  obtain⟨i1,i2⟩:=lg f v r;rw[show dI f v ((k,x)::r)=(if k=f then (k,v)::r else (k,x)::dI f v r) from rfl];by_cases hk:k=f
  ·rw[if_pos hk]
   subst hk;exact⟨by simp,fun g h=>by simpa using h⟩
  ·rw[if_neg hk]
   refine⟨?_,fun g h=>?_⟩
   ·rw[yF]
    exact xC _ i1
   ·rw[yF]at h |-
    rcases z6.mp h with e|e
    ·exact z6.mpr (.inl e)
    ·exact xC _ (i2 g e)
theorem lR(f:Str)(v:V):∀fs:List (Str × V),(dI f v fs).length<=fs.length+1
 | []=>by simp[dI]
 |(k,x)::r=>by
  have ih:=lR f v r;rw[show dI f v ((k,x)::r)=(if k=f then (k,v)::r else (k,x)::dI f v r) from rfl];by_cases hk:k=f
  ·rw[if_pos hk,vq,vq];lia
  ·rw[if_neg hk,vq,vq];lia
theorem RelO.some_of(r:RelO (some v) o):∃u,o=some u/\RelV v u:=by
 cases o with
 |none=>exact(show False from r).elim
 |some u=>exact⟨u,rfl,r⟩
theorem RelO.none_of(r:RelO none o):o=none:=by
 cases o with
 |none=>rfl
 |some u=>exact(show False from r).elim
theorem yc(r:RelV v u):PySem.W.handedIn u=true:=by
 cases v with
 |non=>cases (show u=Zc from r);rfl
 |bl b=>cases (show u=YN b from r);rfl
 |int i=>obtain⟨t,e⟩:=(show ∃t,u=Value.int i t from r);cases e;rfl
 |str x=>obtain⟨t,e⟩:=(show ∃t,u=YY x t from r);cases e;rfl
 |byt b=>obtain⟨t,e⟩:=(show ∃t,u=Value.bytes b t from r);cases e;rfl
 |flt b=>obtain⟨t,e⟩:=(show ∃t,u=Value.float b t from r);cases e;rfl
 |ref a=>cases (show u=yX a from r);rfl
 |ty n=>cases (show u=Z2 n from r);rfl
section
variable{P:Program}{w:World}{H H':Hp}{h h':Heap}{a C dx:Addr}{fs fs':List (Str × V)}
theorem mG(hok:HOk P w H h)(e:H a=some (.ins C dx fs)):∃mA,ObjM h a dx C mA/\(∀f,RelO (fs.lookup f) (mA f))/\PySem.Within mA (fs.map (·.1))/\fs.length<=1000/\H dx=some (.own a):=by
 obtain⟨d,z,ne,ob,mA,n,r,q⟩:=(show ObjOk P w H h a (.ins C dx fs) from hok a _ e);exact⟨mA,⟨ob,n,ne⟩,r,q,z,d⟩
end
structure Cls(K:W.Frag)(C:Addr):Prop where
 pg:PySem.W.plainGet K C Str.empty=true
 hd:YT K C=true
 po:PySem.W.plainOver K C=true
 sa:vj K (.ref C) "__setattr__" = some (some (.builtin "object.__setattr__"))
theorem Cls.get{K:W.Frag}{C:Addr}(c:Cls K C)(f:Str):PySem.W.plainGet K C f=true:=c.pg
def NoAttr(K:W.Frag)(C:Addr)(f:Str):Prop:=vj K (.ref C) f=some none
theorem NoAttr.taker{K:W.Frag}{C:Addr}{f:Str}(n:NoAttr K C f):PySem.W.takerIn K C f=some none:=by
 unfold PySem.W.takerIn;rw[show vj K (.ref C) f=some none from n]
 rfl
structure AQ(K:W.Frag)(C:Addr)(m:Str)(f:Addr):Prop where
 at_:vj K (.ref C) m=some (some (.ref f))
 fn:PySem.W.isFn K (.ref f)=true
 kp:ZJ K (.ref f)=true
section
variable{X:Cx}{pins:List (Addr × Obj)}{σ:St}{H:Hp}{s:Shared}{a C dx:Addr}{fs:List (Str × V)}{f:Str}{v:V}{A:Around}{E:Value->Shared->Prop}
theorem vY{b:Bool}{Q:Value->Shared->Prop}(I:Inv X pins σ H s)(e:H a=some (.ins C dx fs))(c:Cls X.K C)(n:NoAttr X.K C f)(l:fs.lookup f=some v)
 (h:∀u s',Inv X pins σ H s'->RelV v u->Q u s'):wpAny (model X.prog X.w) A (getAttr (.ref a) f b) Q E s:=by
 obtain⟨mA,O,r,_,_,_⟩:=mG I.hok e;obtain⟨u,hu,ru⟩:=RelO.some_of (v:=v) (o:=mA f) (by rw[<- l];exact r f);exact Cl I.kIn O (c.get f) c.hd n hu (yc ru) (h u _ (I.tok _) ru)
theorem nY{m:Str}{g:Addr}{pl:Sem Bool}{Q:Value × List Value->Shared->Prop}(I:Inv X pins σ H s)(e:H a=some (.ins C dx fs))(c:Cls X.K C)(k:AQ X.K C m g)(l:fs.lookup m=none)
 (h:Q (.ref g,[.ref a]) s):wpAny (model X.prog X.w) A (getMethod (.ref a) m pl) Q E s:=by
 obtain⟨mA,O,r,_,_,_⟩:=mG I.hok e;have hn:mA m=none:=RelO.none_of (by rw[<- l];exact r m);exact zM I.kIn O (c.get m) k.at_ k.fn hn h
theorem vK{y:V}{u:Value}{Q:Unit->Shared->Prop}(I:Inv X pins σ H s)(e:H a=some (.ins C dx fs))(c:Cls X.K C)(n:NoAttr X.K C f)(hl:fs.length<1000)(ry:RelV y u)
 (h:∀s',Inv X pins σ (upd H a (.ins C dx (dI f y fs))) s'->Q () s'):wpAny (model X.prog X.w) A (setAttr (.ref a) f u) Q E s:=by
 obtain⟨mA,O,r,wi,_,ho⟩:=mG I.hok e;have hz:(fs.map (·.1)).length<=sizeLine:=by rw[zB,xM];lia
 refine BX I.kIn O c.sa c.po n.taker c.hd wi hz fun h' O' sb=>h _ ?_;have hd:∃o,h'.get? dx=some o:=let ⟨o,_,_,e',_⟩:=O'.ns;⟨o,e'⟩;refine I.write (x:=a) (e:=dx) (by rw[e];exact ZG) (.inr ho) (fun b q hb z=>(sb.2 b hb).trans z) hd ?_;refine⟨by rw[ah O.ne];exact ho,?_,O.ne,O'.obj,_,O'.ns,fun g=>?_,fun g hg=>?_⟩
 ·have:=lR f y fs;lia
 ·show RelO ((dI f y fs).lookup g) (if g=f then some u else mA g)
  rw[lP];by_cases q:g=f
  ·rw[if_pos q,if_pos q];exact ry
  ·rw[if_neg q,if_neg q];exact r g
 ·by_cases q:g=f
  ·rw[q];exact(lg f y fs).1
  ·refine(lg f y fs).2 g (wi g fun z=>hg ?_)
   show(if g=f then some u else mA g)=none;rw[if_neg q];exact z
theorem Inv.made(I:Inv X pins σ H s):Inv X pins σ (upd (upd H s.heap.objs.size (.own (s.heap.objs.size+1))) (s.heap.objs.size+1) (.ins C s.heap.objs.size []))
 { s with heap:=(s.heap.push Za).push (ZE C s.heap.objs.size) }:=by
 have e1:(s.heap.push Za).get? s.heap.objs.size=some Za:=Heap.get?_push_size s.heap rfl;have e2:((s.heap.push Za).push (ZE C s.heap.objs.size)).get? (s.heap.objs.size+1)=some (ZE C s.heap.objs.size):=by
  have:=Heap.get?_push_size (s.heap.push Za) (o:=ZE C s.heap.objs.size) rfl
  rwa [Heap.size_push]at this
 have e3:(s.heap.push Za).Ns s.heap.objs.size (fun _=>none):=⟨Za,#[],_,e1,rfl,(fun e he=>absurd he (by simp)),fun _=>rfl⟩;have I1:=I.laid (a:=s.heap.objs.size) (o:=.own (s.heap.objs.size+1)) (h':=s.heap.push Za) (t':=s.toks) (fun b u q=>Heap.get?_push_of_some _ q) (z5 _) ⟨_,e1⟩;refine I1.laid (a:=s.heap.objs.size+1) (o:=.ins C s.heap.objs.size []) (t':=s.toks) (fun b u q=>Heap.get?_push_of_some _ q) (Nat.le_of_eq (Heap.size_push _ _)) ?_;have ne:s.heap.objs.size≠s.heap.objs.size+1:=ui (Nat.lt_succ_self _);refine⟨by rw[ah ne,ad],xm _,ne,e2,fun _=>none,(Heap.Ns1.of_empty e3).at fun o q=>Heap.get?_push_of_some _ q,fun _=>ZG,fun y hy=>absurd rfl hy⟩
theorem CZ{prog:Program}{w:World}{env:Env}{e:Expr}{f:Str}{pos:Pos}{s:Shared}{Q:Value->Shared->Prop}(hb:YF e f env (eval e env)=eval e env)
 (h:wpAny (model prog w) A (eval e env) (fun o s₁=>wpAny (model prog w) A (getAttr o f true) Q E s₁) E s):wpAny (model prog w) A (eval (.Attribute e f pos) env) Q E s:=
 Attribute_any_ h (by rw[arm_eval_Attribute,hb])
end
section
variable{X:Cx}{o e value:Expr}{f:Str}{pos pos' tpos:Pos}{ta tv:TE}
end
section
variable{X:Cx}{pins:List (Addr × Obj)}{σ:St}{H:Hp}{s:Shared}{A:Around}{E:Value->Shared->Prop}{Q:Value->Shared->Prop}{c:Value}{b:Bool}
inductive jI (K:W.Frag) (H:Hp):V->Value->Prop where
 |non:jI K H .non (.type "NoneType")
 |bl (x:Bool):jI K H (.bl x) (.type "bool")
 |int (i:Int):jI K H (.int i) (.type "int")
 |str (x:Str):jI K H (.str x) (.type "str")
 |flt (x:UInt64):jI K H (.flt x) (.type "float")
 |lst {a:Addr} {xs:List V} (e:H a=some (.lst xs)):jI K H (.ref a) (.type "list")
 |frz {a:Addr} {o:Obj} {xs:List V} (e:H a=some (.frz o (.lst xs))):jI K H (.ref a) (.type "list")
 |tup {a:Addr} {xs:List V} (e:H a=some (.tup xs)):jI K H (.ref a) (.type "tuple")
 |dK {a:Addr} {kvs:List (Key × V)} (e:H a=some (.dK kvs)):jI K H (.ref a) (.type "dict")
 |dT {a:Addr} {kvs:List (List Key × V)} (e:H a=some (.dT kvs)):jI K H (.ref a) (.type "dict")
 |ins {a C dx:Addr} {fs:List (Str × V)} (e:H a=some (.ins C dx fs)) (cl:Cls K C) (ha:vj K (.ref C) "__class__" = some (some (.builtin "object.__class__")))
  (hn:PySem.W.specialIn K (.builtin "object.__class__") "__get__" = some (some (.builtin "getset_descriptor.__get__"))) (htk:PySem.W.takesIn K (.builtin "object.__class__")=some true)
  (hm:Yo K C (.type "object")=some true):jI K H (.ref a) (.ref C)
theorem xr(I:Inv X pins σ H s)(rx:RelV x u)(ty:jI X.K H x t)(e:ZK X.K t c=some b)(h:∀tk,Q (.bool b) { s with toks:=tk }) :
 wpAny (model X.prog X.w) A (call (.builtin "isinstance") [u,c]) Q E s:=by
 cases ty with
 |non=>cases (show u=Zc from rx);exact Zf PySem.W.kitx_none I.kIn ZG e (fun z=>nomatch z) h
 |bl y=>cases (show u=YN y from rx);exact Zf PySem.W.kitx_bool I.kIn ZG e (fun z=>nomatch z) h
 |int i=>obtain⟨t,q⟩:=(show ∃t,u=Value.int i t from rx);cases q;exact Zf PySem.W.kitx_int I.kIn ZG e (fun z=>nomatch z) h
 |str y=>obtain⟨t,q⟩:=(show ∃t,u=YY y t from rx);cases q;exact Zf PySem.W.kitx_str I.kIn ZG e (fun z=>nomatch z) h
 |flt y=>obtain⟨t,q⟩:=(show ∃t,u=Value.float y t from rx);cases q;exact Zf PySem.W.kitx_float I.kIn ZG e (fun z=>nomatch z) h
 | @lst a xs ea=>
  cases (show u=yX a from rx);obtain⟨_,_,n,_,h1⟩:=(show ObjOk X.prog X.w H s.heap a (.lst xs) from I.hok a _ ea);exact Zf PySem.W.kitx_list I.kIn ⟨_,h1,rfl⟩ e (fun z=>nomatch z) h
 | @frz a ob xs ea=>
  cases (show u=yX a from rx);obtain⟨_,_,_,n,_,h1⟩:=(show ObjOk X.prog X.w H s.heap a (.frz ob (.lst xs)) from I.hok a _ ea);exact Zf PySem.W.kitx_list I.kIn ⟨_,h1,rfl⟩ e (fun z=>nomatch z) h
 | @tup a xs ea=>
  cases (show u=yX a from rx);obtain⟨_,_,_,p⟩:=(show ObjOk X.prog X.w H s.heap a (.tup xs) from I.hok a _ ea);obtain⟨o,h1,h2,_⟩:=p;exact Zf PySem.W.kitx_tuple I.kIn ⟨o,h1,h2⟩ e (fun z=>nomatch z) h
 | @dK a kvs ea=>
  cases (show u=yX a from rx);obtain⟨_,_,vs,_,p⟩:=(show ObjOk X.prog X.w H s.heap a (.dK kvs) from I.hok a _ ea);obtain⟨o,es,ep,h1,h2,_⟩:=p;exact Zf PySem.W.kitx_dict I.kIn ⟨o,h1,h2.1⟩ e (fun z=>nomatch z) h
 | @dT a kvs ea=>
  cases (show u=yX a from rx);obtain⟨_,_,xs,_,o,es,ep,h1,h2,_⟩:=(show ObjOk X.prog X.w H s.heap a (.dT kvs) from I.hok a _ ea);exact Zf PySem.W.kitx_dict I.kIn ⟨o,h1,h2.1⟩ e (fun z=>nomatch z) h
 | @ins a C dx fs ea cl ha hn htk hm=>
  cases (show u=yX a from rx);obtain⟨mA,O,_⟩:=mG I.hok ea;obtain⟨od,J,_⟩:=O.look;exact Zf (PySem.W.kitx_own (cl.get _) cl.hd ha hn htk hm) I.kIn J e (fun z=>nomatch z) h
end
structure Room(k:Nat)(A:Around):Prop where
 hd:A.handled=none
 dp:A.depth+3*k+5<recursionLimit
 un:A.units+16*k+200<cLine
theorem Room.mono(r:Room k A)(h:j<=k):Room j A:=⟨r.hd,by have:=r.dp;lia,by have:=r.un;lia⟩
theorem Room.deeper{A:Around}(r:Room (k+1) A)(env:Env):Room k (A.deeper env):=
 ⟨r.hd,by have:=r.dp;show A.depth+1+3*k+5<_;lia,by have:=r.un;show A.units+3+16*k+200<_;lia⟩
theorem uS{A:Around}:(A.under (.builtin "type.__call__" ⟨.ref C::us,kw⟩)).depth=A.depth+1:=by
 first|rfl|simp[Around.under,Code.weight,Code.isCreation,Code.isGuard,Code.isCaller,Code.frames,Code.isFrame,guardIds]
theorem uM{A:Around}:(A.under (.builtin "type.__call__" ⟨.ref C::us,kw⟩)).units=A.units+1:=by
 first|rfl|simp[Around.under,Code.cUnits,Code.frames,Code.isFrame]
theorem Room.make{A:Around}(r:Room (k+1) A)(C:Addr)(us:List Value)(kw:List (Str × Value)):Room k (A.under (.builtin "type.__call__" ⟨.ref C::us,kw⟩)):=
 ⟨r.hd,by have:=r.dp;rw[uS];lia,by have:=r.un;rw[uM];lia⟩
theorem Room.depth{A:Around}(r:Room k A):A.depth<recursionLimit:=by have:=r.dp;lia
def kH:TA:=fun _ H Q=>Q [] H
def cx(ta:TE)(tr:TA):TA:=fun σ H Q=>ta σ H fun x H1=>tr σ H1 fun xs H2=>Q (x::xs) H2
section
variable{X:Cx}{e:Expr}{es:List Expr}{te:TE}{t:TA}{pos:Pos}
theorem Fc:PA X [] kH:=fun _ _ _ _ H Q I h=>Calls.spliced_nil ⟨[],H,I,.nil,h⟩
theorem Ct(ha:PE X e te)(hr:PA X es t)(hs:starEach (e::es) X.env=(false,eval e X.env)::starEach es X.env:=by rfl):PA X (e::es) (cx te t):=by
 intro pos pins s σ H Q I h;rw[hs];show wpAny _ _ (spliced ((false,eval e X.env)::backTo pos (starEach es X.env))) _ _ s;refine Y4 (thn (ha pins s σ H _ I h) fun u s1 ⟨x,H1,I1,r1,q1⟩=>?_);exact thn (hr pos pins s1 σ H1 _ I1 q1) fun us s2 ⟨xs,H2,I2,r2,q2⟩=>⟨x::xs,H2,I2,.cons r1 r2,q2⟩
def Gx(t:TA):TE:=fun σ H Q=>t σ H fun xs H1=>xs.length<=sizeLine/\∀p,H1 p=none->Q (.ref p) (upd H1 p (.tup xs))
def Hl(t:TA):TE:=fun σ H Q=>t σ H fun xs H1=>xs.length<=sizeLine/\∀p,H1 p=none->Q (.ref p) (upd H1 p (.lst xs))
theorem bG{x1}(h:PA X es t):PE X (.Tuple es x1 pos) (Gx t):=by
 intro pins s σ H Q I hq;refine wpAny_Tuple_spliced (thn (h pos pins s σ H _ I hq) fun us s1 ⟨xs,H1,I1,r,z,q⟩=>⟨by rw[<- r.length];exact z,?_⟩);have hf:H1 s1.heap.objs.size=none:=I1.hok.fresh (z5 _);refine⟨.ref s1.heap.objs.size,upd H1 s1.heap.objs.size (.tup xs),I1.laid (t':=s1.toks) (fun b u e=>Heap.get?_push_of_some _ e) (z5 _) ?_,rfl,q _ hf⟩;exact⟨z,us,r,⟨_,Heap.get?_push_size _ rfl,rfl,_,rfl⟩⟩
theorem bU(h:PA X es t):PE X (.List es pos) (Hl t):=by
 intro pins s σ H Q I hq;refine wpAny_List_spliced (thn (h pos pins s σ H _ I hq) fun us s1 ⟨xs,H1,I1,r,z,q⟩=>⟨by rw[<- r.length];exact z,?_⟩);have hf:H1 s1.heap.objs.size=none:=I1.hok.fresh (z5 _);refine⟨.ref s1.heap.objs.size,upd H1 s1.heap.objs.size (.lst xs),I1.laid (t':=s1.toks) (fun b u e=>Heap.get?_push_of_some _ e) (z5 _) ?_,rfl,q _ hf⟩;exact⟨z,us,0,r,Heap.get?_push_size _ rfl⟩
end
abbrev Sp:=List V->Hp->VK->XK->Prop
abbrev CXT:=List Env->Hp->Shared->XK->Value->Shared->Prop
structure Env0(P:Program)(w:World)(K:W.Frag)(mg:Str->Option Value)(base:Heap)(A:Around)(outer:List Env)(s:Shared)(H:Hp):Prop where
 frames:A.frames=some outer
 mod:Mod K mg base
 bs:∀b o,base.get? b=some o->s.heap.get? b=some o/\H b=none
 bsz:base.objs.size<=s.heap.objs.size
 funs:s.heap.FunFrames base outer
 frf:∀b∈frs outer,H b=none
 hok:HOk P w H s.heap
 bare:AllBare s.gens
def CE(outer:List Env)(P:Program)(w:World)(H:Hp)(s:Shared)(Q:VK)(u:Value)(s':Shared):Prop:=
 ∃v H',s'.os=s.os/\AllBare s'.gens/\Un (frs outer) [] H H' s.heap s'.heap/\HOk P w H' s'.heap/\RelV v u/\Q v H'
def CR(CX:CXT)(outer:List Env)(P:Program)(w:World)(H:Hp)(s:Shared)(Q:VK)(E:XK)(r:Result)(s':Shared):Prop:=
 match r with
 | .ok (.ret u)=>CE outer P w H s Q u s'
 | .ok _=>False
 | .error e=>CX outer H s E e s'
structure hV(P:Program)(w:World)(K:W.Frag)(mg:Str->Option Value)(base:Heap)(CX:CXT)(k:Nat)(f:Addr)(fd:FuncData)(ps:List Str)(sp:Sp):Prop where
 len:∀vs H Q E,sp vs H Q E->vs.length=ps.length
 run:∀(A:Around) (outer:List Env) (s:Shared) (H:Hp) (args:Args) (us:List Value) (vs:List V) (Q:VK) (E:XK),Room k A->Env0 P w K mg base A outer s H->BindsTo s fd args (ps.zip us)->Vals vs us->sp vs H Q E ->
  codeAny (model P w) A (.call (.ref f) args) (CR CX outer P w H s Q E) s
theorem Env0.make{P:Program}{w:World}{K:W.Frag}{mg:Str->Option Value}{base:Heap}{A:Around}{outer:List Env}{s:Shared}{H:Hp}(e:Env0 P w K mg base A outer s H)(C:Addr)(us:List Value)(kw:List (Str × Value)) :
 Env0 P w K mg base (A.under (.builtin "type.__call__" ⟨.ref C::us,kw⟩)) outer s H:=⟨by first|exact e.frames|(simpa [Around.under,Code.envs,Code.isFrame,pushEnvs] using e.frames),e.mod,e.bs,e.bsz,e.funs,e.frf,e.hok,e.bare⟩
section
variable{X:Cx}{pins:List (Addr × Obj)}{σ:St}{H:Hp}{s s':Shared}
theorem Inv.env0(I:Inv X pins σ H s):Env0 X.prog X.w X.K X.mg X.base X.A X.stack s H:=
 ⟨I.ok.frames,I.ok.mod,I.bs,xx I.ok.bsz I.sz,I.stack,I.stkFree,I.hok,I.bare⟩
theorem Inv.after(I:Inv X pins σ H s)(h:CE X.stack X.prog X.w H s Q u s'):EP X pins σ Q u s':=by
 obtain⟨v,H',os,bare,un,hok,r,q⟩:=h;obtain⟨hh,g,d,t,os'⟩:=s';obtain rfl:os'=s.os:=os;exact⟨v,H',I.call (h':=hh) (g':=g) (d':=d) (t':=t) (ch:=[]) un hok bare (fun b z=>absurd z (by simp)),r,q⟩
end
def Binds(K:W.Frag)(fd:FuncData)(ps:List Str)(ds:List Value):Prop:=
 ∀(s:Shared) (us:List Value),K.In s.heap->(us++ds).length=ps.length->BindsTo s fd ⟨us,[]⟩ (ps.zip (us++ds))
theorem Binds.all{K:W.Frag}{fd:FuncData}{ps:List Str}(h:∀us:List Value,us.length=ps.length->bindArgs fd ⟨us,[]⟩=pure (ps.zip us)):Binds K fd ps []:=fun s us _ hl=>by
 rw[u6]at hl |-
 exact .of_eq (h us hl)
section
variable{X:Cx}{CX:CXT}{k:Nat}{f C:Addr}{fd:FuncData}{ps:List Str}{sp:Sp}{dvs:List V}{ds:List Value}{E:XK}{x m:Str}{p pos apos:Pos}{e o:Expr}{es:List Expr}{ta:TE}{t:TA}
structure Mk(K:W.Frag)(C f:Addr):Prop where
 makes:PySem.W.makesIn K C=true
 init:vj K (.ref C) "__init__" = some (some (.ref f))
 fn:PySem.W.isFn K (.ref f)=true
 kp:ZJ K (.ref C)=true
end
section
variable{X:Cx}{CX:CXT}{k:Nat}{f C:Addr}{fd:FuncData}{ps ks:List Str}{sp:Sp}{E:XK}{x m:Str}{p pos apos kpos:Pos}{e o:Expr}{es:List Expr}{kws:List Keyword}{te ta:TE}{t tk:TA}{nm:Option Str}
variable{g:List Value->List Value->List Value}{gV:List V->List V->List V}
end
structure bf(N P:List Str)(sc:Scope):Prop where
 kind:sc.kind = .function
 co:sc.isCoroutine=false
 gen:sc.isGenerator=false
 nd:N.Nodup
 pre:N.take P.length=P
 par:∀x∈P,sc.names.lookup x=some .local\/sc.names.lookup x=some .cell
 nofree:∀y∈sc.names,y.2 ≠ .free
theorem pE{kindOf:Str->Option NameKind}{x:Str}:∀ {binds:List (Str × Value)} {m:Str->Option Value},(∀v,(x,v)∉binds)->bindL kindOf binds m x=m x
 | [],_,_=>rfl
 |(n,v)::r,m,h=>by
  unfold bindL;rw[pE fun w hw=>h w (xC _ hw)];split
  ·have:x≠n:=by rintro rfl;exact h v Z6
   simp[this]
  ·rfl
theorem pL{kindOf:Str->Option NameKind}{x:Str}:∀ {binds:List (Str × Value)} {m:Str->Option Value},(∀v,(x,v)∉binds)->bindC kindOf binds m x=m x
 | [],_,_=>rfl
 |(n,v)::r,m,h=>by
  unfold bindC;rw[pL fun w hw=>h w (xC _ hw)];split
  ·rfl
  ·have:x≠n:=by rintro rfl;exact h v Z6
   simp[this]
theorem pJ{kindOf:Str->Option NameKind}{x:Str}{v:Value}:∀ {P:List Str} {vs:List Value} {i:Nat} {m:Str->Option Value},P.Nodup->P[i]? = some x->vs[i]? = some v->kindOf x=some .local ->
 bindL kindOf (P.zip vs) m x=some v
 | [],_,_,_,_,h,_,_=>by simp at h
 |_::_,[],_,_,_,_,h,_=>by simp at h
 |p::P,w::vs,0,m,nd,h1,h2,hk=>by
  simp at h1 h2;subst h1;subst h2;show bindL kindOf ((p,w)::P.zip vs) m p=_;unfold bindL;rw[pE fun v hv=>(qI.mp nd).1 (List.of_mem_zip hv).1,if_pos hk];simp
 |p::P,w::vs,i+1,m,nd,h1,h2,hk=>by
  show bindL kindOf ((p,w)::P.zip vs) m x=_;unfold bindL;exact pJ (i:=i) (qI.mp nd).2 (by simpa using h1) (by simpa using h2) hk
theorem pw{kindOf:Str->Option NameKind}{x:Str}{v:Value}:∀ {P:List Str} {vs:List Value} {i:Nat} {m:Str->Option Value},P.Nodup->P[i]? = some x->vs[i]? = some v->kindOf x≠some .local ->
 bindC kindOf (P.zip vs) m x=some v
 | [],_,_,_,_,h,_,_=>by simp at h
 |_::_,[],_,_,_,_,h,_=>by simp at h
 |p::P,w::vs,0,m,nd,h1,h2,hk=>by
  simp at h1 h2;subst h1;subst h2;show bindC kindOf ((p,w)::P.zip vs) m p=_;unfold bindC;rw[pL fun v hv=>(qI.mp nd).1 (List.of_mem_zip hv).1,if_neg hk];simp
 |p::P,w::vs,i+1,m,nd,h1,h2,hk=>by
  show bindC kindOf ((p,w)::P.zip vs) m x=_;unfold bindC;exact pw (i:=i) (qI.mp nd).2 (by simpa using h1) (by simpa using h2) hk
def eZ(N:List Str)(vs:List V):St:=vs.map some++List.replicate (N.length-vs.length) none
def cL(CX:CXT)(P:Program)(w:World)(K:W.Frag)(mg:Str->Option Value)(base:Heap)(N:List Str)(qual:Str)(scope:Scope)(f:Addr)(cd:Value)(A:Around)(outer:List Env)(s:Shared)(H:Hp)(E:XK):Cx where
 prog:=P
 w:=w
 K:=K
 mg:=mg
 base:=base
 A:=A.deeper (envOfC qual scope s.heap.objs.size f cd)
 N:=N
 s₀:=s
 H₀:=H
 env:=envOfC qual scope s.heap.objs.size f cd
 outer:=outer
 stack:=envOfC qual scope s.heap.objs.size f cd::outer
 ex:=[]
 calm:=true
 fn:=fun _=>true
 pn:=[]
 xe:=fun e s'=>wpAny (model P w) (A.deeper (envOfC qual scope s.heap.objs.size f cd)) (leaving (envOfC qual scope s.heap.objs.size f cd) e) (fun _ s''=>CX outer H s E e s'') (fun e' s''=>CX outer H s E e' s'') s'
theorem t_{sc:Scope}(h:sc.names.lookup x=some .cell):∃c,(cellsFrom n sc.names []).lookup x=some c:=by
 have q:=PySem.W.cellsFrom_some sc.names n [] (.inl h);exact Option.isSome_iff_exists.mp q
theorem yH{CX:CXT}{P:Program}{w:World}{K:W.Frag}{mg:Str->Option Value}{base:Heap}{N ps:List Str}{qual:Str}{scope:Scope}{f:Addr}{cd:Value}{A:Around}{outer:List Env}{s s1:Shared}{H:Hp}{E:XK}{us:List Value}{vs:List V}
 (S:bf N ps scope) (hd:A.handled=none) (e0:Env0 P w K mg base A outer s H) (hl:vs.length=ps.length) (r:Vals vs us)
 (x:InCallC s s.heap.objs.size (bindL (envOfC qual scope s.heap.objs.size f cd).kindOf (ps.zip us) fun _=>none) (cellsFrom (s.heap.objs.size+1) scope.names []) (bindC (envOfC qual scope s.heap.objs.size f cd).kindOf (ps.zip us) fun _=>none) s1) :
 Inv (cL CX P w K mg base N qual scope f cd A outer s H E) [] (eZ N vs) H s1:=by
 have hpl:ps.length<=N.length:=by have:=congrArg Y8 S.pre;rw[vm]at this;lia
 obtain⟨h1,tk,rfl,hk⟩:=x.done;have noA:∀b:Addr,b∉(cL CX P w K mg base N qual scope f cd A outer s H E).ex:=fun b z=>absurd (show b∈([]:List Addr) from z) (by simp);refine⟨⟨e0.mod,S.kind,rfl,rfl,z5 _,fun y z c h1 h2=>?_,fun y hy=>?_,fun y c _ h=>?_,fun _=>hd,Around.frames_deeper e0.frames,.inr ⟨rfl,rfl⟩,fun b z=>absurd z (noA b),e0.bs,e0.bsz,fun b _ _=>noA b,fun b z=>absurd z (noA b),e0.funs,e0.frf⟩,
  rfl,e0.bare,Un.kept hk,⟨_,x.toInCall.ns,fun i y v h1 h2 h3=>?_⟩,fun y c h=>⟨_,x.cell y c h⟩,e0.hok.fresh (z5 _),fun y c h=>?_,fun p hp=>absurd (show p∈([]:List (Addr × Obj)) from hp) (by simp),e0.hok.kept hk,?_⟩
 ·exact name_of_addr x.apart (ZP h1) (ZP h2)
 ·have hy:scope.names.lookup y=some .cell\/scope.names.lookup y=some .free:=hy
  rcases hy with hy|hy
  ·exact t_ hy
  ·exact absurd rfl (S.nofree _ (ZP hy))
 ·exact Yw (x.above y c (ZP h))
 ·have hi:i<vs.length:=by
   unfold eZ at h2;by_cases hi:i<vs.length
   ·exact hi
   ·rw[List.getElem?_append_right (by simpa using hi)]at h2
    rw[List.getElem?_replicate]at h2;split at h2 <;> cases h2
  have ha:vs[i]? = some v:=by
   unfold eZ at h2;rw[List.getElem?_append_left (by simpa using hi),List.getElem?_map]at h2;cases e:vs[i]? with
   |none=>rw[e]at h2;cases h2
   |some a=>rw[e]at h2;cases h2;rfl
  obtain⟨u,hu,rv⟩:=r.get ha;have hp:ps[i]? = some y:=by
   rw[<- S.pre,List.getElem?_take_of_lt (by lia)];exact h1
  have ndP:ps.Nodup:=by rw[<- S.pre];exact S.nd.sublist (List.take_sublist _ _)
  refine⟨u,rv,?_⟩;rcases S.par y (yO hp) with k|k
  ·exact .inl ⟨k,pJ ndP hp hu k⟩
  ·obtain⟨c,e⟩:=t_ (n:=s.heap.objs.size+1) k
   refine .inr ⟨.inl k,c,e,?_⟩;have q:=x.cell y c e;rw[pw ndP hp hu (by show scope.names.lookup y≠_;rw[k];decide)]at q;exact q
 ·exact e0.hok.fresh (Yw (x.above y c (ZP h)))
 ·unfold eZ
  show _=N.length;rw[yk,zB,List.length_replicate];lia
theorem G_{CX:CXT}{P:Program}{w:World}{K:W.Frag}{mg:Str->Option Value}{base:Heap}{k:Nat}{f:Addr}{name qual:Str}{params:Arguments}{body:List Stmt}{scope:Scope}{dV kV doc pm cdv ct oc:Value}{an od:Option Addr}
 {osl:Array (Option Value)} {N ps:List Str} {sp:Sp} (lk:K.lookup f=some ⟨oc,od,.func (Yx name qual params body scope dV kV doc pm an cdv ct),osl⟩) (hcd:PySem.W.codeIn K cdv qual=true) (S:bf N ps scope)
 (len:∀vs H Q E,sp vs H Q E->vs.length=ps.length)
 (hbody:∀(A:Around) (outer:List Env) (s:Shared) (H:Hp) (vs:List V) (Q:VK) (E:XK),Room k (A.deeper (envOfC qual scope s.heap.objs.size f cdv))->sp vs H Q E ->
  ∃t,PSs (cL CX P w K mg base N qual scope f cdv A outer s H E) body t/\t { nx:=fun _ H'=>Q .non H',rt:=Q } (eZ N vs) H) :
 hV P w K mg base CX (k+1) f (Yx name qual params body scope dV kV doc pm an cdv ct) ps sp:=by
 refine⟨len,fun A outer s H args us vs Q E hr e0 hb r hsp=>?_⟩;have hl:=len _ _ _ _ hsp;have KX:K.In s.heap:=e0.mod.kin.keeps fun b o e=>(e0.bs b o e).1;have lim:s.heap.NoLimit:=e0.mod.nolimit.keeps fun b o e=>(e0.bs b o e).1;have hkind:∀y∈ps.zip us,scope.names.lookup y.1=some .local\/(scope.names.lookup y.1=some .cell/\((cellsFrom (s.heap.objs.size+1) scope.names []).lookup y.1).isSome=true):=fun⟨n,v⟩ hy=>by
  rcases S.par n (List.of_mem_zip hy).1 with q|q
  ·exact .inl q
  ·exact .inr ⟨q,PySem.W.cellsFrom_some _ _ _ (.inl q)⟩
 refine codeAny_call_function hr.depth (KX _ _ lk) rfl S.co S.gen rfl (PySem.W.codeRec_of KX hcd) (hb _ _ _ _ ?_);refine wpAny_newFunctionEnv_cells S.kind hkind fun env he s1 x=>?_;subst he;refine⟨lim.keeps x.toInCall.keep,codeAny_func ?_⟩;obtain⟨t,ht,hq⟩:=hbody A outer s H vs Q E (hr.deeper _) hsp;have I:Inv (cL CX P w K mg base N qual scope f cdv A outer s H E) [] (eZ N vs) H s1:=yH S hr.hd e0 hl r x;refine uY (ht [] s1 (eZ N vs) H _ I hq) (fun fl s' hs=>?_) fun e s' hs=>hs;have fin:∀ {σ':St} {H':Hp} {v:V} {u:Value},Inv (cL CX P w K mg base N qual scope f cdv A outer s H E) [] σ' H' s'->RelV v u->Q v H'->CE outer P w H s Q u s':=
  fun {σ' H' v u} J rv q=>⟨v,H',J.os,J.bare,J.base,J.hok,rv,q⟩
 cases fl with
 |ret u=>
  obtain⟨v,σ',H',J,rv,q⟩:=hs;exact fin J rv q
 |next=>
  obtain⟨σ',H',J,q⟩:=hs;exact fin (v:=V.non) (u:=Zc) J rfl q
 |brk=>
  obtain⟨_,_,_,q⟩:=hs;exact ZS q
 |cont=>
  obtain⟨_,_,_,q⟩:=hs;exact ZS q
section
variable{X:Cx}{x:Str}{p pos:Pos}{e:Expr}{es:List Expr}{t:TA}{id T:String}{r:List V->Hp->VK->Prop}
def tCB(r:List V->Hp->VK->Prop)(t:TA):TE:=fun σ H Q=>t σ H fun vs H1=>r vs H1 Q
theorem aH(hc:CallR X (.builtin id) r)(hg:Gl X x)(hm:X.mg x=none)(hv:rF x=some (.builtin id))(ha:PA X (e::es) t)(hn:x ≠ "__name__":=by decide)(hdb:(x==("__debug__":Str))=false:=by decide)
 (he:starEach (e::es) X.env=(false,eval e X.env)::starEach es X.env:=by rfl) (hpl:(backTo pos (starEach es X.env)).any (·.1)=false:=by rfl):PE X (.Call (.Name x p) (e::es) [] pos) (tCB r t):=by
 intro pins s σ H Q I h;refine Yc (lI I hg hm hv ?_ hn hdb);exact PyProof.Rows.callWith_builtin1 (thn (ha pos pins s σ H _ I h) fun us s1 ⟨vs,H1,I1,r1,q1⟩=>hc pins s1 σ H1 vs us Q I1 r1 q1) he hpl
theorem b5(hc:CallR X (.type T) r)(hg:Gl X x)(hm:X.mg x=none)(hv:rF x=some (.type T))(ha:PA X (e::es) t)(hn:x ≠ "__name__":=by decide)(hdb:(x==("__debug__":Str))=false:=by decide)
 (he:starEach (e::es) X.env=(false,eval e X.env)::starEach es X.env:=by rfl) (hpl:(backTo pos (starEach es X.env)).any (·.1)=false:=by rfl):PE X (.Call (.Name x p) (e::es) [] pos) (tCB r t):=by
 intro pins s σ H Q I h;refine Yc (lI I hg hm hv ?_ hn hdb);exact ZA (thn (ha pos pins s σ H _ I h) fun us s1 ⟨vs,H1,I1,r1,q1⟩=>hc pins s1 σ H1 vs us Q I1 r1 q1) he hpl
end
end L2
namespace HT
open PySem PyProof.Rows
section
open PySem.SeqAt
open PySem.AutoSeq1 (wpAny_loadPart')
open PySem.MeetsSeq PySem.MeetsSeq2 PySem.MeetsSeq3
end
section
variable{prog:Program}{w:World}{A:Around}{E:Value->Shared->Prop}{s:Shared}
def sIx(n d:Nat):Option Int->Nat
 |none=>d
 |some v=>if v<0 then (v+(n:Int)).toNat else min v.toNat n
theorem sIx_none(n d:Nat):sIx n d none=d:=rfl
theorem sIx_nat(n d k:Nat):sIx n d (some (k:Int))=min k n:=by
 show(if (k:Int)<0 then ((k:Int)+(n:Int)).toNat else min (k:Int).toNat n)=min k n;rw[if_neg (by lia),YQ]
theorem sIx_le(n d:Nat)(hd:d<=n)(o:Option Int):sIx n d o<=n:=by
 cases o with
 |none=>exact hd
 |some v=>
  show(if v<0 then (v+(n:Int)).toNat else min v.toNat n)<=n;by_cases hv:v<0
  ·rw[if_pos hv];lia
  ·rw[if_neg hv];exact Nat.min_le_right _ _
theorem wJ(v:Int)(n d:Nat):(if v<0 then max (v+(n:Int)) 0 else min v (n:Int))=((sIx n d (some v):Nat):Int):=by
 show(if v<0 then max (v+(n:Int)) 0 else min v (n:Int))=(((if v<0 then (v+(n:Int)).toNat else min v.toNat n):Nat):Int);by_cases hv:v<0
 ·simp only[if_pos hv];lia
 ·simp only[if_neg hv];lia
theorem uA(lo hi:Option Int)(n:Nat):YG lo hi 1 (n:Int)=(((sIx n 0 lo:Nat):Int),((sIx n n hi:Nat):Int)):=by
 have h1:¬ ((1:Int)<0):=by lia
 unfold YG;simp only[h1,if_false];refine Prod.ext ?_ ?_
 ·cases lo with
  |none=>rfl
  |some v=>exact wJ v n 0
 ·cases hi with
  |none=>rfl
  |some v=>exact wJ v n n
theorem uU(i j:Nat):Z7 (i:Int) (j:Int) 1=j-i:=by
 unfold Z7;have h1:(1:Int) > 0:=by lia
 simp only[h1,if_true,Int.ediv_one];split <;> lia
theorem nC{Q:Option Int->Shared->Prop}(p:IsPart v o)(h:Q o s):wpAny (model prog w) A (Builtin.Slice.slicePartIndex v) Q E s:=by
 cases p with
 |none=>exact slicePart_none h
 |int i t=>exact slicePart_int h
theorem lA{sl:Addr}{vl vu:Value}{lo hi:Option Int}{n:Nat}{Q:Int × Int × Nat->Shared->Prop}(hs:s.heap.IsSliceOf sl vl vu .none)(pl:IsPart vl lo)(pu:IsPart vu hi)
 (h:Q (((sIx n 0 lo:Nat):Int),1,sIx n n hi-sIx n 0 lo) s):wpAny (model prog w) A (Builtin.Slice.sliceApplied (.ref sl) (pure (n:Int))) Q E s:=by
 obtain⟨os,hos,hcs,hds⟩:=id hs;unfold Builtin.Slice.sliceApplied Builtin.Slice.sliceFields;refine zw (zw (wpAny_field hos hds (x:=vl) rfl (zw (wpAny_field hos hds (x:=vu) rfl (zw (wpAny_field hos hds (x:=.none) rfl (yt ?_)))))));refine zw (slicePart_none ?_);show wpAny _ _ (if ((1:Int)==0)=true then _ else _) _ _ s;rw[if_neg (by decide)];refine zw (nC pl (zw (nC pu (zw (yt ?_)))));show wpAny _ _ (match YG lo hi 1 (n:Int) with|(lo,hi)=>pure (lo,(1:Int),Z7 lo hi 1)) _ _ s;rw[uA lo hi n];show wpAny _ _ (pure (((sIx n 0 lo:Nat):Int),(1:Int),Z7 ((sIx n 0 lo:Nat):Int) ((sIx n n hi:Nat):Int) 1)) _ _ s;rw[uU];exact yt h
theorem AY(xs:Array Value)(i k:Nat):((Zi k).filterMap fun(m:Nat)=>xs[((i:Int)+(m:Int)*1).toNat]?).toArray=((xs.toList.drop i).take k).toArray:=by
 have e:(fun(m:Nat)=>xs[((i:Int)+(m:Int)*1).toNat]?)=fun m=>xs[i+m]?:=by
  funext m;have:((i:Int)+(m:Int)*1).toNat=i+m:=by lia
  rw[this]
 rw[e];have:=pick_run xs i k;rw[List.filterMap_map]at this;have e2:((fun x=>xs[x]?) ∘ fun x=>i+x)=fun m=>xs[i+m]?:=rfl;rw[e2]at this;rw[this]
theorem getItem_tuple_cut{t sl:Addr}{items:Array Value}{vl vu:Value}{lo hi:Option Int}{Q:Value->Shared->Prop}(ht:IsTup s.heap t items)(hs:s.heap.IsSliceOf sl vl vu .none)(pl:IsPart vl lo)(pu:IsPart vu hi)
 (hw:¬ (sIx items.size 0 lo=0/\sIx items.size items.size hi=items.size))
 (h:Q (.ref s.heap.objs.size) { s with heap:=s.heap.push { cls:=.type "tuple",data:=.seq ((items.toList.drop (sIx items.size 0 lo)).take (sIx items.size items.size hi-sIx items.size 0 lo)).toArray } })
 (hsz:items.size<=sizeLine):wpAny (model prog w) A (getItem (.ref t) (.ref sl)) Q E s:=by
 have htake:sizeOk (.seq ((items.toList.drop (sIx items.size 0 lo)).take (sIx items.size items.size hi-sIx items.size 0 lo)).toArray):=by
  show((items.toList.drop (sIx items.size 0 lo)).take (sIx items.size items.size hi-sIx items.size 0 lo)).toArray.size<=sizeLine;rw[yp,vm,List.length_drop,ZN];lia
 have hj:sIx items.size items.size hi<=items.size:=sIx_le _ _ (z5 _) hi;obtain⟨os,hos,hcs,hds⟩:=id hs;have hTs:s.TypeIs (.ref sl) "slice":=⟨os,hos,hcs⟩;unfold getItem
 try with_reducible refine ZT ?_
 first|refine zw (yt ?_)|skip
 refine zw (wpAny_sequenceKey ht.typeIs (by decide) ?_);refine zw (wpAny_callSpecial?_slot (name:=zI "__getitem__") ht.typeIs PyProof.Rows.slot_tuple_getitem
  (Yi PyProof.Rows.slot_tuple_getitem ht.typeIs entry_tuple_getitem ?_ (args_tuple_getitem _ _)))
 show wpAny _ _ (Builtin.Tuple.tupleItemsOf (.ref t) >>= _) _ _ s;refine zw (tupleItemsOf_ ht ?_);refine zw (wpAny_typeOf hTs ?_);rw[if_pos (by decide)];refine zw (lA hs pl pu ?_);have hno:¬ ((((sIx items.size 0 lo:Nat):Int)==0&&(1:Int)==1&&(sIx items.size items.size hi-sIx items.size 0 lo)==items.size)=true):=by
  intro q;rw[sT,sT]at q;have q1:((sIx items.size 0 lo:Nat):Int)=0:=eq_of_beq q.1.1;have q2:sIx items.size items.size hi-sIx items.size 0 lo=items.size:=eq_of_beq q.2;exact hw ⟨by lia,by lia⟩
 show wpAny _ _ (if (((sIx items.size 0 lo:Nat):Int)==0&&(1:Int)==1&&(sIx items.size items.size hi-sIx items.size 0 lo)==items.size)=true then _ else _) _ _ s;rw[if_neg hno,AY]
 first
  |exact zw (m:=Yl _) (ZR (yt ⟨_,rfl,yt h⟩) htake)
  |exact zw (m:=Yl _) (ZR (zw (yt (yt ⟨_,rfl,yt h⟩))) htake)
  |exact zw (zw (m:=Yl _) (ZR (yt (yt ⟨_,rfl,yt h⟩)) htake))
  |exact zw (zw (m:=Yl _) (ZR (yt ⟨_,rfl,yt h⟩) htake))
end
end HT
namespace L2
open PySem PySem.Spec PyProof.Rows
abbrev TO:=St->Hp->(Option Int->Hp->Prop)->Prop
def PO(X:Cx)(e:Option Expr)(t:TO):Prop:=
 ∀(pins:List (Addr × Obj)) (s:Shared) (σ:St) (H:Hp) (Q:Option Int->Hp->Prop),Inv X pins σ H s->t σ H Q ->
  wpAny (model X.prog X.w) X.A (evalPart e X.env) (fun u s'=>∃o H',Inv X pins σ H' s'/\IsPart u o/\Q o H') X.xe s
def wZ:TO:=fun _ H Q=>Q none H
def D7(t:TE):TO:=fun σ H Q=>t σ H fun x H1=>∃i,x = .int i/\Q (some i) H1
theorem mT{ns:List Int}:∀ {us:List Value},Vals (ns.map V.int) us->IntsAre us ns:=by
 induction ns with
 |nil=>intro us r;rw[Yd]at r;cases r;exact .nil
 |cons n ns ih=>
  intro us r;rw[yF]at r;cases r with
  |cons r1 r2=>
   obtain⟨t,e⟩:=r1;subst e;exact .cons n t (ih r2)
section
variable{X:Cx}{e:Expr}{te:TE}{lo hi:Option Expr}{tl th:TO}{pos p2:Pos}
theorem eF:PO X none wZ:=by
 intro pins s σ H Q I h;rw[evalPart_none];exact yt ⟨none,H,I,.none,h⟩
theorem cU(h:PE X e te):PO X (some e) (D7 te):=by
 intro pins s σ H Q I hw;rw[evalPart_some];refine thn (h pins s σ H _ I hw) fun u s1 ⟨x,H1,I1,r1,q1⟩=>?_;obtain⟨i,rfl,q⟩:=q1;obtain⟨t,rfl⟩:=r1;exact⟨some i,H1,I1,.int i t,q⟩
def SlR(X:Cx)(r:V->Option Int->Option Int->Hp->VK->Prop):Prop:=
 ∀(pins:List (Addr × Obj)) (s:Shared) (σ:St) (H:Hp) (x:V) (v vl vu:Value) (lo hi:Option Int) (sl:Addr) (Q:VK),Inv X pins σ H s->RelV x v->s.heap.IsSliceOf sl vl vu .none->IsPart vl lo->IsPart vu hi->r x lo hi H Q ->
  ∃T id,typeLookup (.type T) "__getitem__" = pure (some (.builtin id))/\s.TypeIs v T/\wpAny (model X.prog X.w) X.A (getItem v (.ref sl)) (EP X pins σ Q) X.xe s
def tSl(r:V->Option Int->Option Int->Hp->VK->Prop)(te:TE)(tl th:TO):TE:=fun σ H Q=>te σ H fun x H1=>tl σ H1 fun l H2=>th σ H2 fun u H3=>r x l u H3 Q
theorem cO{r:V->Option Int->Option Int->Hp->VK->Prop}(hr:SlR X r)(he:PE X e te)(hl:PO X lo tl)(hu:PO X hi th):PE X (.Subscript e (.Slice lo hi none p2) pos) (tSl r te tl th):=by
 intro pins s σ H Q I h;refine Subscript_ (thn (he pins s σ H _ I h) fun v s1 ⟨x,H1,I1,r1,q1⟩=>?_);refine wpAny_Slice (thn (hl pins s1 σ H1 _ I1 q1) fun vl s2 ⟨l,H2,I2,pl,q2⟩=>thn (hu pins s2 σ H2 _ I2 q2) fun vu s3 ⟨u,H3,I3,pu,q3⟩=>?_);rw[evalPart_none];refine yt ?_;have I4:Inv X pins σ H3 { s3 with heap:=s3.heap.push { cls:=.type "slice",data:=.fields #[vl,vu,.none] } }:=I3.kept (t':=s3.toks) fun b ob q=>Heap.get?_push_of_some _ q;obtain⟨T,id,hT,ht,hg⟩:=hr pins { s3 with heap:=s3.heap.push { cls:=.type "slice",data:=.fields #[vl,vu,.none] } } σ H3 x v vl vu l u s3.heap.objs.size Q I4 r1 (Heap.IsSliceOf.new ..) pl pu q3;show wpAny (model X.prog X.w) X.A (subscriptTail e (.Slice lo hi none p2) v (.ref s3.heap.objs.size)) (EP X pins σ Q) X.xe { s3 with heap:=s3.heap.push { cls:=.type "slice",data:=.fields #[vl,vu,.none] } };exact tail_any (ops:=[.ref s3.heap.objs.size,v]) ht hT hg (by with_unfolding_all rfl)
def gW(xs:List V)(lo hi:Option Int):List V:=(xs.drop (HT.sIx xs.length 0 lo)).take (HT.sIx xs.length xs.length hi-HT.sIx xs.length 0 lo)
theorem lS(xs:List V)(lo hi:Option Int):(gW xs lo hi).length<=xs.length:=by
 unfold gW;rw[vm,List.length_drop];lia
def GT(K:W.Frag):V->Option Int->Option Int->Hp->VK->Prop:=fun x lo hi H Q=>∃a xs,x = .ref a/\SqT K H a xs /\
 ¬ (HT.sIx xs.length 0 lo=0/\HT.sIx xs.length xs.length hi=xs.length)/\∀p,H p=none->Q (.ref p) (upd H p (.tup (gW xs lo hi)))
theorem EF:SlR X (GT X.K):=by
 intro pins s σ H x v vl vu lo hi sl Q I rx hs pl pu h;obtain⟨a,xs,rfl,hx,hw,q⟩:=h;cases rx;obtain⟨its,r,ht,hz⟩:=I.tuple hx;have hlen:its.toArray.size=xs.length:=by rw[yp];exact r.length.symm
 refine⟨"tuple",_,PyProof.Rows.slot_tuple_getitem.lookup,ht.typeIs,?_⟩;refine HT.getItem_tuple_cut ht hs pl pu (by rw[hlen];exact hw) ?_ (by rw[hlen];exact hz);rw[hlen];refine⟨.ref s.heap.objs.size,_,I.laid (t':=s.toks) (o:=.tup (gW xs lo hi)) (fun b ob q=>Heap.get?_push_of_some _ q) (z5 _) ?_,rfl,q _ (I.hok.fresh (z5 _))⟩;exact⟨xx (lS xs lo hi) hz,_,(r.drop (HT.sIx xs.length 0 lo)).take (HT.sIx xs.length xs.length hi-HT.sIx xs.length 0 lo),IsTup.new _ _⟩
end
def ixN(n:Nat)(i:Int):Option Nat:=if 0<=i then (if i<n then some i.toNat else none) else if -(n:Int)<=i then some (i+n).toNat else none
def atI{α:Type}(xs:List α)(i:Int):Option α:=(ixN xs.length i).bind fun j=>xs[j]?
theorem wj{i:Int}(h:ixN n i=some j):seqIndex? i n=some j/\j<n /\ -(n:Int)<=i/\i<n:=by
 unfold ixN at h;by_cases h0:0<=i
 ·rw[if_pos h0]at h
  by_cases h1:i<n
  ·rw[if_pos h1]at h
   have e:i.toNat=j:=uF h;exact⟨by rw[seqIndex_of h0 h1,e],by lia,by lia,h1⟩
  ·rw[if_neg h1]at h;cases h
 ·rw[if_neg h0]at h
  by_cases h1:-(n:Int)<=i
  ·rw[if_pos h1]at h
   have e:(i+n).toNat=j:=uF h;exact⟨by rw[seqIndex_neg (by lia) h1,e],by lia,h1,by lia⟩
  ·rw[if_neg h1]at h;cases h
theorem qL{α:Type}{xs:List α}{i:Int}{v:α}(h:atI xs i=some v):∃j,seqIndex? i xs.length=some j/\xs[j]? = some v/\j<xs.length /\ -(xs.length:Int)<=i/\i<xs.length:=by
 unfold atI at h;cases e:ixN xs.length i with
 |none=>rw[e]at h;cases h
 |some j=>
  rw[e]at h;obtain⟨h1,h2,h3,h4⟩:=wj e;exact⟨j,h1,h,h2,h3,h4⟩
theorem aq{α:Type}{xs:List α}{j:Nat}{v:α}(h:xs[j]? = some v):atI xs (j:Int)=some v:=by
 have hj:j<xs.length:=(List.getElem?_eq_some_iff.mp h).1;have e:ixN xs.length (j:Int)=some j:=by
  unfold ixN;rw[if_pos (by lia),if_pos (by lia)];simp
 unfold atI;rw[e];exact h
theorem zu{α:Type}(xs:List α)(v:α):atI (xs++[v]) (-1)=some v:=by
 have hl:(xs++[v]).length=xs.length+1:=by simp
 have e:ixN (xs++[v]).length (-1)=some xs.length:=by
  unfold ixN;rw[hl,if_neg (by decide),if_pos (by lia)]
  congr 1
  lia
 unfold atI;rw[e];show(xs++[v])[xs.length]? = some v;simp
def qX(b:Expr):Prop:=∀o i,subscripted b false o i=operate [o,i] (getItem o i)
def IxR(X:Cx)(r:R2):Prop:=
 ∀(value slice:Expr) (pins:List (Addr × Obj)) (s:Shared) (σ:St) (H:Hp) (x y:V) (v u:Value) (Q:VK),Inv X pins σ H s->RelV x v->RelV y u->r x y H Q ->
  subscripted slice false v u=operate [v,u] (getItem v u)->wpAny (model X.prog X.w) X.A (subscriptTail value slice v u) (EP X pins σ Q) X.xe s
def MtR(X:Cx)(id:String)(r:V->List V->Hp->VK->Prop):Prop:=
 ∀(pins:List (Addr × Obj)) (s:Shared) (σ:St) (H:Hp) (x:V) (xs:List V) (v:Value) (us:List Value) (Q:VK),Inv X pins σ H s->RelV x v->Vals xs us->r x xs H Q ->
  wpAny (model X.prog X.w) X.A (call (.builtin id) (v::us)) (EP X pins σ Q) X.xe s
section
variable{X:Cx}{a b:Expr}{ta tb:TE}{pos:Pos}
theorem IxR.or{r r':R2}(h:IxR X r)(h':IxR X r'):IxR X (fun x y H Q=>r x y H Q\/r' x y H Q):=by
 intro value slice pins s σ H x y v u Q I rx ry q hs;rcases q with q|q
 ·exact h value slice pins s σ H x y v u Q I rx ry q hs
 ·exact h' value slice pins s σ H x y v u Q I rx ry q hs
theorem HA{r:R2}(hr:IxR X r)(ha:PE X a ta)(hb:PE X b tb)(hs:qX b):PE X (.Subscript a b pos) (tOp r ta tb):=by
 intro pins s σ H Q I h;exact Subscript_ (EZ ha hb I h fun v u s2 x y H2 I2 rx ry q=>hr a b pins s2 σ H2 x y v u Q I2 rx ry q (hs _ _))
def GU(K:W.Frag):R2:=fun x y H Q=>∃p xs i v,x = .ref p/\y = .int i/\SqL K H p xs/\atI xs i=some v/\Q v H
def Gr(K:W.Frag):R2:=fun x y H Q=>∃p xs i v,x = .ref p/\y = .int i/\SqT K H p xs/\atI xs i=some v/\Q v H
def Ha:R2:=fun x y H Q=>∃z i c,x = .str z/\y = .int i/\z.length<=sizeLine/\atI z.cps.toList i=some c/\Q (.str ⟨#[c]⟩) H
theorem wg:IxR X (GU X.K):=by
 intro value slice pins s σ H x y v u Q I rx ry h hs;obtain⟨p,xs,i,z,rfl,rfl,hq,he,q⟩:=h;cases rx;obtain⟨t,rfl⟩:=ry;obtain⟨its,r,pl,hz⟩:=I.list hq;obtain⟨j,h1,h2,h3,h4,h5⟩:=qL he;obtain⟨w,ew,rw'⟩:=r.get h2;have hl:=r.length;have hn:=ju;have fin:EP X pins σ Q w s:=⟨z,H,I,rw',q⟩;by_cases h0:0<=i
 ·have hj:i.toNat=j:=by
   rw[seqIndex_of h0 h5]at h1;exact uF h1
  exact item_listR pl.isList h0 (by lia) (by rw[hj];simpa using ew) fin hs
 ·have hj:(i+(its.toArray.size:Int)).toNat=j:=by
   rw[seqIndex_neg (by lia) h4]at h1;rw[yp,<- hl];exact uF h1
  exact subscriptTail_builtinR (x:=w) pl.isList.typeIs slot_list_getitem.lookup
   (wpAny_getItem_list_neg (Q:=fun r s'=>r=w/\EP X pins σ Q r s') pl.isList (by lia) (by rw[yp] <;> lia) (by lia) (by rw[hj];simpa using ew) ⟨rfl,fin⟩) hs
theorem Ft:IxR X (Gr X.K):=by
 intro value slice pins s σ H x y v u Q I rx ry h hs;obtain⟨p,xs,i,z,rfl,rfl,hq,he,q⟩:=h;cases rx;obtain⟨t,rfl⟩:=ry;obtain⟨its,r,pl,hz⟩:=I.tuple hq;obtain⟨j,h1,h2,h3,h4,h5⟩:=qL he;obtain⟨w,ew,rw'⟩:=r.get h2;have hl:=r.length;have hn:=ju;have fin:EP X pins σ Q w s:=⟨z,H,I,rw',q⟩;exact subscriptTail_builtinR (x:=w) pl.typeIs slot_tuple_getitem.lookup
  (getItem_tuple (j:=j) (Q:=fun r s'=>r=w/\EP X pins σ Q r s') pl (by lia) (by lia) (by rw[yp,<- hl];exact h1) (by simpa using ew) ⟨rfl,fin⟩) hs
theorem FC:IxR X Ha:=by
 intro value slice pins s σ H x y v u Q I rx ry h hs;obtain⟨z,i,c,rfl,rfl,hz,he,q⟩:=h;obtain⟨t,rfl⟩:=rx;obtain⟨t',rfl⟩:=ry;obtain⟨j,h1,h2,h3,h4,h5⟩:=qL he;have hl:z.cps.toList.length=z.length:=by simp[ZF]
 rw[hl]at h1 h4 h5;have hn:=ju;exact tail_any (Y0 s z t) slot_str_getitem.lookup (getItem_str (c:=c) (by
  have e1:decide (i < -(2 ^ 63:Int))=false:=decide_eq_false (by lia);have e2:decide (i ≥ 2 ^ 63)=false:=decide_eq_false (by lia);rw[e1,e2,Bool.or_false]) (by rw[h1];simpa using h2) ⟨.str ⟨#[c]⟩,H,I.tok _,⟨_,rfl⟩,q⟩) hs
def rIx(K:W.Frag):R2:=fun x y H Q=>GU K x y H Q\/Gr K x y H Q\/Ha x y H Q
theorem FZ:IxR X (rIx X.K):=wg.or (Ft.or FC)
theorem vh(its:List Value)(n j:Nat)(u:Value):Z3 (·.setIfInBounds j u) { cls:=.type "list",data:=.seq its.toArray n } = { cls:=.type "list",data:=.seq (its.set j u).toArray n }:=by
 simp[Z3]
theorem Inv.lst{pins:List (Addr × Obj)}{σ:St}{H:Hp}{s:Shared}{p:Addr}{xs:List V}(I:Inv X pins σ H s)(h:H p=some (.lst xs)) :
 ∃(its:List Value) (n:Nat),Vals xs its/\s.heap.get? p=some { cls:=.type "list",data:=.seq its.toArray n }/\xs.length<=sizeLine:=by
 obtain⟨z,its,n,r,e⟩:=I.hok p _ h;exact⟨its,n,r,e,z⟩
theorem Inv.lstUpd{s:Shared}{xs ys:List V}{its its':List Value}(I:Inv X pins σ H s)(h:H p=some (.lst xs))
 (ho:s.heap.get? p=some { cls:=.type "list",data:=.seq its.toArray n }) (hf:f { cls:=.type "list",data:=.seq its.toArray n } = { cls:=.type "list",data:=.seq its'.toArray n' }) (r:Vals ys its') (hz:ys.length<=sizeLine) (t:Nat) :
 Inv X pins σ (upd H p (.lst ys)) { s with heap:=s.heap.update p f,toks:=t }:=by
 have e:(s.heap.update p f).get? p=some { cls:=.type "list",data:=.seq its'.toArray n' }:=by
  rw[Heap.get?_update_self f ho (by rw[hf] <;> rfl),hf]
 refine I.write (x:=p) (e:=p) (by rw[h];trivial) (.inl rfl) (fun b u hb q=>(Heap.get?_update_other _ _ (Ne.symm hb)).trans q) ⟨_,e⟩ ?_;exact⟨hz,its',n',r,e⟩
def DW:V->V->V->Hp->(Hp->Prop)->Prop:=fun o i v H Q=>∃p xs k j,o = .ref p/\i = .int k/\H p=some (.lst xs)/\ixN xs.length k=some j/\Q (upd H p (.lst (xs.set j v)))
theorem Ar:Hs X DW:=by
 intro pins s σ H o i v ov iv u Q I ro ri rv h;obtain⟨p,xs,k,j,rfl,rfl,hp,hj,q⟩:=h;cases ro;obtain⟨t,rfl⟩:=ri;obtain⟨its,n,r,ho,hz⟩:=I.lst hp;obtain⟨h1,h2,h3,h4⟩:=wj hj;have hl:=r.length;have hn:=ju;have I':Inv X pins σ (upd H p (.lst (xs.set j v))) { s with heap:=s.heap.update p (Z3 (·.setIfInBounds j u)) }:=
  I.lstUpd hp ho (vh its n j u) (r.set rv j) (by rw[List.length_set];exact hz) s.toks
 by_cases h0:0<=k
 ·have hk:k.toNat=j:=by
   rw[seqIndex_of h0 h4]at h1;exact uF h1
  exact PySem.W.ki_setAt ho h0 (by lia) (by rw[yp,<- hl];exact h4) (by rw[hk];exact⟨_,I',q⟩)
 ·have hk:(k+(its.toArray.size:Int)).toNat=j:=by
   rw[seqIndex_neg (by lia) h3]at h1;rw[yp,<- hl];exact uF h1
  exact PySem.W.ki_setBack ho (by lia) (by rw[yp,<- hl];exact h3) (by lia) (by rw[hk];exact⟨_,I',q⟩)
theorem j4(lo hi:Option Int)(n:Nat):(ZM lo hi none n).1=((HT.sIx n 0 lo:Nat):Int)/\(ZM lo hi none n).2.1=((HT.sIx n n hi:Nat):Int)/\(ZM lo hi none n).2.2=1:=by
 refine⟨?_,?_,rfl⟩
 ·cases lo with
  |none=>simp[ZM,HT.sIx]
  |some i=>
   simp only[ZM,HT.sIx,Option.getD_none,show(1:Int) > 0 by decide,if_true];by_cases h:i<0
   ·simp only[h,if_true] <;> lia
   ·simp only[h,if_false] <;> lia
 ·cases hi with
  |none=>simp[ZM,HT.sIx]
  |some i=>
   simp only[ZM,HT.sIx,Option.getD_none,show(1:Int) > 0 by decide,if_true];by_cases h:i<0
   ·simp only[h,if_true] <;> lia
   ·simp only[h,if_false] <;> lia
theorem o7(its:List Value)(lo hi:Option Int):slicePick its.toArray lo hi none=((its.drop (HT.sIx its.length 0 lo)).take (HT.sIx its.length its.length hi-HT.sIx its.length 0 lo)).toArray:=by
 obtain⟨h1,h2,h3⟩:=j4 lo hi its.toArray.size;unfold slicePick;rw[h1,h2,h3];simp only[sliceRange_one,pick_run,yp] <;> rfl
def Fi(K:W.Frag):V->Option Int->Option Int->Hp->VK->Prop:=fun x lo hi H Q=>∃a xs,x = .ref a/\SqL K H a xs/\∀p,H p=none->Q (.ref p) (upd H p (.lst (gW xs lo hi)))
theorem CD:SlR X (Fi X.K):=by
 intro pins s σ H x v vl vu lo hi sl Q I rx hs pl pu h;obtain⟨a,xs,rfl,hx,q⟩:=h;cases rx;obtain⟨its,r,ht,hz⟩:=I.list hx;have hlen:=r.length;refine⟨"list",_,slot_list_getitem.lookup,ht.isList.typeIs,?_⟩;refine wpAny_getItem_list_slice ht.isList hs pl pu .none (by simp) ?_ (by rw[yp] <;> lia);rw[o7,<- hlen];refine⟨.ref s.heap.objs.size,_,I.laid (t':=s.toks) (o:=.lst (gW xs lo hi)) (fun b ob q=>Heap.get?_push_of_some _ q) (z5 _) ?_,rfl,q _ (I.hok.fresh (z5 _))⟩;exact⟨xx (lS xs lo hi) hz,_,0,(r.drop (HT.sIx xs.length 0 lo)).take (HT.sIx xs.length xs.length hi-HT.sIx xs.length 0 lo),Heap.get?_push_size _ rfl⟩
def eY:V->Bool
 | .non=>true
 | .bl _=>true
 | .int _=>true
 | .str _=>true
 |_=>false
def eqV:V->V->Bool
 | .non,.non=>true
 | .bl a,.bl b=>a==b
 | .bl a,.int b=>(if a then 1 else 0)==b
 | .int a,.bl b=>a==(if b then 1 else 0)
 | .int a,.int b=>a==b
 | .str a,.str b=>a==b
 |_,_=>false
theorem vD(ry:RelV y u)(rx:RelV x v)(fy:eY y=true)(fx:eY x=true):SeqAt.EqAt A s u v (eqV y x):=by
 cases y with
 |non=>
  cases ry;cases x with
  |non=>cases rx;exact SeqAt.EqAt.same _
  |bl b=>cases rx;exact SeqAt.EqAt.none_bool b
  |int b=>obtain⟨t,rfl⟩:=rx;exact SeqAt.EqAt.none_int b t
  |str b=>obtain⟨t,rfl⟩:=rx;exact SeqAt.EqAt.none_str b t
  |_=>exact absurd (show false=true from fx) y9
 |bl a=>
  cases ry;cases x with
  |non=>cases rx;exact SeqAt.EqAt.bool_none a
  |bl b=>cases rx;exact SeqAt.EqAt.bool_bool a b
  |int b=>obtain⟨t,rfl⟩:=rx;exact SeqAt.EqAt.bool_int a b t
  |str b=>obtain⟨t,rfl⟩:=rx;exact SeqAt.EqAt.bool_str a b t
  |_=>exact absurd (show false=true from fx) y9
 |int a=>
  obtain⟨t',rfl⟩:=ry;cases x with
  |non=>cases rx;exact SeqAt.EqAt.int_none a t'
  |bl b=>cases rx;exact SeqAt.EqAt.int_bool a t' b
  |int b=>obtain⟨t,rfl⟩:=rx;exact SeqAt.EqAt.int_int a t' b t
  |str b=>obtain⟨t,rfl⟩:=rx;exact SeqAt.EqAt.int_str a t' b t
  |_=>exact absurd (show false=true from fx) y9
 |str a=>
  obtain⟨t',rfl⟩:=ry;cases x with
  |non=>cases rx;exact SeqAt.EqAt.str_none a t'
  |bl b=>cases rx;exact SeqAt.EqAt.str_bool a t' b
  |int b=>obtain⟨t,rfl⟩:=rx;exact SeqAt.EqAt.str_int a t' b t
  |str b=>obtain⟨t,rfl⟩:=rx;exact SeqAt.EqAt.str_str a t' b t
  |_=>exact absurd (show false=true from fx) y9
 |_=>exact absurd (show false=true from fy) y9
def eqU(x:V)(u:Value):Bool:=match u with
 | .none=>eqV .non x
 | .bool b=>eqV (.bl b) x
 | .int i _=>eqV (.int i) x
 | .str z _=>eqV (.str z) x
 |_=>false
theorem ze(r:RelV y u)(f:eY y=true):eqU x u=eqV y x:=by
 cases y with
 |non=>cases r;rfl
 |bl b=>cases r;rfl
 |int i=>obtain⟨t,rfl⟩:=r;rfl
 |str z=>obtain⟨t,rfl⟩:=r;rfl
 |_=>exact absurd (show false=true from f) y9
theorem kJ:∀ {xs:List V} {us:List Value},Vals xs us->xs.all eY=true->us.any (eqU x)=xs.any fun y=>eqV y x
 |_,_,.nil,_=>rfl
 |y::xs,u::us,.cons r t,f=>by
  rw[List.all_cons,sT]at f;rw[YD,YD,ze r f.1,kJ t f.2]
theorem iK(rx:RelV x v)(fx:eY x=true):∀ {xs:List V} {us:List Value},Vals xs us->xs.all eY=true->∀u∈us,SeqAt.EqAt A s u v (eqU x u)
 |_,_,.nil,_=>fun u hu=>by cases hu
 |y::xs,u::us,.cons r t,f=>fun u' hu=>by
  rw[List.all_cons,sT]at f;rcases z6.mp hu with rfl|hu
  ·rw[ze r f.1];exact vD r rx f.1 fx
  ·exact iK rx fx t f.2 u' hu
def inV(x:V)(xs:List V):Bool:=xs.any fun y=>eqV y x
def rIn(K:W.Frag)(neg:Bool):R2:=fun x y H Q=>∃p xs,y = .ref p/\(SqL K H p xs\/SqT K H p xs)/\eY x=true/\xs.all eY=true/\Q (.bl (if neg then !inV x xs else inV x xs)) H
theorem xZ:OpR X (uK .In) (rIn X.K false):=by
 intro pins s σ H x y v u Q I rx ry h;obtain⟨p,xs,rfl,hq,fx,fs,q⟩:=h;cases ry;rcases hq with hq|hq
 ·obtain⟨its,r,pl,hz⟩:=I.list hq
  refine SeqAt.in_listAt (eqU x) pl.isList (fun w hw=>iK rx fx r fs w (by simpa using hw)) ⟨.bl _,H,I,rfl,?_⟩;rw[show its.toArray.any (eqU x)=its.any (eqU x) by simp,kJ r fs];exact q
 ·obtain⟨its,r,pl,hz⟩:=I.tuple hq
  refine SeqAt.in_tupleAt (eqU x) pl (fun w hw=>iK rx fx r fs w (by simpa using hw)) ⟨.bl _,H,I,rfl,?_⟩;rw[show its.toArray.any (eqU x)=its.any (eqU x) by simp,kJ r fs];exact q
theorem qq:OpR X (uK .NotIn) (rIn X.K true):=by
 intro pins s σ H x y v u Q I rx ry h;obtain⟨p,xs,rfl,hq,fx,fs,q⟩:=h;cases ry;rcases hq with hq|hq
 ·obtain⟨its,r,pl,hz⟩:=I.list hq
  refine SeqAt.notIn_listAt (eqU x) pl.isList (fun w hw=>iK rx fx r fs w (by simpa using hw)) ⟨.bl _,H,I,rfl,?_⟩;rw[show its.toArray.any (eqU x)=its.any (eqU x) by simp,kJ r fs];exact q
 ·obtain⟨its,r,pl,hz⟩:=I.tuple hq
  refine SeqAt.notIn_tupleAt (eqU x) pl (fun w hw=>iK rx fx r fs w (by simpa using hw)) ⟨.bl _,H,I,rfl,?_⟩;rw[show its.toArray.any (eqU x)=its.any (eqU x) by simp,kJ r fs];exact q
theorem CallR.or{f:Value}{r r':List V->Hp->VK->Prop}(h:CallR X f r)(h':CallR X f r'):CallR X f (fun xs H Q=>r xs H Q\/r' xs H Q):=by
 intro pins s σ H xs us Q I rs q;rcases q with q|q
 ·exact h pins s σ H xs us Q I rs q
 ·exact h' pins s σ H xs us Q I rs q
theorem qQ:CallR X (.type "list") (fun xs H Q=>∃p ys,xs=[.ref p]/\(SqL X.K H p ys\/SqT X.K H p ys)/\∀l,H l=none->Q (.ref l) (upd H l (.lst ys))):=by
 intro pins s σ H xs us Q I r h;obtain⟨p,ys,rfl,hq,q⟩:=h;obtain⟨u,rfl,rx⟩:=eS r;cases rx;have fin:∀(its:List Value),Vals ys its->ys.length<=sizeLine->∀(h':Heap) (c':Nat),(∀b o',s.heap.get? b=some o'->h'.get? b=some o') ->
  h'.get? s.heap.objs.size=some { cls:=.type "list",dict:=none,data:=.seq its.toArray c',slots:=#[] }->EP X pins σ Q (.ref s.heap.objs.size) { s with heap:=h' }:=fun its r' hz h' c' kp e=>
  ⟨.ref s.heap.objs.size,_,I.laid (t':=s.toks) kp (z5 _) (show ObjOk X.prog X.w _ h' _ (.lst ys) from⟨hz,its,c',r',e⟩),rfl,q _ (I.hok.fresh (z5 _))⟩
 rcases hq with hq|hq
 ·obtain⟨its,r',pl,hz⟩:=I.list hq
  have hlen:=r'.length;obtain⟨o,ho,hc,n,hd⟩:=pl.isList;exact call_list_seq p (.inl rfl) ho hc hd (fun h' c' kp e=>fin its r' hz h' c' kp e) (by simp only[yp] <;> lia)
 ·obtain⟨its,r',pl,hz⟩:=I.tuple hq
  have hlen:=r'.length;obtain⟨o,ho,hc,n,hd⟩:=pl;exact call_list_seq p (.inr rfl) ho hc hd (fun h' c' kp e=>fin its r' hz h' c' kp e) (by simp only[yp] <;> lia)
theorem o8:CallR X (.type "tuple") (fun xs H Q=>∃p ys,xs=[.ref p]/\((SqL X.K H p ys/\∀l,H l=none->Q (.ref l) (upd H l (.tup ys)))\/(SqT X.K H p ys/\Q (.ref p) H))):=by
 intro pins s σ H xs us Q I r h;obtain⟨p,ys,rfl,h⟩:=h;obtain⟨u,rfl,rx⟩:=eS r;cases rx;rcases h with ⟨hq,q⟩|⟨hq,q⟩
 ·obtain⟨its,r',pl,hz⟩:=I.list hq
  have hlen:=r'.length;refine call_tuple_list pl.isList (fun h' kp=>?_) (by simp only[yp] <;> lia);have I1:Inv X pins σ H { s with heap:=h' }:=I.kept (t':=s.toks) kp;have I2:Inv X pins σ (upd H h'.objs.size (.tup ys)) { s with heap:=h'.push { cls:=.type "tuple",data:=.seq its.toArray } }:=
   I1.laid (t':=s.toks) (fun b o e=>Heap.get?_push_of_some _ e) (z5 _) (show ObjOk X.prog X.w _ _ _ (.tup ys) from⟨hz,its,r',IsTup.new _ _⟩)
  exact⟨.ref h'.objs.size,_,I2,rfl,q _ (I1.hok.fresh (z5 _))⟩
 ·obtain⟨its,r',pl,hz⟩:=I.tuple hq
  exact call_tuple_same pl ⟨.ref p,H,I,rfl,q⟩
def tyV(K:W.Frag)(T:String)(x:V)(H:Hp):Prop:=match x with
 | .str _=>T = "str"
 | .int _=>T = "int"
 | .ref p=>(T = "list" /\ ∃xs,SqL K H p xs)\/(T = "tuple" /\ ∃o,K.lookup p=some o/\o.cls = .type "tuple" /\ o.dict=none) \/
  (T = "dict" /\ ((∃kvs,H p=some (.dK kvs))\/∃kvs,H p=some (.dT kvs)))\/(T = "set" /\ ∃S n,H p=some (.set S n))
 |_=>False
theorem Fr{pins:List (Addr × Obj)}{σ:St}{H:Hp}{s:Shared}{T:String}{x:V}{v:Value}(I:Inv X pins σ H s)(r:RelV x v)(ty:tyV X.K T x H) :
 s.TypeIs v T/\∀a,v = .ref a->∃ob,s.heap.get? a=some ob/\ob.dict=none:=by
 cases x with
 |str z=>
  obtain⟨t,rfl⟩:=r;cases (show T = "str" from ty);exact⟨Y0 s z t,fun _ e=>nomatch e⟩
 |int i=>
  obtain⟨t,rfl⟩:=r;cases (show T = "int" from ty);exact⟨typeIs_int s i t,fun _ e=>nomatch e⟩
 |ref p=>
  cases r;rcases ty with ⟨rfl,xs,hq⟩|⟨rfl,o,hk,hc,hd⟩|⟨rfl,hk⟩|⟨rfl,S,n,hk⟩
  ·obtain⟨its,_,pl,_⟩:=I.list hq
   refine⟨pl.isList.typeIs,fun a e=>?_⟩;cases e;obtain⟨o,n,e,c,hd,_⟩:=pl;exact⟨o,e,hd⟩
  ·refine⟨⟨o,I.kIn p o hk,hc⟩,fun a e=>?_⟩
   cases e;exact⟨o,I.kIn _ o hk,hd⟩
  ·have z:∃o,s.heap.get? p=some o/\o.ExactDict:=by
    rcases hk with ⟨kvs,hk⟩|⟨kvs,hk⟩
    ·obtain⟨_,_,_,_,o,_,_,e,ex,_⟩:=I.hok p _ hk
     exact⟨o,e,ex⟩
    ·obtain⟨_,_,_,_,o,_,_,e,ex,_⟩:=I.hok p _ hk
     exact⟨o,e,ex⟩
   obtain⟨o,e,ex⟩:=z;refine⟨⟨o,e,ex.1⟩,fun a e2=>?_⟩;cases e2;exact⟨o,e,ex.2.1⟩
  ·obtain⟨o,_,_,_,e,ex,_⟩:=I.hok p _ hk
   refine⟨⟨o,e,ex.1⟩,fun a e2=>?_⟩;cases e2;exact⟨o,e,ex.2.1⟩
 |_=>exact ZS ty
def tBM(K:W.Frag)(T:String)(r:V->List V->Hp->VK->Prop)(to:TE)(t:TA):TE:=fun σ H Q=>to σ H fun x H1=>tyV K T x H1/\t σ H1 fun xs H2=>r x xs H2 Q
variable{o e:Expr}{es:List Expr}{to:TE}{t:TA}{name:Str}{apos cpos:Pos}{T id:String}{r:V->List V->Hp->VK->Prop}
theorem GN(pa:PlainAttrs T)(slot:Slot T name id)(hty:typeOf (.builtin id)=pure (.type "method_descriptor"))(hm:MtR X id r)(ho:PE X o to)(ha:PA X (e::es) t)
 (hbase:YF o name X.env (eval o X.env)=eval o X.env:=by rfl)
 (hfew:((backTo cpos (starEach (e::es) X.env)).all (fun x=>!x.1)&&(backToKw cpos (YM [] X.env)).all (fun x=>x.1.isSome)
  && decide ((e::es).length+([]:List Keyword).length+(if ([]:List Keyword).isEmpty then 0 else 1)<30))=true:=by rfl)
 (hline:(apos.endLine==cpos.line)=true:=by rfl) (hs:starEach (e::es) X.env=(false,eval e X.env)::starEach es X.env:=by rfl) (hplain:(backTo cpos (starEach es X.env)).any (·.1)=false:=by rfl) :
 PE X (.Call (.Attribute o name apos) (e::es) [] cpos) (tBM X.K T r to t):=by
 intro pins s σ H Q I h;refine wpAny_Call_method_late hbase hfew hline rfl (thn (ho pins s σ H _ I h) fun v s1 ⟨x,H1,I1,r1,ty,q1⟩=>?_);obtain⟨h1,h2⟩:=Fr I1 r1 ty;refine⟨T,id,pa,slot,hty,h1,h2,?_⟩;have hA:=ha cpos pins s1 σ H1 _ I1 q1;rw[hs]at hA |-
 refine Calls.callWith_builtin (by show(false || (backTo cpos (starEach es X.env)).any (·.1))=false;rw[hplain] <;> rfl) (Yq ?_);exact thn hA fun us s2 ⟨vs,H2,I2,r2,q2⟩=>hm pins s2 σ H2 x vs v us Q I2 r1 r2 q2
end
def MtM(X:Cx)(id:String)(r:V->List V->Hp->VK->Prop):Prop:=
 ∀(pins:List (Addr × Obj)) (s:Shared) (σ:St) (H:Hp) (x:V) (xs:List V) (v:Value) (us:List Value) (Q:VK),Inv X pins σ H s->RelV x v->Vals xs us->r x xs H Q ->
  wpAny (model X.prog X.w) X.A (call (.builtin id) (v::us)) (EP X pins σ Q) X.xe s
theorem Vals.one:∀ {x:V} {us:List Value},Vals [x] us->∃u,us=[u]/\RelV x u
 |_,_,.cons r .nil=>⟨_,rfl,r⟩
theorem Vals.dropLast{xs:List V}{us:List Value}(h:Vals xs us):Vals xs.dropLast us.dropLast:=by
 induction h with
 |nil=>exact .nil
 |cons r t ih=>
  cases t with
  |nil=>exact .nil
  |cons q t'=>exact .cons r ih
section
variable{X:Cx}{pins:List (Addr × Obj)}{σ:St}{H:Hp}{s:Shared}{l b:Addr}{xs ys zs:List V}
theorem Inv.lset{its its':List Value}{f:Array Value->Array Value}(I:Inv X pins σ H s)(hH:H l=some (.lst xs))
 (e:s.heap.get? l=some { cls:=.type "list",data:=.seq its.toArray n }) (hf:f its.toArray=its'.toArray) (hv:Vals ys its') (hz:ys.length<=sizeLine) :
 Inv X pins σ (upd H l (.lst ys)) { s with heap:=s.heap.update l (Z3 f),toks:=t' }:=by
 have q:=PySem.IsL.update e f;rw[hf]at q;refine I.write (x:=l) (e:=l) (by rw[hH];exact trivial) (.inl rfl) (fun b' u hb hu=>(Heap.get?_update_other s.heap (Z3 f) (Ne.symm hb)).trans hu) ⟨_,q⟩ ?_;exact⟨hz,its',_,hv,q⟩
theorem Inv.lnew{its:List Value}(I:Inv X pins σ H s)(hv:Vals ys its)(hz:ys.length<=sizeLine) :
 Inv X pins σ (upd H s.heap.objs.size (.lst ys)) { s with heap:=s.heap.push { cls:=.type "list",data:=.seq its.toArray },toks:=t' }:=
 I.laid (fun _ _ q=>Heap.get?_push_of_some _ q) (z5 _) ⟨hz,its,0,hv,Heap.get?_push_size _ rfl⟩
theorem Inv.fresh(I:Inv X pins σ H s):H s.heap.objs.size=none:=I.hok.fresh (z5 _)
theorem Inv.lstM(I:Inv X pins σ H s)(hH:H l=some (.lst xs)):xs.length<=sizeLine/\∃(its:List Value) (n:Nat),Vals xs its/\xs.length=its.length/\s.heap.get? l=some { cls:=.type "list",data:=.seq its.toArray n }:=by
 obtain⟨z,its,n,r,e⟩:=I.hok l _ hH;exact⟨z,its,n,r,r.length,e⟩
theorem tm(h:n<=sizeLine):YC n=false:=by
 unfold YC;exact decide_eq_false (by lia)
end
section
variable{X:Cx}
def wT:V->List V->Hp->VK->Prop:=fun x vs H Q=>∃l xs y,x = .ref l/\vs=[y]/\H l=some (.lst xs)/\xs.length<sizeLine/\Q .non (upd H l (.lst (xs++[y])))
theorem eh:MtM X "list.append" wT:=by
 intro pins s σ H x vs v us Q I rx rv h;obtain⟨l,xs,y,rfl,rfl,hH,hz,q⟩:=h;cases rx;obtain⟨u,rfl,ru⟩:=rv.one;obtain⟨z,its,n,r,hl,e⟩:=I.lstM hH;refine call_meets F.slot_list_append ⟨_,e,rfl⟩ F.entry_list_append (F.args_list_append_2 _ _) (PySem.list_append l its.toArray n u (by rw[yp];lia)) ⟨e,?_⟩;refine⟨.non,_,I.lset (its':=its++[u]) hH e (by simp) (r.append (.cons ru .nil)) ?_,rfl,q⟩;rw[yk,si];lia
def B1:V->List V->Hp->VK->Prop:=fun x vs H Q=>∃l b xs zs,x = .ref l/\vs=[.ref b]/\H l=some (.lst xs)/\H b=some (.lst zs)/\xs.length+zs.length<=sizeLine/\Q .non (upd H l (.lst (xs++zs)))
theorem Gj:MtM X "list.extend" B1:=by
 intro pins s σ H x vs v us Q I rx rv h;obtain⟨l,b,xs,zs,rfl,rfl,hH,hB,hz,q⟩:=h;cases rx;obtain⟨u,rfl,ru⟩:=rv.one;cases ru;obtain⟨z,its,n,r,hl,e⟩:=I.lstM hH;obtain⟨z2,its2,n2,r2,hl2,e2⟩:=I.lstM hB;have hsz:its.toArray.size+its2.toArray.size<=sizeLine:=by rw[yp,yp];lia
 have hlong:¬ (!its.toArray.isEmpty&&YC (its.toArray.size+its2.toArray.size))=true:=by
  rw[tm hsz,Bool.and_false];exact y9
 refine call_meets F.slot_list_extend ⟨_,e,rfl⟩ F.entry_list_extend (F.args_list_extend_2 _ _)
  (AutoSeq1.list_extend_list_list_0 l its.toArray n b its2.toArray n2 hlong (by rw[yp];lia) (by lia)) ⟨e,e2,?_⟩
 refine⟨.non,_,I.lset (its':=its++its2) hH e (by simp) (r.append r2) ?_,rfl,q⟩;rw[yk];lia
def H_:R2:=fun x y H Q=>∃l b xs zs,x = .ref l/\y = .ref b/\H l=some (.lst xs)/\H b=some (.lst zs)/\xs.length+zs.length<=sizeLine/\∀p,H p=none->Q (.ref p) (upd H p (.lst (xs++zs)))
theorem Fu:OpR X (binaryOp .Add) H_:=by
 intro pins s σ H x y v u Q I rx ry h;obtain⟨l,b,xs,zs,rfl,rfl,hH,hB,hz,q⟩:=h;cases rx;cases ry;obtain⟨z,its,n,r,hl,e⟩:=I.lstM hH;obtain⟨z2,its2,n2,r2,hl2,e2⟩:=I.lstM hB;refine PySem.P.add_list e e2 ?_ (by rw[yp,yp];lia);have ea:its.toArray++its2.toArray=(its++its2).toArray:=by simp
 rw[ea];exact⟨.ref _,_,I.lnew (t':=s.toks) (r.append r2) (by rw[yk];lia),rfl,q _ I.fresh⟩
end
section
variable{prog:Program}{w:World}{A:Around}{E:Value->Shared->Prop}{s:Shared}
end
section
variable{X:Cx}
end
end L2
namespace Att
open PySem PySem.W PySem.Calls PyProof.Rows
theorem mj:∀(ns:List Int) (vs:List Value),WellAll P h vs (ns.map WData.int)->IntsAre vs ns:=by
 intro ns
 induction ns with
 |nil=>
  intro vs w;rw[Yd]at w;cases w;exact .nil
 |cons n ns ih=>
  intro vs w;rw[yF]at w;cases w with
  |cons a b=>
   cases a;exact .cons _ _ (ih _ b)
theorem yS{l:OpenLaw}(hn:l.most=some n){h:Heap}
 (hpre:l.row.toRowW.claim.pre args=true) (hwl:WellAll P h vals args) :
 ∃a vs ns,vals=[yX a]/\args=[WData.list (ns.map WData.int)]/\h.get? a=some { cls:=.type "list",data:=.seq vs.toArray }/\IntsAre vs ns/\ns.length<=n:=by
 have hsh:WShape.hasAll [] args [.list .int]=true:=(pre_splitW hpre).1;have hc:l.pre.holds [] { args:=args }=true:=(pre_splitW hpre).2;obtain⟨d,r,rfl,h1,h2⟩:=hasAllW_cons hsh;obtain rfl:=hasAllW_nil h2;obtain⟨xs,rfl,h3⟩:=hasW_list h1;obtain⟨ns,rfl⟩:=items_int h3;have hlen:ns.length<=n:=by
  unfold OpenLaw.pre at hc;have h4:(WTm.not (.lt (.lit (.int (n:Int))) (.len (.arg 0)))).holds [] { args:=[.list (ns.map .int)] }=true:=by
   have h4:=(holds_andW hc).1;rw[hn]at h4;exact h4
  have h5:=condW_of h4 (w_not (w_lt w_lit (w_len_list (w_arg rfl))));rw[zB]at h5;refine Nat.le_of_not_lt fun q=>?_;have q':(n:Int)<((ns.length:Nat):Int):=by lia
  first
   |(rw[decide_eq_true q']at h5;exact absurd h5 (by decide))
   |(simp at h5;lia)
 cases hwl with
 |cons w1 w2=>
  cases w2;cases w1 with
  |list ho hall=>exact⟨_,_,ns,rfl,rfl,ho,mj ns _ hall,hlen⟩
theorem xH(l:OpenLaw)(args:List WData):l.row.toRowW.claim.post args (.bool true) args=true:=
 postW_of (r:=l.row.toRowW) (X:=(true==true))
  (show WShape.has [] (.bool true) .bool=true by first|rfl|decide|simp[WShape.has,WShape.arms,WShape.armsAll])
  (show(WTm.eq .res (.lit (.bool true))).value [] { args:=args,res:=some (.bool true),after:=args }=some (.bool (true==true)) from w_eq_bool (w_res rfl) w_lit) rfl
theorem attach_call{l:OpenLaw}{XP:(Str->Option Value)->Heap->Prop}{d:DefRec}
 (hn:l.most=some n) (hdf:d.params.defaults=[])
 (call:∀(w:World) (s₀ s₁:Shared) (mg mb:Str->Option Value) (fa:Addr) (o:Obj) (pm cd doc:Value) (a:Addr) (vs:List Value) (ns:List Int),
  Ground q loose [] XP w s₀ mg mb s₁.heap->YP w s₁.heap ->
  s₁.heap.get? fa=some o->o.data = .func (docDef d.name d.params d.body d.scope pm cd doc)->s₁.heap.CodeRec cd d.name->mg d.name=some (.ref fa) ->
  s₁.heap.get? a=some { cls:=.type "list",data:=.seq vs.toArray }->IntsAre vs ns->ns.length<=n->s₁.gens = #[] ->
  codeAny (model l.prog w) callerA (.call (.ref fa) ⟨[.ref a],[]⟩) (fun r s'=>r = .ok (.ret (.bool true))/\OldK s₁.heap s'.heap/\s'.os=s₁.os/\AllBare s'.gens) s₁) :
 WalkO q loose XP YP l.row.toRowW d [] (fun f vs=>PySem.call f vs):=by
 intro w s₀ s₁ mg mb G Y fa o pm cd doc dV kV ho hd hcd hD hmg hg args vals as hpre hlay hrd hwl hlo;obtain rfl:dV = .none:=Dflts.none hD hdf;obtain rfl:kV = .none:=Dflts.noKw hD;obtain⟨a,vs,ns,rfl,rfl,hobj,hints,hlen⟩:=yS hn hpre hwl;refine enter_call (codeAny_mono (call w s₀ s₁ mg mb fa o pm cd doc a vs ns G Y ho (fd_plain hd) hcd hmg hobj hints hlen hg) fun r s' hq=>?_);obtain⟨rfl,h2,h3,h4⟩:=hq;exact⟨.inl ⟨.bool true,.bool true,[],rfl,fun _=>rfl,.bool true,xH l _,fun _=>⟨List.Pairwise.nil,fun _ hm=>(nomatch hm)⟩⟩,h2,h3,h4⟩
section
variable{prog:Program}{w:World}{A:Around}{E:Value->Shared->Prop}{s:Shared}{K:Frag}
end
end Att
namespace L2
open PySem PySem.Spec PyProof.Rows
theorem pC:∀ {vs:List Value} {ns:List Int},IntsAre vs ns->Vals (ns.map V.int) vs
 |_,_,.nil=>.nil
 |_,_,.cons n t h=>.cons ⟨t,rfl⟩ (pC h)
def xO(H:Hp):Prop:=∀b,H b=none\/∃o xs,H b=some (.frz o (.lst xs))
theorem Ai{K:W.Frag}{s₁:Shared}{vs:List Value}{ns:List Int}
 (KX:K.In s₁.heap) (hns:s₁.heap.Ns Zb mg) (hb:s₁.heap.Ns builtinsNs mb) (hbb:∀x:Str,x ≠ "__name__" -> mb x=rF x) (hlim:s₁.heap.NoLimit) (hg:s₁.gens = #[])
 (ha:s₁.heap.get? a=some { cls:=.type "list",data:=.seq vs.toArray }) (hi:IntsAre vs ns) (hl:ns.length<=sizeLine) (hr:Room k callerA)
 (F:∀base:Heap,K.In base->base.Ns Zb mg->hV P w K mg base CX k fa fd [x] sp) (hbind:∀(s:Shared) (u:Value),BindsTo s fd ⟨[u],[]⟩ [(x,u)])
 (hsp:∀H:Hp,xO H->SqL K H a (ns.map V.int)->sp [.ref a] H (fun v _=>v = .bl true) fun _ _ _=>False)
 (hCX:∀H e s',CX [] H s₁ (fun _ _ _=>False) e s'->False) :
 codeAny (model P w) callerA (.call (.ref fa) ⟨[.ref a],[]⟩) (fun r s'=>r = .ok (.ret (.bool true))/\OldK s₁.heap s'.heap/\s'.os=s₁.os/\AllBare s'.gens) s₁:=by
 have rv:=pC hi;have lenV:=hi.length;have core:∀H:Hp,xO H->SqL K H a (ns.map V.int)->HOk P w H s₁.heap->(∀b,H b≠none->b=a)->(H a≠none->K.lookup a=none) ->
  codeAny (model P w) callerA (.call (.ref fa) ⟨[.ref a],[]⟩) (fun r s'=>r = .ok (.ret (.bool true))/\OldK s₁.heap s'.heap/\s'.os=s₁.os/\AllBare s'.gens) s₁:=by
  intro H hO hS hok hA hK;have base_of:∀ {b:Addr} {o:Obj},s₁.heap.get? b=some o->H b=none->(qk s₁.heap H).get? b=some o:=fun e n=>y6 e n;have noA:∀ {b:Addr} {o:Obj} {es:Array Y6} {ep:Nat},s₁.heap.get? b=some o->o.data = .dict es ep->H b=none:=fun {b o es ep} e d=>by
   cases q:H b with
   |none=>rfl
   |some u=>
    have e':b=a:=hA b (by rw[q];simp);subst e';rw[ha]at e;cases e;have d':Data.seq vs.toArray _=YI es ep:=d;cases d'
  have nsK:∀ {b:Addr} {m:Str->Option Value},s₁.heap.Ns b m->(qk s₁.heap H).Ns b m:=fun {b m} ⟨o,es,ep,e,d,r⟩=>⟨o,es,ep,base_of e (noA e d),d,r⟩;have hKb:K.In (qk s₁.heap H):=fun b o e=>base_of (KX b o e) (by
   cases q:H b with
   |none=>rfl
   |some u=>
    have e':b=a:=hA b (by rw[q];simp);subst e';rw[hK (by rw[q];simp)]at e;cases e)
  have hM:Mod K mg (qk s₁.heap H):=⟨hKb,nsK hns,⟨mb,nsK hb,hbb⟩,let ⟨mc,h1,h2⟩:=hlim;⟨mc,nsK h1,h2⟩⟩;have e0:Env0 P w K mg (qk s₁.heap H) callerA [] s₁ H:=⟨rfl,hM,fun b o e=>Dm e,Nat.le_of_eq (xI _ _),trivial,fun b hb=>absurd (show b∈([]:List Addr) from hb) (by simp),hok,.of_eq hg⟩;refine codeAny_mono ((F _ hKb (nsK hns)).run callerA [] s₁ H ⟨[.ref a],[]⟩ [.ref a] [.ref a] _ _ hr e0 (hbind s₁ (.ref a)) (.cons rfl .nil) (hsp H hO hS)) fun r s' h=>?_;cases r with
  |error e=>exact(hCX H e s' h).elim
  |ok fl=>
   cases fl with
   |next=>exact ZS h
   |brk=>exact ZS h
   |cont=>exact ZS h
   |ret u=>
    obtain⟨v,H',os,bare,un,hok',r',q⟩:=h;have q':v = .bl true:=q;subst q';obtain rfl:u=YN true:=r';refine⟨rfl,OldK.of_keep fun b o e=>?_,os,bare⟩;cases q:H b with
    |none=>exact un.keep b o e q (by intro z;exact absurd (show b∈([]:List Addr) from z) (by simp)) (by simp)
    |some u=>
     rcases hO b with z|⟨ob,xs,z⟩
     ·rw[q]at z;cases z
     ·have z2:=un.frzs b ob _ z
      obtain⟨e1,_⟩:=hok b _ z;obtain⟨e2,_⟩:=hok' b _ z2;rw[e]at e1;cases e1;exact e2
 cases hk:K.lookup a with
 |some o=>
  have e:=KX a o hk;rw[ha]at e;cases e;refine core (fun _=>none) (fun _=>.inl rfl) (.inr ⟨_,vs.toArray,_,hk,rfl,rfl,rfl,by rw[yp,lenV];exact hl,by simpa using rv⟩) (fun b u z=>by have z':(none:Option HO)=some u:=z;cases z') (fun b z=>absurd rfl z) fun z=>absurd rfl z
 |none=>
  refine core (fun b=>if b=a then some (.frz { cls:=.type "list",data:=.seq vs.toArray } (.lst (ns.map V.int))) else none) (fun b=>?_) (.inl (.inr ⟨{ cls:=.type "list",data:=.seq vs.toArray },if_pos rfl⟩)) (fun b u z=>?_) (fun b z=>?_) fun _=>hk
  ·by_cases hb:b=a
   ·exact .inr ⟨_,_,if_pos hb⟩
   ·exact .inl (if_neg hb)
  ·by_cases hb:b=a
   ·have z':=(if_pos hb).symm.trans z
    cases z';subst hb;exact⟨ha,by rw[zB];exact hl,vs,_,rv,ha⟩
   ·have z':=(if_neg hb).symm.trans z
    cases z'
  ·by_cases hb:b=a
   ·exact hb
   ·exact absurd (if_neg hb) z
theorem CP{l:PySem.W.OpenLaw}{n k:Nat}{q:Program}{loose:List Str}{XP:(Str->Option Value)->Heap->Prop}{YP:World->Heap->Prop}{d:DefRec}{K:Params->W.Frag}{CX:World->CXT}{sp:World->Sp}{x:Str}
 (hn:l.most=some n) (hn2:n<=sizeLine) (hdf:d.params.defaults=[]) (hr:Room k callerA)
 (hY:∀(w:World) (h:Heap),YP w h->(K w.params).In h)
 (F:∀(w:World) (mg:Str->Option Value) (fa:Addr) (h:Heap),(K w.params).In h->h.Ns Zb mg->mg d.name=some (.ref fa) ->
  ∃fd:FuncData,(∀(s:Shared) (u:Value),BindsTo s fd ⟨[u],[]⟩ [(x,u)]) /\
   ∀base:Heap,(K w.params).In base->base.Ns Zb mg->hV l.prog w (K w.params) mg base (CX w) k fa fd [x] (sp w))
 (hsp:∀(w:World) (H:Hp) (a:Addr) (ns:List Int),ns.length<=n->xO H->SqL (K w.params) H a (ns.map V.int)->sp w [.ref a] H (fun v _=>v = .bl true) fun _ _ _=>False)
 (hCX:∀(w:World) (H:Hp) (s:Shared) (e:Value) (s':Shared),CX w [] H s (fun _ _ _=>False) e s'->False) :
 PySem.W.WalkO q loose XP YP l.row.toRowW d [] (fun f vs=>PySem.call f vs):=by
 refine Att.attach_call hn hdf fun w s₀ s₁ mg mb fa o pm cd doc a vs ns G Y ho hd hcd hmg hobj hints hlen hg=>?_;have KX:=hY w _ Y;obtain⟨fd,hb,hF⟩:=F w mg fa _ KX G.T.g hmg;exact Ai KX G.T.g G.T.b G.T.builtins G.T.nolimit hg hobj hints (xx hlen hn2) hr hF hb (fun H hO hS=>hsp w H a ns hlen hO hS) fun H e s'=>hCX w H s₁ e s'
abbrev CX0:CXT:=fun _ _ _ _ _ _=>False
structure Fun(K:W.Frag)(x qual:Str)(st:Stmt)(f:Addr)(fd:FuncData):Prop where
 ex:∃(oc:Value) (od:Option Addr) (kV doc pm:Value) (an:Option Addr) (cdv ct:Value) (osl:Array (Option Value)),
  fd=Yx x qual (aB st) (au st) (ae st) .none kV doc pm an cdv ct/\K.lookup f=some ⟨oc,od,.func fd,osl⟩/\PySem.W.codeIn K cdv qual=true
 kp:ZJ K (.ref f)=true
section
variable{P:Program}{w:World}{K:W.Frag}{mg:Str->Option Value}{base:Heap}
theorem Fun.binds{x qual:Str}{st:Stmt}{f:Addr}{fd:FuncData}{ps:List Str}(F:Fun K x qual st f fd)
 (h:∀(kV doc pm:Value) (an:Option Addr) (cdv ct:Value) (us:List Value),us.length=ps.length->bindArgs (Yx x qual (aB st) (au st) (ae st) .none kV doc pm an cdv ct) ⟨us,[]⟩=pure (ps.zip us)):Binds K fd ps []:=by
 obtain⟨oc,od,kV,doc,pm,an,cdv,ct,osl,rfl,lk,hcd⟩:=F.ex;exact .all (h kV doc pm an cdv ct)
theorem vi{x qual:Str}{st:Stmt}{f:Addr}{oc:Value}{od an:Option Addr}{osl:Array (Option Value)}{kV doc pm cdv ct:Value}(l:K.lookup f=some ⟨oc,od,.func (Yx x qual (aB st) (au st) (ae st) .none kV doc pm an cdv ct),osl⟩)
 (c:PySem.W.codeIn K cdv qual=true) (k:ZJ K (.ref f)=true):Fun K x qual st f (Yx x qual (aB st) (au st) (ae st) .none kV doc pm an cdv ct):=⟨⟨oc,od,kV,doc,pm,an,cdv,ct,osl,rfl,l,c⟩,k⟩
end
section
variable{X:Cx}
end
def Same(H H':Hp):Prop:=∀b o,H b=some o->H' b=some o
theorem Same.refl(H:Hp):Same H H:=fun _ _ h=>h
theorem Same.trans(a:Same H H1)(b:Same H1 H2):Same H H2:=fun c o h=>b c o (a c o h)
theorem Same.free{H H':Hp}(e:Same H H'){l:Addr}(h:H' l=Option.none):H l=Option.none:=by
 cases q:H l with
 |none=>rfl
 |some o=>
  rw[e l o q]at h;cases h
def iI:HO->Bool
 | .dT _=>false
 | .frz _ u=>iI u
 |_=>true
def NoT(H:Hp):Prop:=∀a o,H a=some o->iI o=true
def jt:HO->Bool
 | .lst _=>true
 | .tup _=>true
 | .dK _=>true
 | .rng _ _=>true
 |_=>false
structure Gc(H G H':Hp):Prop where
 a:Same H G
 b:Same G H'
 c:∀p o,G p=some o->H p=some o\/jt o=true
section
variable{P:Program}{w:World}{H G H':Hp}{h h':Heap}{a:Addr}{o:HO}
theorem ObjOk.gc(n:iI o=true)(x0:ObjOk P w H h a o)(x:ObjOk P w H' h' a o):ObjOk P w H h' a o:=by
 induction o with
 |ins C dx fs=>exact⟨x0.1,x.2⟩
 |dT kvs=>cases n
 |frz ob u ih=>exact⟨x.1,ih n x0.2 x.2⟩
 |_=>exact x
theorem ObjOk.plain(n:jt o=true)(x:ObjOk P w H' h' a o):ObjOk P w H h' a o:=by
 cases o with
 |lst xs=>exact x
 |tup xs=>exact x
 |dK kvs=>exact x
 |rng lo hi=>exact x
 |_=>cases n
theorem HOk.gc(n:NoT H)(x0:HOk P w H h)(x:HOk P w H' h')(g:Gc H G H'):HOk P w G h':=fun a o e=>by
 rcases g.c a o e with q|q
 ·refine(((x0 a o q).gc (n a o q) (x a o (g.b a o e)))).stay (fun _ _ _ z=>z) (fun b z=>g.a _ _ z) fun b xs z=>g.a _ _ z
 ·exact(x a o (g.b a o e)).plain q
theorem Un.gc(u:Un fs ex H H' h h')(g:Gc H G H'):Un fs ex H G h h':=
 ⟨u.keep,u.slot,fun b o q n hx=>g.b.free (u.free b o q n hx),u.there,fun b xs q=>g.a _ _ q,fun b o x q=>g.a _ _ q,fun b ps q=>⟨#[],by rw[Array.append_empty];exact g.a _ _ q⟩⟩
theorem Gc.refl:Gc H H H:=⟨Same.refl H,Same.refl H,fun _ _ e=>.inl e⟩
theorem Gc.none(s:Same H H'):Gc H H H':=⟨Same.refl H,s,fun _ _ e=>.inl e⟩
theorem aj(o:HO)(hp:H p=Option.none):Same H (upd H p o):=fun b u e=>by rw[ah (aC e hp)];exact e
theorem Gc.one(s:Same H H')(hp:H p=Option.none)(e:H' p=some o)(n:jt o=true):Gc H (upd H p o) H':=
 ⟨aj o hp,fun b u z=>by
  by_cases hb:b=p
  ·subst hb;rw[ad]at z;cases z;exact e
  ·rw[ah hb]at z;exact s b u z,fun b u z=>by
  by_cases hb:b=p
  ·subst hb;rw[ad]at z;cases z;exact .inr n
  ·rw[ah hb]at z;exact .inl z⟩
theorem NoT.upd(n:NoT H)(d:iI o=true):NoT (upd H p o):=fun b u z=>by
 by_cases hb:b=p
 ·subst hb;rw[ad]at z;cases z;exact d
 ·rw[ah hb]at z;exact n b u z
end
theorem Inv.gc(n:NoT H)(I:Inv X pins σ H s)(J:Inv X pins' σ' H' s')(g:Gc H G H'):Inv X pins' σ' G s':=
 ⟨J.ok,J.os,J.bare,⟨J.base.keep,J.base.slot,fun b o q z hx=>g.b.free (J.base.free b o q z hx),J.base.there,fun b xs q=>g.a _ _ (I.base.tups b xs q),fun b o x q=>g.a _ _ (I.base.frzs b o x q),fun b ps q=>let ⟨m,e⟩:=I.base.tbls b ps q;⟨m,g.a _ _ e⟩⟩,
  J.loc,J.cell,g.b.free J.free,fun x c e=>g.b.free (J.freeC x c e),fun p hp=>let ⟨e,z,r⟩:=J.pin p hp;⟨e,g.b.free z,r⟩,HOk.gc n I.hok J.hok g,J.len⟩
def tGc(t:TE):TE:=fun σ H Q=>NoT H/\t σ H fun v H'=>∃G,Gc H G H'/\Q v G
theorem DP(h:PE X e t):PE X e (tGc t):=fun pins s σ H Q I ⟨n,q⟩=>
 thn (h pins s σ H _ I q) fun u s1 ⟨v,H1,I1,r,G,g,q1⟩=>⟨v,G,I.gc n I1 g,r,q1⟩
def GS(t:TT):TT:=fun σ H Q=>NoT H/\t σ H fun v H'=>∃G,Gc H G H'/\Q v G
theorem jq(h:PT X e t):PT X e (GS t):=fun pins s σ H Q I ⟨n,q⟩=>
 thn (h pins s σ H _ I q) fun u s1 ⟨H1,I1,G,g,q1⟩=>⟨G,I.gc n I1 g,q1⟩
def K2{α:Type}:Sem α->Prop
 | .rule _ k=>K2 (k ())
 | .at _ k=>K2 (k ())
 | .load _ _ k=>∀o,K2 (k o)
 | .update _ _ f k=>(∀(o:Obj) vs,o.data = .fields vs->∃ws,(f o).data = .fields ws/\ws[2]? = vs[2]?)/\K2 (k ())
 | .loadIfAlive _ k=>∀o,K2 (k o)
 | .point _ k=>K2 (k ())
 | .alloc _ k=>∀a,K2 (k a)
 | .fresh k=>∀n,K2 (k n)
 | .ask k=>∀x,K2 (k x)
 | .choose _ _ k=>∀n,K2 (k n)
 | .os _ _ k=>∀x,K2 (k x)
 | .call ..=>False
 | .handled _ k=>∀x,K2 (k x)
 | .genState _ k=>∀x,K2 (k x)
 | .newGen _ k=>∀n,K2 (k n)
 | .resume ..=>False
 | .stack k=>∀x,K2 (k x)
 | .thread k=>∀n,K2 (k n)
 |_=>True
def F2(h:Heap)(e:Addr):Prop:=∃o vs,h.get? e=some o/\o.data = .fields vs/\vs[2]? = some .none
theorem K2.bind{α β:Type}{t:Sem α}{f:α->Sem β}(h:K2 t)(g:∀a,K2 (f a)):K2 (t >>= f):=by
 show K2 (t.bind f)
 induction t with
 |pure a=>exact g a
 |rule _ k ih=>exact ih () h
 | «at» _ k ih=>exact ih () h
 |load _ _ k ih=>exact fun o=>ih o (h o)
 |update _ _ _ k ih=>exact⟨h.1,ih () h.2⟩
 |loadIfAlive _ k ih=>exact fun o=>ih o (h o)
 |point _ k ih=>exact ih () h
 |alloc _ k ih=>exact fun o=>ih o (h o)
 |fresh k ih=>exact fun o=>ih o (h o)
 |ask k ih=>exact fun o=>ih o (h o)
 |choose _ _ k ih=>exact fun o=>ih o (h o)
 |os _ _ k ih=>exact fun o=>ih o (h o)
 |call=>exact h.elim
 |handled _ k ih=>exact fun o=>ih o (h o)
 |genState _ k ih=>exact fun o=>ih o (h o)
 |newGen _ k ih=>exact fun o=>ih o (h o)
 |resume=>exact h.elim
 |stack k ih=>exact fun o=>ih o (h o)
 |thread k ih=>exact fun o=>ih o (h o)
 |_=>trivial
theorem F2.push{h:Heap}{e:Addr}(x:F2 h e)(o:Obj):F2 (h.push o) e:=by
 obtain⟨oe,vs,e1,e2⟩:=x;exact⟨oe,vs,Heap.get?_push_of_some _ e1,e2⟩
theorem F2.update{h:Heap}{e:Addr}(x:F2 h e)(a:Addr){f:Obj->Obj}(hf:∀(o:Obj) vs,o.data = .fields vs->∃ws,(f o).data = .fields ws/\ws[2]? = vs[2]?):F2 (h.update a f) e:=by
 obtain⟨oe,vs,e1,e2,e3⟩:=x;by_cases ea:a=e
 ·subst ea
  obtain⟨ws,w1,w2⟩:=hf oe vs e2;exact⟨_,ws,Heap.get?_update_self _ e1 (Obj.isFreed_of_fields w1),w1,w2.trans e3⟩
 ·exact⟨oe,vs,(Heap.get?_update_other _ _ ea).trans e1,e2,e3⟩
theorem GZ{α:Type}{M:Model}{Γ:PySem.Ctx}{e:Addr}{t:Sem α}:∀ {Q:α->Pos->Shared->Prop} {E:Value->Pos->Shared->Prop} {p:Pos} {s:Shared},K2 t->Sem.wp M Γ t Q E p s->F2 s.heap e->Sem.wp M Γ t (fun a p s'=>Q a p s'/\F2 s'.heap e) (fun x p s'=>E x p s'/\F2 s'.heap e) p s:=by
 induction t with
 |pure a=>intro Q E p s _ h f;rw[Sem.wp]at h |-; exact⟨h,f⟩
 |raise x=>intro Q E p s _ h f;rw[Sem.wp]at h |-; exact⟨h,f⟩
 |unsupported=>intro Q E p s _ h f;rw[Sem.wp]at h;exact h.elim
 |finish=>intro Q E p s _ h f;rw[Sem.wp]at h;exact h.elim
 |rule _ k ih=>intro Q E p s g h f;rw[Sem.wp]at h |-; exact ih () g h f
 | «at» _ k ih=>intro Q E p s g h f;rw[Sem.wp]at h |-; exact ih () g h f
 |load _ _ k ih=>intro Q E p s g h f;rw[Sem.wp]at h |-; obtain⟨o,h1,h2⟩:=h;exact⟨o,h1,ih o (g o) h2 f⟩
 |update a _ _ k ih=>intro Q E p s g h f;rw[Sem.wp]at h |-; exact⟨h.1,ih () g.2 h.2 (f.update a g.1)⟩
 |loadIfAlive _ k ih=>intro Q E p s g h f;rw[Sem.wp]at h |-; exact ih _ (g _) h f
 |point _ k ih=>intro Q E p s g h f;rw[Sem.wp]at h |-; exact ih () g h f
 |register=>intro Q E p s _ h f;rw[Sem.wp]at h;exact h.elim
 |alloc o k ih=>intro Q E p s g h f;rw[Sem.wp]at h |-; exact ih _ (g _) h (f.push o)
 |fresh k ih=>intro Q E p s g h f;rw[Sem.wp]at h |-; exact ih _ (g _) h f
 |ask k ih=>intro Q E p s g h f;rw[Sem.wp]at h |-; exact ih _ (g _) h f
 |choose _ _ k ih=>intro Q E p s g h f;rw[Sem.wp]at h |-; exact⟨h.1,ih _ (g _) h.2 f⟩
 |os _ _ k ih=>intro Q E p s g h f;rw[Sem.wp]at h |-; exact ih _ (g _) h f
 |call=>intro Q E p s g;exact g.elim
 |handled _ k ih=>intro Q E p s g h f;rw[Sem.wp]at h |-; exact ih _ (g _) h f
 |genState _ k ih=>intro Q E p s g h f;rw[Sem.wp]at h |-; obtain⟨st,h1,h2⟩:=h;exact⟨st,h1,ih _ (g _) h2 f⟩
 |newGen _ k ih=>intro Q E p s g h f;rw[Sem.wp]at h |-; exact ih _ (g _) h f
 |resume=>intro Q E p s g;exact g.elim
 |yield=>intro Q E p s _ h f;rw[Sem.wp]at h;exact h.elim
 |stack k ih=>intro Q E p s g h f;rw[Sem.wp]at h |-; exact ih _ (g _) h f
 |fork=>intro Q E p s _ h f;rw[Sem.wp]at h;exact h.elim
 |thread k ih=>intro Q E p s g h f;rw[Sem.wp]at h |-; exact ih _ (g _) h f
 |await=>intro Q E p s _ h f;rw[Sem.wp]at h;exact h.elim
theorem zV{α:Type}{M:Model}{A:Around}{e:Addr}{t:Sem α}{Q:α->Shared->Prop}{E:Value->Shared->Prop}{s:Shared}(k:K2 t)(f:F2 s.heap e)(h:wpAny M A t Q E s):wpAny M A t (fun a s'=>Q a s'/\F2 s'.heap e) (fun x s'=>E x s'/\F2 s'.heap e) s:=fun Γ p hg=>GZ k (h Γ p hg) f
theorem ke(v:Value)(i:Nat):K2 (field v i):=by
 refine K2.bind ?_ fun vs=>?_
 ·unfold fieldsOf
  split
  ·refine K2.bind (fun o=>trivial) fun o=>?_
   split <;> trivial
  ·trivial
 ·split <;> trivial
theorem iB(v:Value){i:Nat}(h:i≠2)(x:Value):K2 (setField v i x):=by
 unfold setField;split
 ·unfold updateField
  refine K2.bind (fun o=>trivial) fun o=>?_;split
  ·split
   ·refine⟨fun o vs e=>⟨_,Obj.data_mapFields e _,?_⟩,trivial⟩
    rw[Array.getElem?_setIfInBounds_ne h]
   ·trivial
  ·trivial
 ·trivial
theorem sW:∀l:List Env,K2 (readyFrames l)
 | []=>trivial
 |env::outer=>by
  unfold readyFrames;split
  ·refine K2.bind (fun o=>trivial) fun o=>?_
   split
   ·trivial
   ·refine K2.bind ?_ fun im=>K2.bind ?_ fun bk=>K2.bind ?_ fun _=>sW outer
    ·unfold behindIsImport
     split
     ·trivial
     ·split
      ·trivial
      ·exact K2.bind (ke _ _) fun _=>trivial
    ·unfold keptBack
     split
     ·split
      ·trivial
      ·refine K2.bind ?_ fun _=>trivial
       exact K2.bind (fun st=>trivial) fun _=>trivial
     ·trivial
    ·exact⟨fun o vs e=>⟨vs,e,rfl⟩,trivial⟩
  ·trivial
theorem vk(env:Env):K2 (PySem.frameOf env):=by
 unfold PySem.frameOf frameEnvs;refine K2.bind (fun st=>trivial) fun es=>K2.bind ?_ fun o=>?_
 ·unfold frameObject
  split
  ·trivial
  ·exact K2.bind (sW _) fun _=>trivial
 ·split <;> trivial
theorem zC(a b c d f:Value)(p:List Value):K2 (EntryCells.newEntry a b c d f p):=by
 unfold EntryCells.newEntry newFields newObj;dsimp only;have nw:∀d:Data,K2 (newObjAsIs (Z2 "traceback") d):=fun d=>by
  unfold newObjAsIs;exact K2.bind (fun a=>trivial) fun a=>trivial
 generalize ([a,b,c,d,f]++if p.isEmpty=true then List.replicate 6 Zc else p).toArray=l;split
 ·exact K2.bind trivial fun _=>nw _
 ·exact nw _
theorem zb(f:Addr)(b:Bool):K2 (entryPlaceOf f b):=by
 unfold entryPlaceOf;refine K2.bind (fun st=>trivial) fun st=>?_;split <;> trivial
theorem w_(e:Value)(env:Env):K2 (noteFrame e env):=by
 unfold noteFrame;split
 ·refine K2.bind (ke _ _) fun hd=>?_
  have jp:∀f:Addr,K2 (do let a <- PySem.frameOf env;let b <- entryPlaceOf f (hd != Zc);let c <- EntryCells.newEntry hd a Zc (rawInt f) Zc b;setField e 1 c):=fun f=>K2.bind (vk _) fun a=>K2.bind (zb _ _) fun b=>K2.bind (zC ..) fun c=>iB _ (by decide) _;dsimp only;split
  ·refine K2.bind (ke _ _) fun x=>?_
   split
   ·trivial
   ·exact K2.bind (iB _ (by decide) _) fun _=>jp _
  ·exact jp _
 ·trivial
theorem k7(e:Value)(fr:Option Addr):K2 (setFlight e fr):=by
 unfold setFlight;refine K2.bind (ke _ _) fun tb=>?_;split
 ·exact iB _ (by decide) _
 ·trivial
theorem jB(env:Env)(e:Value):K2 (leaving env e):=by
 unfold leaving;exact K2.bind (w_ _ _) fun _=>k7 _ _
theorem dM{α:Type}{M:Model}{A:Around}{e:Addr}{t:Sem α}{Q:α->Shared->Prop}{E:Value->Shared->Prop}{s:Shared}(k:K2 t)(f:F2 s.heap e)(h:wpAny M A t (fun a s'=>F2 s'.heap e->Q a s') E s):wpAny M A t Q E s:=
 uY (zV k f h) (fun _ _ q=>q.1 q.2) (fun _ _ q=>q.1)
theorem ObjOk.at_(x:ObjOk P w H h a o):∃ob,h.get? a=some ob:=by
 cases o with
 |lst xs=>obtain⟨_,_,_,_,e⟩:=x;exact⟨_,e⟩
 |tup xs=>obtain⟨_,_,_,ob,e,_⟩:=x;exact⟨_,e⟩
 |dK kvs=>obtain⟨_,_,_,_,o,_,_,e,_⟩:=x;exact⟨_,e⟩
 |dT kvs=>obtain⟨_,_,_,_,o,_,_,e,_⟩:=x;exact⟨_,e⟩
 |set S n=>obtain⟨o,_,_,_,e,_⟩:=x;exact⟨_,e⟩
 |ins C dx fs=>obtain⟨_,_,_,e,_⟩:=x;exact⟨_,e⟩
 |own y=>obtain⟨_,e⟩:=x;exact⟨_,e⟩
 |xd fs=>obtain⟨_,⟨_,_,_,e,_⟩,_⟩:=x;exact⟨_,e⟩
 |rng lo hi=>obtain⟨_,_,_,e⟩:=x;exact⟨_,e⟩
 |frz ob u=>obtain⟨e,_⟩:=x;exact⟨_,e⟩
 |tbl ps=>exact⟨_,(show h.get? a=some _ from x)⟩
 |met f y=>exact⟨_,(show h.get? a=some _ from x)⟩
 |ext φ=>obtain⟨_,⟨_,e⟩,_⟩:=x;exact⟨_,e⟩
theorem HOk.none_of(x:HOk P w H h)(e:h.get? a=none):H a=none:=by
 cases q:H a with
 |none=>rfl
 |some u=>
  obtain⟨ob,z⟩:=(x a u q).at_;rw[e]at z;cases z
def hid(h:Heap)(l:List Env)(rs:List Addr):Heap:=PySem.W.hideAll h (frs l++rs)
theorem iU(e:h.get? b=some o)(h1:b∉frs l)(h2:b∉rs):(hid h l rs).get? b=some o:=
 PySem.W.hideAll_get _ e fun z=>(yI.mp z).elim h1 h2
theorem m8(e:(hid h l rs).get? b=some o):h.get? b=some o:=PySem.W.of_hideAll _ e
theorem jH(e:b∈rs):(hid h l rs).get? b=none:=PySem.W.hideAll_none _ (xU _ e)
theorem fL{h base:Heap}(e:h.FunFrames base l):h.FunFrames (hid h l rs) l:=
 PySem.W.funFrames_hide e fun _ he _ ha=>vJ _ (Y3.mpr ⟨_,he,ha⟩)
def Fly(l:List Env)(rs:List Addr)(e:Addr)(cls:Value)(h:Heap):Prop:=e∈rs/\∃a0,Heap.FlyingW (hid h l rs) l e cls a0 h/\F2 h e
def XE(P:Program)(w:World):CXT:=fun outer H s E ev s'=>∃(e:Addr) (C:Value) (rs:List Addr) (H':Hp),ev = .ref e/\s'.os=s.os/\AllBare s'.gens/\Un (frs outer) [] H H' s.heap s'.heap /\
 HOk P w H' s'.heap/\(∀b∈rs,s.heap.get? b=none/\H' b=none)/\Fly outer rs e C s'.heap/\E C none H'
section
variable{X:Cx}{pins:List (Addr × Obj)}{σ:St}{H:Hp}{s:Shared}{h':Heap}{rs:List Addr}
theorem Inv.s0_none(I:Inv X pins σ H s)(hex:X.ex=[])(e:s.heap.get? b=none):X.s₀.heap.get? b=none:=by
 cases q:X.s₀.heap.get? b with
 |none=>rfl
 |some o=>
  obtain⟨o',z⟩:=I.base.there b o q (by rw[hex];simp);rw[e]at z;cases z
theorem Inv.noteUn(I:Inv X pins σ H s)(hex:X.ex=[])(hrs:∀b∈rs,X.s₀.heap.get? b=none)
 (stay:∀b o,s.heap.get? b=some o->b∉frs X.stack->b∉rs->h'.get? b=some o) (up:s.heap.UpToSlots h'):Un X.fs [] X.H₀ H X.s₀.heap h':=by
 have B:=I.base;rw[hex]at B;have nrs:∀b o,X.s₀.heap.get? b=some o->b∉rs:=fun b o e z=>by rw[hrs b z]at e;cases e
 have nst:∀b o,X.s₀.heap.get? b=some o->b∉X.fs->b∉frs X.stack:=fun b o e hb z=>by
  rcases z6.mp (I.stkSub b z) with q|q
  ·exact absurd (ug (y3 e) I.ok.above) (by rw[q];exact ZZ _)
  ·exact hb q
 refine⟨fun b o q n hb hx=>stay b o (B.keep b o q n hb hx) (nst b o q hb) (nrs b o q),fun b o q n hb hx=>?_,fun b o q n hx=>B.free b o q n hx,fun b o q hx=>?_,B.tups,B.frzs,B.tbls⟩
 ·obtain⟨sl,e1⟩:=B.slot b o q n hb hx
  obtain⟨_,o',ho',hd⟩:=I.funs.mem hb;rw[e1]at ho';cases ho';obtain⟨sl',e2⟩:=up b _ e1 hd;exact⟨sl',e2⟩
 ·obtain⟨o',e1⟩:=B.there b o q hx
  by_cases hb:b∈frs X.stack
  ·obtain⟨_,o2,ho2,hd⟩:=I.stack.mem hb
   obtain⟨sl',e2⟩:=up b _ ho2 hd;exact⟨_,e2⟩
  ·exact⟨o',stay b o' e1 hb (nrs b o q)⟩
theorem Inv.noteOk(I:Inv X pins σ H s)(hrs:∀b∈rs,H b=none)(stay:∀b o,s.heap.get? b=some o->b∉frs X.stack->b∉rs->h'.get? b=some o):HOk X.prog X.w H h':=fun a o e=>
 (I.hok a o e).stay (fun b u hb q=>stay b u q (fun z=>by
  have n:=I.stkFree b z;rcases hb with r|r
  ·rw[r,e]at n;cases n
  ·rw[r]at n;cases n) fun z=>by
  have n:=hrs b z;rcases hb with r|r
  ·rw[r,e]at n;cases n
  ·rw[r]at n;cases n) (fun _ q=>q) fun _ _ q=>q
theorem qv(hl:h.FunFrames base l)(up:h.UpToSlots h1)(e:(hid h l rs).get? T=none)(hT:h1.get? T=some oT)(hd:oT.data = .fields ts):h.get? T=none\/T∈rs:=by
 by_cases hr:T∈rs
 ·exact .inr hr
 ·refine .inl ?_
  cases q:h.get? T with
  |none=>rfl
  |some o=>
   by_cases hf:T∈frs l
   ·obtain⟨_,o2,ho2,hnf⟩:=hl.mem hf
    rw[q]at ho2;cases ho2;obtain⟨sl,e2⟩:=up T o q hnf;rw[hT]at e2;cases e2;exact absurd hd (hnf ts)
   ·rw[iU q hf hr]at e;cases e
end
section
variable{P:Program}{w:World}{K:W.Frag}{mg:Str->Option Value}{base:Heap}{N:List Str}{qual:Str}{scope:Scope}{f:Addr}{cd:Value}{A:Around}{outer:List Env}{s₀:Shared}{H₀:Hp}{E:XK}
theorem uT{s:Shared}
 (I:Inv (cL (XE P w) P w K mg base N qual scope f cd A outer s₀ H₀ E) pins σ H s) (hx:Heap.MadeExcOf s.heap h' e cls args) (q:E cls none H) :
 (cL (XE P w) P w K mg base N qual scope f cd A outer s₀ H₀ E).xe (.ref e) { s with heap:=h' }:=by
 show wpAny (model P w) (A.deeper (envOfC qual scope s₀.heap.objs.size f cd)) (leaving (envOfC qual scope s₀.heap.objs.size f cd) (.ref e)) (fun _ s''=>XE P w outer H₀ s₀ E (.ref e) s'') (fun e' s''=>XE P w outer H₀ s₀ E e' s'') { s with heap:=h' };have hst:s.heap.FunFrames base (envOfC qual scope s₀.heap.objs.size f cd::outer):=I.stack;have g0:F2 h' e:=by
  obtain⟨t,he,_,_⟩:=hx.there;exact⟨_,_,he,rfl,rfl⟩
 refine dM (e:=e) (jB _ _) g0 (wpAny_leaves_madeW (base:=hid s.heap (envOfC qual scope s₀.heap.objs.size f cd::outer) []) (h:=s.heap) I.ok.frames rfl (fun b o z=>m8 z) (fL hst) hx fun h'' t fl tup tn up g2=>?_);obtain⟨f1,f2,f3,oe,vs,T,oT,ts,he,hc,hd,h1,hnT,hTe,hT,hdT,h3⟩:=fl;have up':s.heap.UpToSlots h'':=(Heap.UpToSlots.of_keeps hx.keeps).trans up;have nT:s.heap.get? T=none:=(qv hst up' hnT hT hdT).elim id fun z=>nomatch z;have stay:∀b o,s.heap.get? b=some o->b∉frs (envOfC qual scope s₀.heap.objs.size f cd::outer)->b∉[e,T]->h''.get? b=some o:=fun b o z hb _=>f1 b o (iU z hb fun y=>nomatch y);have n0:∀b∈[e,T],s.heap.get? b=none:=fun b hb=>by
  rcases z6.mp hb with r|r
  ·rw[r];exact hx.new
  ·rw[zv.mp r];exact nT
 have n1:∀b∈[e,T],s₀.heap.get? b=none:=fun b hb=>I.s0_none rfl (n0 b hb);have n2:∀b∈[e,T],H b=none:=fun b hb=>I.hok.none_of (n0 b hb);refine⟨e,cls,[e,T],H,rfl,I.os,I.bare,I.noteUn rfl n1 stay up',I.noteOk n2 stay,fun b hb=>⟨n1 b hb,n2 b hb⟩,⟨.head _,.ref t,?_,g2⟩,q⟩;exact⟨fun b o z=>m8 z,jH (.head _),fL f3,oe,vs,T,oT,ts,he,hc,hd,h1,jH (.tail _ (.head _)),hTe,hT,hdT,h3⟩
abbrev XKs:=St->XK
def bO(CX:CXT)(X:Cx)(E:XKs):Prop:=∀(pins:List (Addr × Obj)) (σ:St) (H:Hp) (s:Shared) (e:Value) (s':Shared),Inv X pins σ H s->CX X.stack H s (E σ) e s'->X.xe e s'
def uB(X:Cx)(E:XKs):Prop:=∀(pins:List (Addr × Obj)) (σ:St) (H:Hp) (s:Shared) (h':Heap) (e:Addr) (cls:Value) (args:List Value),Inv X pins σ H s->Heap.MadeExcOf s.heap h' e cls args->E σ cls none H->X.xe (.ref e) { s with heap:=h' }
theorem ba:uB (cL (XE P w) P w K mg base N qual scope f cd A outer s₀ H₀ E) (fun _=>E):=fun _ _ _ _ _ _ _ _ I hx q=>uT I hx q
theorem aD:bO (XE P w) (cL (XE P w) P w K mg base N qual scope f cd A outer s₀ H₀ E) (fun _=>E):=by
 intro pins σ H s ev s' I hq;obtain⟨e,C,rs,H',rfl,os,bare,un,hok,hrs,⟨her,a0,fl,g0⟩,q⟩:=hq;have J:Inv (cL (XE P w) P w K mg base N qual scope f cd A outer s₀ H₀ E) pins σ H' s':=I.call' os un hok bare (fun b z=>nomatch z);show wpAny (model P w) (A.deeper (envOfC qual scope s₀.heap.objs.size f cd)) (leaving (envOfC qual scope s₀.heap.objs.size f cd) (.ref e)) (fun _ s''=>XE P w outer H₀ s₀ E (.ref e) s'') (fun e' s''=>XE P w outer H₀ s₀ E e' s'') s';have hst:s'.heap.FunFrames base (envOfC qual scope s₀.heap.objs.size f cd::outer):=J.stack;refine dM (e:=e) (jB _ _) g0 (wpAny_leaves_onW (base:=hid s'.heap (envOfC qual scope s₀.heap.objs.size f cd::outer) rs) I.ok.frames rfl fl fun h'' fl' up g2=>?_);obtain⟨f1,f2,f3,oe,vs,T,oT,ts,he,hc,hd,h1,hnT,hTe,hT,hdT,h3⟩:=fl';have nT:=qv hst up hnT hT hdT;have stay:∀b o,s'.heap.get? b=some o->b∉frs (envOfC qual scope s₀.heap.objs.size f cd::outer)->b∉T::rs->h''.get? b=some o:=fun b o z hb hr=>f1 b o (iU z hb fun y=>hr (.tail _ y));have n1:∀b∈T::rs,s₀.heap.get? b=none:=fun b hb=>by
  rcases z6.mp hb with r|r
  ·rw[r]
   rcases nT with z|z
   ·exact J.s0_none rfl z
   ·exact I.s0_none rfl (hrs T z).1
  ·exact I.s0_none rfl (hrs b r).1
 have n2:∀b∈T::rs,H' b=none:=fun b hb=>by
  rcases z6.mp hb with r|r
  ·rw[r]
   rcases nT with z|z
   ·exact hok.none_of z
   ·exact(hrs T z).2
  ·exact(hrs b r).2
 refine⟨e,C,T::rs,H',rfl,J.os,J.bare,J.noteUn rfl n1 stay up,J.noteOk n2 stay,fun b hb=>⟨n1 b hb,n2 b hb⟩,⟨.tail _ her,a0,?_,g2⟩,q⟩;exact⟨fun b o z=>m8 z,jH (.tail _ her),fL f3,oe,vs,T,oT,ts,he,hc,hd,h1,jH (.head _),hTe,hT,hdT,h3⟩
end
def qR(sp:Sp)(dvs:List V)(E:XKs)(t:TA):TE:=fun σ H Q=>t σ H fun vs H1=>sp (vs++dvs) H1 Q (E σ)
section
variable{X:Cx}{CX:CXT}{k:Nat}{f C:Addr}{fd:FuncData}{ps:List Str}{sp:Sp}{dvs:List V}{ds:List Value}{E:XKs}{x m:Str}{p pos apos:Pos}{e o:Expr}{es:List Expr}{ta:TE}{t:TA}
theorem rE(F:hV X.prog X.w X.K X.mg X.base CX k f fd ps sp)(hr:Room k X.A)(hb:Binds X.K fd ps ds)(hd:Vals dvs ds)(hx:bO CX X E)
 (I:Inv X pins σ H s) (r:Vals vs us) (h:sp (vs++dvs) H Q (E σ)):wpAny (model X.prog X.w) X.A (call (.ref f) us) (EP X pins σ Q) X.xe s:=by
 have r2:Vals (vs++dvs) (us++ds):=r.append hd;have hl:(us++ds).length=ps.length:=by rw[<- r2.length];exact F.len _ _ _ _ h
 refine wpAny_call (codeAny_mono (F.run X.A X.stack s H ⟨us,[]⟩ (us++ds) (vs++dvs) Q (E σ) hr I.env0 (hb s us I.kIn hl) r2 h) fun r s' hq=>?_);cases r with
 |error e=>exact hx pins σ H s e s' I hq
 |ok fl=>
  cases fl with
  |ret u=>exact I.after hq
  |next=>exact ZS hq
  |brk=>exact ZS hq
  |cont=>exact ZS hq
theorem Bo(F:hV X.prog X.w X.K X.mg X.base CX k f fd ps sp)(hr:Room k X.A)(hg:Gl X x)(hm:X.mg x=some (.ref f))(hk:ZJ X.K (.ref f)=true)(hb:Binds X.K fd ps ds)(hd:Vals dvs ds)(hx:bO CX X E)
 (ha:PA X (e::es) t) (hdb:(x==("__debug__":Str))=false:=by decide) (he:starEach (e::es) X.env=(false,eval e X.env)::starEach es X.env:=by rfl) (hpl:(backTo pos (starEach es X.env)).any (·.1)=false:=by rfl) :
 PE X (.Call (.Name x p) (e::es) [] pos) (qR sp dvs E t):=by
 intro pins s σ H Q I h;refine Yc (ie I hg hm ?_ hdb);refine PySem.W.callWith_K (h₀:=X.base) I.ok.mod.kin hk (thn (ha pos pins s σ H _ I h) fun us s1 ⟨vs,H1,I1,r,q⟩=>⟨I1.kIn,?_⟩) he hpl;exact rE F hr hb hd hx I1 r q
end
section
variable{P:Program}{w:World}{K:W.Frag}{mg:Str->Option Value}{base:Heap}
theorem Fun.okX{x qual:Str}{st:Stmt}{f:Addr}{fd:FuncData}{N ps:List Str}{k:Nat}{sp:Sp}(F:Fun K x qual st f fd)(S:bf N ps (ae st))(len:∀vs H Q E,sp vs H Q E->vs.length=ps.length)
 (hbody:∀(cdv:Value) (A:Around) (outer:List Env) (s:Shared) (H:Hp) (vs:List V) (Q:VK) (E:XK),Room k (A.deeper (envOfC qual (ae st) s.heap.objs.size f cdv))->sp vs H Q E ->
  ∃t,PSs (cL (XE P w) P w K mg base N qual (ae st) f cdv A outer s H E) (au st) t/\t { nx:=fun _ H'=>Q .non H',rt:=Q } (eZ N vs) H):hV P w K mg base (XE P w) (k+1) f fd ps sp:=by
 obtain⟨oc,od,kV,doc,pm,an,cdv,ct,osl,rfl,lk,hcd⟩:=F.ex;exact G_ lk hcd S len fun A outer s H vs Q E hr hsp=>hbody cdv A outer s H vs Q E hr hsp
end
theorem Dl{K:W.Frag}{h:Heap}(X:K.In h)(q:PySem.W.excIn K C bmB newId=true) :
 ∃bm N nm qn bs hdct sn sub ab col dd k0 k1 k2 k3 k5 mN,h.get? C=some (YL nm qn C N bs bm hdct sn sub ab col dd k0 k1 k2 k3 k5 newId)/\h.Ns N mN/\mN "__init__" = none/\OwnTail h bmB bm:=by
 unfold PySem.W.excIn at q;split at q
 ·rename_i dd cd sl ho
  split at q
  ·rename_i C' bm k0 k1 k2 k3 n k5 hm hs
   simp only[sT,beq_iff_eq,Bool.not_eq_true']at q;obtain⟨⟨⟨⟨⟨rfl,rfl⟩,hdel⟩,ht⟩,hok⟩,hni⟩:=q;obtain⟨nm,bs,mro,ns,qn,hd,sn,sub,ab,col,del⟩:=cd;dsimp only at hm hdel hok hni;subst hm hdel;have hsl:sl = #[k0,k1,k2,k3,some (.builtin n),k5]:=by
    obtain⟨l⟩:=sl;simp only at hs;rw[hs]
   subst hsl;exact⟨bm,ns,nm,qn,bs,hd,sn,sub,ab,col,dd,k0,k1,k2,k3,k5,_,X _ _ ho,.of_isNs (PySem.W.isNs_of_in X hok),PySem.W.nsMap_none_of_in X hok hni,PySem.W.tail_of_in X ht⟩
  ·cases q
 ·cases q
def vT(C:Addr)(E:XKs)(t:TA):TS:=fun _ σ H=>t σ H fun vs H1=>vs.length<=sizeLine/\E σ (.ref C) none H1
theorem Az{X:Cx}(O:PySem.W.excIn X.K C bmB newId=true)(FB:ExcBaseFacts B newId initId bmB)
 (hc:X.calm=true) (hg:Gl X x) (hm:X.mg x=some (.ref C)) (hx:uB X E) (ha:PA X (e::es) t) (hdb:(x==("__debug__":Str))=false:=by decide)
 (he:starEach (e::es) X.env=(false,eval e X.env)::starEach es X.env:=by rfl) (hpl:(backTo cpos (starEach es X.env)).any (·.1)=false:=by rfl) :
 PS X (.Raise (some (.Call (.Name x np) (e::es) [] cpos)) none pos) (vT C E t):=by
 intro pins s σ H D I h;obtain⟨tl,N,nm,q,bs,hdct,sn,sub,ab,col,dd,k0,k1,k2,k3,k5,mN,hC,hN,hni,T⟩:=Dl I.mod.kin O;refine wpAny_Raise_call_subT (C:=C) (nm:=nm) (q:=q) (N:=N) (bs:=bs) (bm:=tl) (hdct:=hdct) (sn:=sn) (sub:=sub) (ab:=ab) (col:=col) (dd:=dd) (k0:=k0) (k1:=k1) (k2:=k2) (k3:=k3) (k5:=k5)
  FB (mN:=mN) (T.hasType FB.hasBase) (I.ok.hd hc) (by rw[he];show(false || (backTo cpos (starEach es X.env)).any (·.1))=false;rw[hpl];rfl) hni (ie I hg hm ⟨rfl,?_⟩ hdb)
 have hA:=ha cpos pins s σ H _ I h;rw[he]at hA |-
 refine Yq (thn hA fun us s1 ⟨vs,H1,I1,r,hz,q1⟩=>⟨rfl,by rw[<- r.length];exact hz,I1.bk _ _ hC,hN.keeps I1.bk,T.keeps I1.bk,fun h' e' hm'=>?_⟩);exact hx pins σ H1 s1 h' e' (.ref C) us I1 hm' q1
section
variable{X:Cx}{pins:List (Addr × Obj)}{σ:St}{H:Hp}{s:Shared}{h':Heap}{rs:List Addr}
theorem Inv.noted(I:Inv X pins σ H s)(hrs:∀b∈rs,X.s₀.heap.get? b=none/\H b=none)(hpin:∀p∈X.pn++pins,p.1∉rs)
 (stay:∀b o,s.heap.get? b=some o->b∉frs X.stack->b∉rs->h'.get? b=some o) (up:s.heap.UpToSlots h'):Inv X pins σ H { s with heap:=h',toks:=t' }:=by
 have B:=I.base;have cellK:∀c v,s.heap.IsCell c v->h'.IsCell c v:=fun c v ⟨o,ho,hd⟩=>by
  obtain⟨sl,e⟩:=up c o ho fun vs q=>by rw[hd]at q;cases q
  exact⟨_,e,hd⟩
 have nrs:∀b o,X.s₀.heap.get? b=some o->b∉rs:=fun b o e z=>by rw[(hrs b z).1]at e;cases e
 have nst:∀b o,X.s₀.heap.get? b=some o->b∉X.fs->b∉frs X.stack:=fun b o e hb z=>by
  rcases z6.mp (I.stkSub b z) with q|q
  ·exact absurd (ug (y3 e) I.ok.above) (by rw[q];exact ZZ _)
  ·exact hb q
 refine⟨I.ok,I.os,I.bare,⟨fun b o q n hb hx=>stay b o (B.keep b o q n hb hx) (nst b o q hb) (nrs b o q),fun b o q n hb hx=>?_,fun b o q n hx=>B.free b o q n hx,fun b o q hx=>?_,B.tups,B.frzs,B.tbls⟩,?_,fun x c e=>?_,I.free,I.freeC,fun p hp=>?_,I.noteOk (fun b hb=>(hrs b hb).2) stay,I.len⟩
 ·obtain⟨sl,e1⟩:=B.slot b o q n hb hx
  obtain⟨_,o',ho',hd⟩:=I.funs.mem hb;rw[e1]at ho';cases ho';obtain⟨sl',e2⟩:=up b _ e1 hd;exact⟨sl',e2⟩
 ·obtain⟨o',e1⟩:=B.there b o q hx
  by_cases hb:b∈frs X.stack
  ·obtain⟨_,o2,ho2,hd⟩:=I.stack.mem hb
   obtain⟨sl',e2⟩:=up b _ ho2 hd;exact⟨_,e2⟩
  ·exact⟨o',stay b o' e1 hb (nrs b o q)⟩
 ·obtain⟨m,hn,hl⟩:=I.loc
  refine⟨m,up.ns hn,fun i x v e1 e2 e3=>?_⟩;obtain⟨u,r,l⟩:=hl i x v e1 e2 e3;refine⟨u,r,?_⟩;rcases l with l|⟨k,c,e,z⟩
  ·exact .inl l
  ·exact .inr ⟨k,c,e,cellK c _ z⟩
 ·obtain⟨v,z⟩:=I.cell x c e
  exact⟨v,cellK c v z⟩
 ·obtain⟨e,n,ne,nf,d⟩:=I.pin p hp
  exact⟨stay p.1 p.2 e (fun z=>(z6.mp (I.stkSub _ z)).elim ne nf) (hpin p hp),n,ne,nf,d⟩
theorem Cx.Ok.re(ok:X.Ok)(A':Around)(hf:A'.frames=X.A.frames)(cm:Bool)(hh:cm=true->A'.handled=none)(pn:List (Addr × Obj))(xe:Value->Shared->Prop):({ X with A:=A',calm:=cm,pn:=pn,xe:=xe }:Cx).Ok:=
 ⟨ok.mod,ok.kind,ok.glob,ok.blt,ok.above,ok.inj,ok.has,ok.cab,hh,hf.trans ok.frames,ok.stk,ok.exf,ok.bs,ok.bsz,ok.noex,ok.exfs,ok.funs,ok.frf⟩
theorem Inv.toPn(I:Inv X pins σ H s)(xe:Value->Shared->Prop):Inv { X with pn:=X.pn++pins,xe:=xe } [] σ H s:=
 ⟨I.ok.re X.A rfl X.calm I.ok.hd _ _,I.os,I.bare,I.base,I.loc,I.cell,I.free,I.freeC,fun p hp=>I.pin p (by rw[u6]at hp;exact hp),I.hok,I.len⟩
theorem Inv.ofPn(ok:X.Ok)(I:Inv { X with pn:=X.pn++pins,xe:=xe } pins' σ H s):Inv X pins σ H s:=
 ⟨ok,I.os,I.bare,I.base,I.loc,I.cell,I.free,I.freeC,fun p hp=>I.pin p (vJ _ hp),I.hok,I.len⟩
abbrev Cx.caught(X:Cx)(e:Addr):Cx:={ X with A:=X.A.mark (some (.ref e)),calm:=false,pn:=X.pn,xe:=fun _ _=>False }
theorem Inv.toCaught(I:Inv X pins σ H s)(e:Addr):Inv (X.caught e) pins σ H s:=
 ⟨I.ok.re (X.A.mark (some (.ref e))) rfl false (fun z=>nomatch z) _ _,I.os,I.bare,I.base,I.loc,I.cell,I.free,I.freeC,I.pin,I.hok,I.len⟩
theorem Inv.ofCaught(ok:X.Ok)(I:Inv (X.caught e) pins σ H s):Inv X pins σ H s:=
 ⟨ok,I.os,I.bare,I.base,I.loc,I.cell,I.free,I.freeC,I.pin,I.hok,I.len⟩
end
theorem qx{s:Shared}{K:W.Frag}{e C D:Addr}{oe:Obj}(X:K.In s.heap)(he:s.heap.get? e=some oe)(hcls:oe.cls = .ref C)
 (hx:qE K (.ref C) (.ref D)=some true) (h:Q true s):wpAny M A (excMatches (.ref e) (.ref D)) Q E s:=
 (PySem.W.exm_one (M:=M) X (hcls ▸ (PySem.W.Looks.ld he).andThen .now) hx).here h
def ul(C:Value)(e:Addr):HO:=HO.ext fun h=>∃o vs,h.get? e=some o/\o.cls=C/\o.data = .fields vs/\vs[2]? = some .none
end L2
namespace L2
open PySem PySem.Spec PyProof.Rows PySem.W
inductive yD:V->Value->Prop where
 |ty (n:String):yD (.ty n) (.type n)
 |own (a:Addr):yD (.ref a) (.ref a)
section
variable{X:Cx}
theorem um:CallR X (.builtin "isinstance") (fun xs H Q=>∃x c t u b,xs=[x,c]/\yD c u/\jI X.K H x t/\ZK X.K t u=some b/\Q (.bl b) H):=by
 intro pins s σ H xs us Q I r h;obtain⟨x,c,t,u,b,rfl,rc,ty,e,q⟩:=h;obtain⟨ux,uc,rfl,rx,rc'⟩:=v7 r;have ec:uc=u:=by
  cases rc with
  |ty n=>exact rc'
  |own a=>exact rc'
 subst ec;exact xr I rx ty e fun tk=>⟨.bl b,H,I.tok _,rfl,q⟩
end
structure cE(K:Frag)(C:Addr):Prop where
 l1:findIn K (.ref C) "__getattribute__" = some (some (.builtin "BaseException.__getattribute__"))
 l2:findIn K (.ref C) "__getattr__" = some none
 l3:findIn K (.ref C) "__class__" = some (some (.builtin "object.__class__"))
 c1:(clsIn K C).isSome=true
 m1:mroIn K C (.type "object")=some true
 m2:mroIn K C (.type "BaseException")=some true
section
variable{prog:Program}{w:World}{A:Around}{E:Value->Shared->Prop}{K:Frag}{e C:Addr}{o:Obj}{s:Shared}
open Builtin Builtin.ObjectAttr Builtin.Getset_descriptor PySem.Calls in
theorem oR(X:K.In s.heap)(Z:cE K C)(hx:s.heap.get? e=some o)(hc:o.cls = .ref C)
 (h:R (.ok (.ret (.ref C))) s):codeAny (model prog w) A (.call (.builtin "getset_descriptor.__get__") ⟨[.builtin "object.__class__",.ref e,tp],[]⟩) R s:=by
 obtain⟨hh,g,dr,t,os⟩:=s;have L0:Looks (model prog w) hh (typeOf (.ref e)) (.ref C):=hc ▸ (Looks.ld hx).andThen .now;have L1:=looks_mroIn (M:=model prog w) X Z.m1;refine codeAny_call_builtin KF.slot_gs.plain KF.entry_gs (KF.slot_gs.check _ _ _ _ _ _ _ _ KF.type_class (KF.args_gs _ _ _) ?_);unfold Builtin.«getset_descriptor.__get__» descrGet;rw[dga_obj];refine zw (yt ?_);unfold descrGetter descrCheckInstance descrNameAndClass isInstance;simp only[KF.owner_class]
 repeat lk
 refine⟨Code.quiet_builtin _ (by decide +kernel),codeAny_builtin KF.entry_class ?_⟩;unfold Builtin.«object.__class__» shownTypeOf
 repeat lk
 exact h
theorem rK(X:K.In s.heap)(Z:cE K C)(hx:s.heap.get? e=some o)(hc:o.cls = .ref C)(hq:Q () s) :
 wpAny M A (checkBuiltinCall "BaseException.__getattribute__" ⟨[.ref e,nameV],[]⟩) Q E s:=by
 have hk:builtinKind "BaseException.__getattribute__" = some .slot:=by decide +kernel
 have hsplit:splitId "BaseException.__getattribute__" = some ("BaseException","__getattribute__"):=by decide +kernel
 have ha:=F.args_bexc_ga (.ref e) nameV;obtain⟨hh,g,dr,t,os⟩:=s;have L0:Looks M hh (typeOf (.ref e)) (.ref C):=hc ▸ (Looks.ld hx).andThen .now;have L1:=looks_mroIn (M:=M) X Z.m2;have LI:Looks M hh (isInstance (.ref e) (.type "BaseException")) true:=L0.andThen L1;simp only[checkBuiltinCall,hk,hsplit];refine zw (LI.at ?_)
 repeat (first|assumption|wp_step)
theorem qz(X:K.In s.heap)(Z:cE K C)(hx:s.heap.get? e=some o)(hc:o.cls = .ref C)(hq:Q (.done (.ret (.ref C))) s) :
 wpAny (model prog w) A (Builtin.«object.__getattribute__» ⟨[.ref e,.str "__class__" tk],[]⟩) Q E s:=by
 obtain⟨hh,g,dr,t,os⟩:=s;have L0:Looks (model prog w) hh (typeOf (.ref e)) (.ref C):=hc ▸ (Looks.ld hx).andThen .now;have L3:=looks_findIn (M:=model prog w) X Z.l3;have f5:=KF.type_class;have f6:=F.slot_gs_get.lookup;have f7:=F.slot_gs_set.lookup
 repeat (any_goals (first|assumption|with_reducible refine L0.at ?_|with_reducible refine L3.at ?_|wp_step))
 refine oR X Z hx hc ?_
 repeat (any_goals (first|assumption|wp_step))
theorem ow(X:K.In s.heap)(Z:cE K C)(hx:s.heap.get? e=some o)(hc:o.cls = .ref C)(h:Q (some (.ref C)) { s with toks:=s.toks+1 }) :
 wpAny (model prog w) A (getAttr? (.ref e) "__class__") Q E s:=by
 obtain⟨hh,g,dr,t,os⟩:=s;have L0:Looks (model prog w) hh (typeOf (.ref e)) (.ref C):=hc ▸ (Looks.ld hx).andThen .now;have L1:=looks_findIn (M:=model prog w) X Z.l1;have L2:=looks_findIn (M:=model prog w) X Z.l2;have f3:=F.excAttr_ValueError.ga.bind (.ref e);have hx2:(YE "BaseException.__getattribute__" == YE "object.__getattribute__")=false:=by decide +kernel
 have hx0:∀ex:Bool,(ex&&onTheHeap (YE "BaseException.__getattribute__"))=false:=fun ex=>by cases ex <;> rfl
 have hx1:(onTheHeap (yX C)&&YE "BaseException.__getattribute__" == YE "object.__getattribute__")=false:=by rw[hx2];rfl
 unfold getAttr?
 repeat (any_goals (first|assumption|with_reducible refine L0.at ?_|with_reducible refine L1.at ?_|with_reducible refine L2.at ?_|wp_step))
 refine codeAny_call_builtin F.excAttr_ValueError.ga.plain F.entry_bexc_ga (rK X Z hx hc (qz X Z hx hc ?_))
 repeat (any_goals (first|assumption|wp_step))
theorem zF(Z:cE K C):KitX K (.ref e) (.ref C) (fun h=>∃o,h.get? e=some o/\o.cls = .ref C) where
 ty:=fun M h _ ⟨o,h1,h2⟩=>h2 ▸ (Looks.ld h1).andThen .now
 it:=fun M h X _=>by
  have c1:=Z.c1;unfold clsIn at c1;split at c1
  ·rename_i c' d' cd' sl' ho
   intro A' Q' E' s' k q;unfold isType loadHead;exact zw (wpAny_loadPart (k _ _ (X _ _ ho)) (yt q))
  ·cases c1
 ne:=fun h tp dd its n sl X htp=>by
  refine Bool.eq_false_iff.mpr fun q=>?_;have e':C=tp:=yX.inj (beq_iff_eq.mp q);subst e';have c1:=Z.c1;unfold clsIn at c1;split at c1
  ·rename_i c' d' cd' sl' ho
   have z:=(X _ _ ho).symm.trans htp;cases z
  ·cases c1
 ca:=fun X ⟨o,h1,h2⟩ k=>ow X Z h1 h2 k
end
section
variable{X:Cx}
theorem qB:CallR X (.builtin "isinstance") (fun xs H Q=>∃e c C u b,xs=[.ref e,c]/\yD c u/\H e=some (ul (.ref C) e)/\cE X.K C/\ZK X.K (.ref C) u=some b/\Q (.bl b) H):=by
 intro pins s σ H xs us Q I r h;obtain⟨e,c,C,u,b,rfl,rc,he,Z,k,q⟩:=h;obtain⟨ux,uc,rfl,rx,rc'⟩:=v7 r;have ec:uc=u:=by
  cases rc with
  |ty n=>exact rc'
  |own a=>exact rc'
 subst ec;cases (show ux=yX e from rx);obtain⟨⟨o,vs,h1,h2,_⟩,_,_⟩:=(show ObjOk X.prog X.w H s.heap e (ul (.ref C) e) from I.hok e _ he);exact kia_one (zF Z) I.kIn ⟨o,h1,h2⟩ k (fun z=>nomatch z) fun tk=>⟨.bl b,H,I.tok _,rfl,q⟩
theorem qf(hc:X.calm=true):CallR X (.builtin "sum") (fun xs H Q=>∃(p:Addr) (ns:List Int),xs=[.ref p]/\SqT X.K H p (ns.map V.int)/\Q (.int ns.sum) H):=by
 intro pins s σ H xs us Q I r h;obtain⟨p,ns,rfl,hq,q⟩:=h;obtain⟨u,rfl,rx⟩:=eS r;cases (show u=yX p from rx);obtain⟨its,r',pl,hz⟩:=I.tuple hq;have hi:=mT r';obtain⟨ys,hy⟩:=hi.allInts.items;have hn:numsOf its.toArray.toList=ns:=by rw[show its.toArray.toList=its from rfl,hi.numsOf]
 rw[hy]at pl hn;rw[nums_intItems]at hn;refine ktm_sumG (I.ok.hd hc) pl fun h' tk t' hk=>?_;rw[preSum_eq,Zk (by simp),hn];exact⟨.int ns.sum,H,I.kept hk,⟨_,rfl⟩,q⟩
end
end L2
namespace L2
open PySem PySem.Spec PyProof.Rows
section
variable{X:Cx}{a b:Expr}{ta:TE}
def Gh(xs ys:List V):Bool:=(Zi (min xs.length ys.length)).all (fun j=>eqV (xs.getD j .non) (ys.getD j .non))&&xs.length==ys.length
def CB(K:W.Frag)(neg:Bool):R2:=fun x y H Q=>∃p p' xs ys,x = .ref p/\y = .ref p'/\SqT K H p xs/\SqT K H p' ys/\xs.all eY=true/\ys.all eY=true/\Q (.bl (neg ^^ Gh xs ys)) H
theorem mU(r:Vals xs us)(r':Vals ys vs)(fx:xs.all eY=true)(fy:ys.all eY=true)(j:Nat)(h1:j<us.toArray.size)(h2:j<vs.toArray.size) :
 SeqAt.EqAt A s us.toArray[j] vs.toArray[j] (eqV (xs.getD j .non) (ys.getD j .non)):=by
 have e1:us[j]? = some us.toArray[j]:=by simp at h1;simp[h1]
 have e2:vs[j]? = some vs.toArray[j]:=by simp at h2;simp[h2]
 have l1:j<xs.length:=by rw[r.length];simpa using h1
 have l2:j<ys.length:=by rw[r'.length];simpa using h2
 have g1:xs[j]? = some (xs.getD j .non):=by simp[Y5,l1]
 have g2:ys[j]? = some (ys.getD j .non):=by simp[Y5,l2]
 obtain⟨u,hu,ru⟩:=r.get g1;obtain⟨v,hv,rv⟩:=r'.get g2;rw[e1]at hu;rw[e2]at hv;rw[uF hu,uF hv];exact vD ru rv (Zj.mp fx _ (yO g1)) (Zj.mp fy _ (yO g2))
theorem Ff(hu:X.A.units<cLine):OpR X (uK .Eq) (CB X.K false):=by
 intro pins s σ H x y v u Q I rx ry h;obtain⟨p,p',xs,ys,rfl,rfl,hx,hy,fx,fy,q⟩:=h;cases (show v=yX p from rx);cases (show u=yX p' from ry);obtain⟨its,r,pl,hz⟩:=I.tuple hx;obtain⟨its',r',pl',hz'⟩:=I.tuple hy;refine SeqAt.eq_tupleAt pl pl' hu (fun j h1 h2=>mU r r' fx fy j h1 h2) ⟨.bl _,H,I,rfl,?_⟩;rw[yp,yp,<- r.length,<- r'.length]
 simpa [Gh] using q
theorem Gd(hu:X.A.units<cLine):OpR X (uK .NotEq) (CB X.K true):=by
 intro pins s σ H x y v u Q I rx ry h;obtain⟨p,p',xs,ys,rfl,rfl,hx,hy,fx,fy,q⟩:=h;cases (show v=yX p from rx);cases (show u=yX p' from ry);obtain⟨its,r,pl,hz⟩:=I.tuple hx;obtain⟨its',r',pl',hz'⟩:=I.tuple hy;refine SeqAt.RcNeAt.tuples pl pl' hu (fun j h1 h2=>mU r r' fx fy j h1 h2) X.prog X.w X.xe _ ⟨.bl _,H,I,rfl,?_⟩;rw[yp,yp,<- r.length,<- r'.length]
 simpa [Gh] using q
theorem Fj(hu:X.A.units<cLine):OpR X (uK .Eq) (fun x y H Q=>rEq x y H Q\/CB X.K false x y H Q):=Ho.or (Ff hu)
theorem EJ(hu:X.A.units<cLine):OpR X (uK .NotEq) (fun x y H Q=>rNe x y H Q\/CB X.K true x y H Q):=Hn.or (Gd hu)
theorem yN:CallR X (.builtin "isinstance") (fun xs H Q=>(∃x c t u b,xs=[x,c]/\yD c u/\jI X.K H x t/\ZK X.K t u=some b/\Q (.bl b) H) \/
 ∃e c C u b,xs=[.ref e,c]/\yD c u/\H e=some (ul (.ref C) e)/\cE X.K C/\ZK X.K (.ref C) u=some b/\Q (.bl b) H):=um.or qB
theorem RelV.bool_iff(r:RelV x v):(v==YN k)=decide (x = .bl k):=by
 cases x with
 |non=>cases (show v=Zc from r);rfl
 |bl c=>cases (show v=YN c from r);cases c <;> cases k <;> rfl
 |int _=>obtain⟨t,rfl⟩:=r;rfl
 |str _=>obtain⟨t,rfl⟩:=r;rfl
 |byt _=>obtain⟨t,rfl⟩:=r;rfl
 |flt _=>obtain⟨t,rfl⟩:=r;rfl
 |ref p=>cases (show v=yX p from r);rfl
 |ty n=>cases (show v=Z2 n from r);rfl
theorem tM(r:RelV x v):plainIs v (.bool k)=true:=by
 cases x with
 |non=>cases (show v=Zc from r);rfl
 |bl c=>cases (show v=YN c from r);rfl
 |int _=>obtain⟨t,rfl⟩:=r;rfl
 |str _=>obtain⟨t,rfl⟩:=r;rfl
 |byt _=>obtain⟨t,rfl⟩:=r;rfl
 |flt _=>obtain⟨t,rfl⟩:=r;rfl
 |ref p=>cases (show v=yX p from r);rfl
 |ty n=>cases (show v=Z2 n from r);rfl
def GY(neg k:Bool)(ta:TE):TE:=fun σ H Q=>ta σ H fun x H1=>Q (.bl (neg ^^ decide (x = .bl k))) H1
theorem Do{j pos'}(ha:PE X a ta):PC X .IsNot a (.Constant (.bool k) j pos') (GY true k ta):=by
 intro pins s σ H Q I h;refine thn (ha pins s σ H _ I h) fun v s1 ⟨x,H1,I1,r1,q1⟩=>?_;exact Constant_bool (wpAny_isNot_plain (tM r1) ⟨.bl _,H1,I1,by rw[r1.bool_iff,Bool.true_xor];rfl,q1⟩)
end
abbrev T(l:List Nat):V:=.str ⟨⟨l⟩⟩
def cs(x:Str):List Nat:=x.cps.toList
theorem HX(x:Str):V.str x=T (cs x):=rfl
section
variable{X:Cx}{e a b c:Expr}{pos:Pos}
theorem PE.imp(h:PE X e t)(i:∀σ H Q,t' σ H Q->t σ H Q):PE X e t':=fun pins s σ H Q I q=>h pins s σ H Q I (i σ H Q q)
theorem OpR.imp(h:OpR X f r)(i:∀x y H Q,r' x y H Q->r x y H Q):OpR X f r':=fun pins s σ H x y v u Q I rx ry q=>h pins s σ H x y v u Q I rx ry (i _ _ _ _ q)
theorem UnR.imp(h:UnR X f r)(i:∀x H Q,r' x H Q->r x H Q):UnR X f r':=fun pins s σ H x v Q I rx q=>h pins s σ H x v Q I rx (i _ _ _ q)
theorem CallR.imp(h:CallR X f r)(i:∀x H Q,r' x H Q->r x H Q):CallR X f r':=fun pins s σ H x v Q I rx q=>h pins s σ H x v Q I rx (i _ _ _ q)
theorem IxR.imp(h:IxR X r)(i:∀x y H Q,r' x y H Q->r x y H Q):IxR X r':=fun va sl pins s σ H x y v u Q I rx ry q hs=>h va sl pins s σ H x y v u Q I rx ry (i _ _ _ _ q) hs
def ED(i:Nat):TE:=fun σ H Q=>match σ[i]? with
 |some (some v)=>Q v H
 |_=>False
theorem fv(i:Nat)(hN:X.N[i]? = some x:=by rfl)(hv:Vis X.env.scope x:=by first|exact Or.inl rfl|exact Or.inr (Or.inl rfl)|exact Or.inr (Or.inr rfl))(hd:(x==("__debug__":Str))=false:=by decide)
 (hcd:(x==("__classdict__":Str))=false:=by decide):PE X (.Name x pos) (ED i):=(FY hN hv hd hcd).imp fun σ H Q h=>by
 unfold ED at h;split at h
 ·exact⟨_,by assumption,h⟩
 ·exact h.elim
theorem aQ{j}(l:List Nat)(h:x=⟨⟨l⟩⟩:=by decide +kernel):PE X (.Constant (.str x) j pos) (tC (T l)):=h ▸ AN
def yf:R2
 | .int i,.int j,H,Q=>Q (.int (i+j)) H
 | .str i,.str j,H,Q=>(cs i).length+(cs j).length<=sizeLine/\Q (T (cs i++cs j)) H
 |_,_,_,_=>False
theorem EY(i j:Str):V.str (i++j)=T (cs i++cs j):=by
 show V.str ⟨i.cps++j.cps⟩=V.str ⟨⟨i.cps.toList++j.cps.toList⟩⟩
 congr 1
 congr 1
 exact(Array.ext' (by simp))
theorem aN:OpR X (binaryOp .Add) yf:=(Ey.or uO).imp fun x y H Q h=>by
 unfold yf at h;split at h
 ·exact .inl ⟨_,_,rfl,rfl,h⟩
 ·refine .inr ⟨_,_,rfl,rfl,by simpa [cs,ZF] using h.1,?_⟩
  rw[EY];exact h.2
 ·exact h.elim
def gI(g:Int->Int->V):R2
 | .int i,.int j,H,Q=>Q (g i j) H
 |_,_,_,_=>False
def gIC(C:Int->Int->Prop)(g:Int->Int->V):R2
 | .int i,.int j,H,Q=>C i j/\Q (g i j) H
 |_,_,_,_=>False
theorem DB:∀x y H Q,gI g x y H Q->rI0 g x y H Q:=fun x y H Q h=>by
 unfold gI at h;split at h
 ·exact⟨_,_,rfl,rfl,h⟩
 ·exact h.elim
theorem qJ:∀x y H Q,gIC C g x y H Q->rI C g x y H Q:=fun x y H Q h=>by
 unfold gIC at h;split at h
 ·exact⟨_,_,rfl,rfl,h.1,h.2⟩
 ·exact h.elim
theorem eC:OpR X (binaryOp .Sub) (gI fun i j=>.int (i-j)):=EQ.imp DB
theorem eT:OpR X (binaryOp .Mult) (gIC CMul fun i j=>.int (i*j)):=F6.imp qJ
theorem a9:OpR X (binaryOp .Mod) (gIC (fun _ j=>0<j) fun i j=>.int (i % j)):=EW.imp qJ
theorem aX:OpR X (binaryOp .FloorDiv) (gIC Gg fun i j=>.int (i / j)):=C4.imp qJ
theorem v5:OpR X (binaryOp .Pow) (gIC E3 fun i j=>.int (i ^ j.toNat)):=EM.imp qJ
def E9:V->Hp->VK->Prop
 | .int i,H,Q=>Q (.int (-i)) H
 |_,_,_=>False
theorem vt:UnR X (unaryOp .USub) E9:=E_.imp fun x H Q h=>by
 unfold E9 at h;split at h
 ·exact⟨_,rfl,h⟩
 ·exact h.elim
def leN(a b:List Nat):Bool:=!decide (b<a)
theorem xA:OpR X (uK .LtE) (fun x y H Q=>∃i j,x = .str i/\y = .str j/\Q (.bl (leN (cs i) (cs j))) H):=by
 intro pins s σ H x y v u Q I rx ry h;obtain⟨i,j,rfl,rfl,q⟩:=h;obtain⟨t,rfl⟩:=rx;obtain⟨t',rfl⟩:=ry;exact PySem.P.le_str ⟨.bl _,H,I,rfl,q⟩
def gLe:R2
 | .int i,.int j,H,Q=>Q (.bl (decide (i<=j))) H
 | .str i,.str j,H,Q=>Q (.bl (leN (cs i) (cs j))) H
 |_,_,_,_=>False
theorem d_:OpR X (uK .LtE) gLe:=(Hq.or xA).imp fun x y H Q h=>by
 unfold gLe at h;split at h
 ·exact .inl ⟨_,_,rfl,rfl,h⟩
 ·exact .inr ⟨_,_,rfl,rfl,h⟩
 ·exact h.elim
def gLt:R2
 | .int i,.int j,H,Q=>Q (.bl (decide (i<j))) H
 | .str i,.str j,H,Q=>Q (.bl (decide (cs i<cs j))) H
 |_,_,_,_=>False
theorem n8:OpR X (uK .Lt) gLt:=(GI.or ye).imp fun x y H Q h=>by
 unfold gLt at h;split at h
 ·exact .inl ⟨_,_,rfl,rfl,h⟩
 ·exact .inr ⟨_,_,rfl,rfl,h⟩
 ·exact h.elim
theorem lO:OpR X (uK .Gt) (gI fun i j=>.bl (decide (j<i))):=Hb.imp DB
def eqS:V->V->Option Bool
 | .int i,.int j=>some (decide (i=j))
 | .bl i,.bl j=>some (decide (i=j))
 | .str i,.str j=>some (decide (cs i=cs j))
 | .non,.non=>some true
 | .non,.int _=>some false | .int _,.non=>some false | .non,.bl _=>some false | .bl _,.non=>some false | .non,.str _=>some false | .str _,.non=>some false
 | .int _,.str _=>some false | .str _,.int _=>some false | .bl _,.str _=>some false | .str _,.bl _=>some false
 |_,_=>none
theorem vV(i j:Str):V.str i=V.str j↔cs i=cs j:=by
 constructor
 ·intro h;injection h with h;rw[h]
 ·intro h
  congr 1
  obtain⟨⟨a⟩⟩:=i;obtain⟨⟨b⟩⟩:=j;have h':a=b:=h;rw[h']
theorem ue(h:eqS x y=some k):Eo x y=true/\decide (x=y)=k:=by
 unfold eqS at h;split at h <;> (first|cases h) <;> refine⟨rfl,?_⟩
 case h_1 i j=>exact decide_eq_decide.mpr (by simp)
 case h_2 i j=>exact decide_eq_decide.mpr (by simp)
 case h_3 i j=>exact decide_eq_decide.mpr (vV i j)
 all_goals simp
variable{ta tb tc:TE}{rest:List Expr}
def kB(Q:Bool->Hp->Prop):VK:=fun x H=>match x with
 | .bl k=>Q k H
 |_=>False
def lT(t:TE):TT:=fun σ H Q=>t σ H (kB Q)
theorem j0(h:kB Q x H):∃k,x = .bl k/\Q k H:=by
 unfold kB at h;split at h
 ·exact⟨_,rfl,h⟩
 ·exact h.elim
theorem jx(ho:OpR X (uK op) r)(ha:PE X a ta)(hb:PE X b tb)(hm:Z0 op b=false):PT X (.Compare a [op] [b] pos) (lT (tOp r ta tb)):=by
 intro pins s σ H Q I h;refine wpAny_isTrue_Compare1 (thn (ha pins s σ H _ I h) fun v s1 ⟨x,H1,I1,r1,q1⟩=>thn (hb pins s1 σ H1 _ I1 q1) fun u s2 ⟨y,H2,I2,r2,q2⟩=>
  thn (ho pins s2 σ H2 x y v u _ I2 r1 r2 q2) fun c s3 ⟨z,H3,I3,r3,q3⟩=>?_) hm
 obtain⟨k,e,q3⟩:=j0 q3;subst e;cases r3;exact sS ⟨H3,I3,q3⟩
theorem dN(h:PC X op a b t)(h1:Z0 op b=false:=by first|exact ur _ (by decide) (by decide)|rfl):PT X (.Compare a [op] [b] pos) (lT t):=by
 intro pins s σ H Q I hw;refine wpAny_isTrue_Compare1 (thn (h pins s σ H _ I hw) fun v s1 h1=>thn h1 fun u s2 h2=>thn h2 fun c s3 ⟨x,H1,I1,r1,q1⟩=>?_) h1;obtain⟨d,rfl,q⟩:=j0 q1;cases r1;exact sS ⟨H1,I1,q⟩
theorem bx(h:PE X e t)(he:∀whole,isTrue e X.env whole=(do let v <- whole;standAt e.pos;holding [v] (truthy v)):=by intro _;rfl):PT X e (lT t):=by
 intro pins s σ H Q I hw;refine isTrue_plain (thn (h pins s σ H _ I hw) fun v s1 ⟨x,H1,I1,r1,q1⟩=>?_) (he _);obtain⟨d,rfl,q⟩:=j0 q1;cases r1;exact sS ⟨H1,I1,q⟩
def uD(r r':R2)(ta tb tc:TE):TE:=fun σ H Q=>ta σ H fun x H1=>tb σ H1 fun y H2=>r x y H2 (kB fun k H3=>if k=true then tc σ H3 fun w' H4=>r' y w' H4 Q else Q (.bl false) H3)
theorem jP(ho:OpR X (uK op) r)(ho':OpR X (uK op') r')(ha:PE X a ta)(hb:PE X b tb)(hc:PE X c tc)
 (hm:lastMarks [op,op'] [b,c]=false:=by with_unfolding_all rfl):PE X (.Compare a [op,op'] [b,c] pos) (uD r r' ta tb tc):=by
 intro pins s σ H Q I h;refine Compare_chain (thn (ha pins s σ H _ I h) fun v s1 ⟨x,H1,I1,r1,q1⟩=>chain_link (thn (hb pins s1 σ H1 _ I1 q1) fun u s2 ⟨y,H2,I2,r2,q2⟩=>
  thn (ho pins s2 σ H2 x y v u _ I2 r1 r2 q2) fun d s3 ⟨z,H3,I3,r3,q3⟩=>?_)) hm
 obtain⟨k,e,q3⟩:=j0 q3;subst e;cases r3;refine sS ?_;cases k with
 |false=>exact ite_ff ⟨.bl false,H3,I3,rfl,q3⟩
 |true=>exact ite_tt (chain_last (thn (hc pins s3 σ H3 _ I3 q3) fun w' s4 ⟨z',H4,I4,r4,q4⟩=>ho' pins s4 σ H4 y z' u w' Q I4 r2 r4 q4))
theorem zl(ho:OpR X (uK op) r)(ho':OpR X (uK op') r')(ha:PE X a ta)(hb:PE X b tb)(hc:PE X c tc)
 (hm:lastMarks [op,op'] [b,c]=false:=by with_unfolding_all rfl):PT X (.Compare a [op,op'] [b,c] pos) (lT (uD r r' ta tb tc)):=by
 intro pins s σ H Q I h;refine isTrue_chain (thn (ha pins s σ H _ I h) fun v s1 ⟨x,H1,I1,r1,q1⟩=>test_link (thn (hb pins s1 σ H1 _ I1 q1) fun u s2 ⟨y,H2,I2,r2,q2⟩=>
  thn (ho pins s2 σ H2 x y v u _ I2 r1 r2 q2) fun d s3 ⟨z,H3,I3,r3,q3⟩=>?_)) hm
 obtain⟨k,e,q3⟩:=j0 q3;subst e;cases r3;refine sS ?_;cases k with
 |false=>exact ite_ff ⟨H3,I3,q3⟩
 |true=>
  refine ite_tt (test_last (thn (hc pins s3 σ H3 _ I3 q3) fun w' s4 ⟨z',H4,I4,r4,q4⟩=>thn (ho' pins s4 σ H4 y z' u w' _ I4 r2 r4 q4) fun d' s5 ⟨z2,H5,I5,r5,q5⟩=>?_));obtain⟨k2,e2,q5⟩:=j0 q5;subst e2;cases r5;exact sS ⟨H5,I5,q5⟩
def HF(ta tb:TE):TE:=fun σ H Q=>ta σ H (kB fun c H1=>if c=true then tb σ H1 Q else Q (.bl false) H1)
def fOr(ta tb:TE):TE:=fun σ H Q=>ta σ H (kB fun c H1=>if c=true then Q (.bl true) H1 else tb σ H1 Q)
def Hw(ta:TE):TE:=fun σ H Q=>ta σ H (kB fun c H1=>Q (.bl (!c)) H1)
theorem c_(ha:PE X a ta)(hb:PE X (.BoolOp .And (b::rest) pos) tb):PE X (.BoolOp .And (a::b::rest) pos) (HF ta tb):=by
 intro pins s σ H Q I h;refine BoolOp_and (thn (ha pins s σ H _ I h) fun v s1 ⟨x,H1,I1,r1,q1⟩=>?_);obtain⟨c,rfl,q1⟩:=j0 q1;cases r1;refine sS ?_;cases c with
 |true=>exact hb pins s1 σ H1 Q I1 q1
 |false=>exact⟨.bl false,H1,I1,rfl,q1⟩
theorem Bj(ha:PE X a ta)(hb:PE X (.BoolOp .Or (b::rest) pos) tb):PE X (.BoolOp .Or (a::b::rest) pos) (fOr ta tb):=by
 intro pins s σ H Q I h;refine BoolOp_or (thn (ha pins s σ H _ I h) fun v s1 ⟨x,H1,I1,r1,q1⟩=>?_);obtain⟨c,rfl,q1⟩:=j0 q1;cases r1;refine sS ?_;cases c with
 |false=>exact hb pins s1 σ H1 Q I1 q1
 |true=>exact⟨.bl true,H1,I1,rfl,q1⟩
theorem Fb(ha:PE X a ta):PE X (.UnaryOp .Not a pos) (Hw ta):=by
 intro pins s σ H Q I h;refine UnaryOp_ (thn (ha pins s σ H _ I h) fun v s1 ⟨x,H1,I1,r1,q1⟩=>?_);obtain⟨c,rfl,q1⟩:=j0 q1;cases r1;exact not_of (sS ⟨.bl (!c),H1,I1,rfl,q1⟩)
def HJ:List V->Hp->VK->Prop
 | [.int i],H,Q=>Q (.int (if i<0 then -i else i)) H
 |_,_,_=>False
def Ge:List V->Hp->VK->Prop
 | [.int i,.int j],H,Q=>Q (.int (if j<i then j else i)) H
 |_,_,_=>False
theorem BJ(hc:X.calm=true):CallR X (.builtin "min") Ge:=(xw hc).imp fun x H Q h=>by
 unfold Ge at h;split at h
 ·exact⟨_,_,rfl,h⟩
 ·exact h.elim
def Fm:List V->Hp->VK->Prop
 | [.int i,.int j],H,Q=>Q (.int (if j > i then j else i)) H
 |_,_,_=>False
theorem vS(hc:X.calm=true):CallR X (.builtin "max") Fm:=(yK hc).imp fun x H Q h=>by
 unfold Fm at h;split at h
 ·exact⟨_,_,rfl,h⟩
 ·exact h.elim
def Dt(K:W.Frag):List V->Hp->VK->Prop
 | [.str y],H,Q=>(cs y).length<=sizeLine/\Q (.int (cs y).length) H
 | [.ref p],H,Q=>∃xs,(SqL K H p xs\/SqT K H p xs)/\Q (.int xs.length) H
 |_,_,_=>False
theorem FI:CallR X (.builtin "len") (Dt X.K):=zP.imp fun x H Q h=>by
 unfold Dt at h;split at h
 ·exact⟨_,_,rfl,⟨by simpa [cs,ZF] using h.1,rfl⟩,by simpa [cs,ZF] using h.2⟩
 ·obtain⟨xs,hx,q⟩:=h
  rcases hx with hx|hx
  ·exact⟨_,_,rfl,.inl ⟨xs,hx,rfl⟩,q⟩
  ·exact⟨_,_,rfl,.inr ⟨xs,hx,rfl⟩,q⟩
 ·exact h.elim
def ip(H:Hp):V->Option String
 | .non=>some "NoneType"
 | .bl _=>some "bool"
 | .int _=>some "int"
 | .str _=>some "str"
 | .ref p=>match H p with
  |some (.lst _)=>some "list"
  |some (.frz _ (.lst _))=>some "list"
  |some (.tup _)=>some "tuple"
  |some (.dK _)=>some "dict"
  |_=>none
 |_=>none
def bS(t n:String):Bool:=t==n || (t == "bool" && n == "int")
def jm(t:String):Prop:=t = "NoneType" \/ t = "bool" \/ t = "int" \/ t = "str" \/ t = "list" \/ t = "tuple" \/ t = "dict"
theorem Go{K:W.Frag}{t n:String}(h:jm t)(hn:n = "int" \/ n = "bool" \/ n = "str" \/ n = "list" \/ n = "tuple" \/ n = "dict"):ZK K (.type t) (.type n)=some (bS t n):=by
 rcases h with rfl|rfl|rfl|rfl|rfl|rfl|rfl <;> rcases hn with rfl|rfl|rfl|rfl|rfl|rfl <;> kernel_rfl
theorem zk{K:W.Frag}{H:Hp}{x:V}{t:String}(h:ip H x=some t):jI K H x (.type t)/\jm t:=by
 unfold ip at h;split at h
 ·cases h;exact⟨.non,by simp[jm]⟩
 ·cases h;exact⟨.bl _,by simp[jm]⟩
 ·cases h;exact⟨.int _,by simp[jm]⟩
 ·cases h;exact⟨.str _,by simp[jm]⟩
 ·split at h
  ·rename_i e;cases h;exact⟨.lst e,by simp[jm]⟩
  ·rename_i e;cases h;exact⟨.frz e,by simp[jm]⟩
  ·rename_i e;cases h;exact⟨.tup e,by simp[jm]⟩
  ·rename_i e;cases h;exact⟨.dK e,by simp[jm]⟩
  ·cases h
 ·cases h
def tX(n:String):Bool:=n == "int" || n == "bool" || n == "str" || n == "list" || n == "tuple" || n == "dict"
def Dr(K:W.Frag):List V->Hp->VK->Prop
 | [x,.ty n],H,Q=>(match ip H x with
  |some t=>tX n=true/\Q (.bl (bS t n)) H
  |none=>∃e C b,x = .ref e/\H e=some (ul (.ref C) e)/\cE K C/\ZK K (.ref C) (.type n)=some b/\Q (.bl b) H)
 | [.ref e,.ref D],H,Q=>∃C b,H e=some (ul (.ref C) e)/\cE K C/\ZK K (.ref C) (.ref D)=some b/\Q (.bl b) H
 |_,_,_=>False
theorem E6:CallR X (.builtin "isinstance") (Dr X.K):=yN.imp fun xs H Q h=>by
 unfold Dr at h;split at h
 ·rename_i x n
  split at h
  ·rename_i t ht
   obtain⟨ty,hb⟩:=zk (K:=X.K) ht;obtain⟨hn,q⟩:=h;refine .inl ⟨x,_,_,_,_,rfl,.ty n,ty,Go hb ?_,q⟩
   simpa [tX,or_assoc] using hn
  ·obtain⟨e,C,b,rfl,he,Z,k,q⟩:=h
   exact .inr ⟨e,_,C,_,b,rfl,.ty n,he,Z,k,q⟩
 ·rename_i e D
  obtain⟨C,b,he,Z,k,q⟩:=h;exact .inr ⟨e,_,C,_,b,rfl,.own D,he,Z,k,q⟩
 ·exact h.elim
end
section
variable{X:Cx}{a b:Expr}{ta tb:TE}{pos pos':Pos}
def gIx(K:W.Frag):R2
 | .str z,.int i,H,Q=>(cs z).length<=sizeLine/\(match atI (cs z) i with
  |some c=>Q (T [c]) H
  |none=>False)
 | .ref p,.int i,H,Q=>∃xs v,(SqL K H p xs\/SqT K H p xs)/\atI xs i=some v/\Q v H
 |_,_,_,_=>False
theorem EE:IxR X (gIx X.K):=FZ.imp fun x y H Q h=>by
 unfold gIx at h;split at h
 ·obtain⟨hz,h⟩:=h
  split at h
  ·rename_i c hc
   exact .inr (.inr ⟨_,_,c,rfl,rfl,by simpa [cs,ZF] using hz,hc,h⟩)
  ·exact h.elim
 ·obtain⟨xs,v,hs|hs,hv,q⟩:=h
  ·exact .inl ⟨_,xs,_,v,rfl,rfl,hs,hv,q⟩
  ·exact .inr (.inl ⟨_,xs,_,v,rfl,rfl,hs,hv,q⟩)
 ·exact h.elim
def j2(xs:List V)(H H1:Hp)(Q:VK):V->Prop
 | .int i=>(match atI xs i with
  |some (.ref q)=>H q=none/\(match H1 q with
   |some o=>jt o=true/\Q (.ref q) (upd H q o)
   |none=>False)
  |some v=>Q v H
  |none=>False)
 |_=>False
def A3(ta:TA)(ti:TE):TE:=fun σ H Q=>NoT H/\ta σ H fun xs H1=>Same H H1/\xs.length<=sizeLine/\∀p,H1 p=none->ti σ (upd H1 p (.lst xs)) fun y H2=>H2=upd H1 p (.lst xs)/\j2 xs H H1 Q y
theorem zN(s:Same H H1)(hp:H1 p=none)(h:j2 xs H H1 Q y):∃i v G,y = .int i/\atI xs i=some v/\Gc H G (upd H1 p o)/\Q v G:=by
 unfold j2 at h;have s2:Same H (upd H1 p o):=s.trans (aj o hp);split at h
 ·rename_i i
  split at h
  ·rename_i q hq
   obtain⟨hn,h⟩:=h;split at h
   ·rename_i o' ho'
    exact⟨i,_,_,rfl,hq,Gc.one s2 hn (by rw[ah (aC ho' hp)];exact ho') h.1,h.2⟩
   ·exact h.elim
  ·rename_i v _ hv
   exact⟨i,v,H,rfl,hv,Gc.none s2,h⟩
  ·exact h.elim
 ·exact h.elim
theorem km(ha:PA X es t)(hb:PE X b tb)(hs:qX b):PE X (.Subscript (.List es pos') b pos) (A3 t tb):=by
 intro pins s σ H Q I h;obtain⟨n,h⟩:=h;refine Subscript_ (wpAny_List_spliced (thn (ha pos' pins s σ H _ I h) fun us s1 ⟨xs,H1,I1,r,sm,z,q⟩=>⟨by rw[<- r.length];exact z,?_⟩));have hf:H1 s1.heap.objs.size=none:=I1.hok.fresh (z5 _);refine thn (hb pins _ σ (upd H1 s1.heap.objs.size (.lst xs)) _ (I1.laid (t':=s1.toks) (fun b u e=>Heap.get?_push_of_some _ e) (z5 _) ⟨z,us,0,r,Heap.get?_push_size _ rfl⟩) (q _ hf)) fun u s3 ⟨y,H3,I3,ry,e,k⟩=>?_;subst e;obtain⟨i,v,G,rfl,hv,g,hq⟩:=zN (o:=.lst xs) sm hf k;exact thn (wg (.List es pos') b pins s3 σ _ (.ref _) (.int i) _ u (fun v' H'=>v'=v/\H'=upd H1 s1.heap.objs.size (.lst xs)) I3 rfl ry ⟨_,xs,i,v,rfl,rfl,SqL.of ad,hv,rfl,rfl⟩ (hs _ _))
  fun u' s4 ⟨v',H4,I4,r4,e1,e2⟩=>⟨v,G,I.gc n (e2 ▸ I4) g,e1 ▸ r4,hq⟩
end
def sp0(f:Hp->VK->XK->Prop):Sp:=fun vs H Q E=>match vs with
 | []=>f H Q E
 |_=>False
def sp1(f:V->Hp->VK->XK->Prop):Sp:=fun vs H Q E=>match vs with
 | [x]=>f x H Q E
 |_=>False
def sp2(f:V->V->Hp->VK->XK->Prop):Sp:=fun vs H Q E=>match vs with
 | [x,y]=>f x y H Q E
 |_=>False
def sp3(f:V->V->V->Hp->VK->XK->Prop):Sp:=fun vs H Q E=>match vs with
 | [x,y,z]=>f x y z H Q E
 |_=>False
def sp4(f:V->V->V->V->Hp->VK->XK->Prop):Sp:=fun vs H Q E=>match vs with
 | [x,y,z,u]=>f x y z u H Q E
 |_=>False
section
variable{vs:List V}{H:Hp}{Q:VK}{E:XK}
theorem sp1.inv{f}(h:sp1 f vs H Q E):∃x,vs=[x]/\f x H Q E:=by
 unfold sp1 at h;split at h
 ·exact⟨_,rfl,h⟩
 ·exact h.elim
theorem sp2.inv{f}(h:sp2 f vs H Q E):∃x y,vs=[x,y]/\f x y H Q E:=by
 unfold sp2 at h;split at h
 ·exact⟨_,_,rfl,h⟩
 ·exact h.elim
theorem sp3.inv{f}(h:sp3 f vs H Q E):∃x y z,vs=[x,y,z]/\f x y z H Q E:=by
 unfold sp3 at h;split at h
 ·exact⟨_,_,_,rfl,h⟩
 ·exact h.elim
theorem sp4.inv{f}(h:sp4 f vs H Q E):∃x y z u,vs=[x,y,z,u]/\f x y z u H Q E:=by
 unfold sp4 at h;split at h
 ·exact⟨_,_,_,_,rfl,h⟩
 ·exact h.elim
theorem sp1.len{f}(h:sp1 f vs H Q E):vs.length=1:=by obtain⟨_,rfl,_⟩:=sp1.inv h;rfl
theorem sp2.len{f}(h:sp2 f vs H Q E):vs.length=2:=by obtain⟨_,_,rfl,_⟩:=sp2.inv h;rfl
theorem sp3.len{f}(h:sp3 f vs H Q E):vs.length=3:=by obtain⟨_,_,_,rfl,_⟩:=sp3.inv h;rfl
theorem sp4.len{f}(h:sp4 f vs H Q E):vs.length=4:=by obtain⟨_,_,_,_,rfl,_⟩:=sp4.inv h;rfl
end
def asI(x:V)(f:Int->Prop):Prop:=match x with
 | .int i=>f i
 |_=>False
def asT(x:V)(f:List Nat->Prop):Prop:=match x with
 | .str y=>f (cs y)
 |_=>False
def asB(x:V)(f:Bool->Prop):Prop:=match x with
 | .bl y=>f y
 |_=>False
def asR(x:V)(f:Addr->Prop):Prop:=match x with
 | .ref y=>f y
 |_=>False
theorem asI.inv(h:asI x f):∃i,x = .int i/\f i:=by
 unfold asI at h;split at h
 ·exact⟨_,rfl,h⟩
 ·exact h.elim
theorem asT.inv(h:asT x f):∃l,x=T l/\f l:=by
 unfold asT at h;split at h
 ·exact⟨_,rfl,h⟩
 ·exact h.elim
theorem asR.inv(h:asR x f):∃i,x = .ref i/\f i:=by
 unfold asR at h;split at h
 ·exact⟨_,rfl,h⟩
 ·exact h.elim
def asK(H:Hp)(x:V)(f:String->Prop):Prop:=match ip H x with
 |some t=>f t
 |none=>False
theorem EA{ns:List Int}{k:Int}(h0:0<=k)(h1:k<ns.length):atI (ns.map V.int) k=some (.int (ns.getD k.toNat 0)):=by
 obtain⟨j,rfl⟩:∃j:Nat,k=j:=⟨k.toNat,by lia⟩;refine aq ?_;have l:j<ns.length:=by lia
 simp[Y5,l]
theorem yE{ns:List Int}{i:Int}(h0:0<=i)(h1:i<ns.length)(q:Q (.int (ns.getD i.toNat 0)) H):j2 (ns.map V.int) H H1 Q (.int i):=by
 unfold j2;simp only[EA h0 h1];exact q
section
variable{X:Cx}(K:W.Frag)
theorem eI(h:X.K=K:=by rfl):CallR X (.builtin "isinstance") (Dr K):=h ▸ E6
theorem bh(h:X.K=K:=by rfl):CallR X (.builtin "len") (Dt K):=h ▸ FI
theorem CV(h:X.K=K:=by rfl):IxR X (gIx K):=h ▸ EE
theorem B3(h:X.K=K:=by rfl):SlR X (GT K):=h ▸ EF
theorem rB(hl:PE X l tl)(h:X.K=K:=by rfl):PI X tg l (xG K tl):=h ▸ FM hl
theorem bw(hl:PE X l tl)(h:X.K=K:=by rfl):PI X tg l (nZ K tl):=h ▸ Ci hl
end
theorem He:ip H (.bl b)=some "bool":=rfl
theorem F8:ip H (.int i)=some "int":=rfl
theorem EX:ip H (.str s)=some "str":=rfl
theorem EN:ip H .non=some "NoneType":=rfl
theorem ER:tX "int" = true:=by decide
theorem mi:bS "NoneType" "int" = false:=by decide
theorem tJ:bS "bool" "int" = true:=by decide
theorem vB:bS "int" "int" = true:=by decide
theorem vC:bS "str" "int" = false:=by decide
theorem rY:bS "list" "int" = false:=by decide
theorem rD:bS "tuple" "int" = false:=by decide
theorem sL:bS "dict" "int" = false:=by decide
theorem C_:tX "bool" = true:=by decide
theorem lz:bS "NoneType" "bool" = false:=by decide
theorem rq:bS "bool" "bool" = true:=by decide
theorem r9:bS "int" "bool" = false:=by decide
theorem su:bS "str" "bool" = false:=by decide
theorem rl:bS "list" "bool" = false:=by decide
theorem oK:bS "tuple" "bool" = false:=by decide
theorem rC:bS "dict" "bool" = false:=by decide
theorem Fp:tX "str" = true:=by decide
theorem mh:bS "NoneType" "str" = false:=by decide
theorem tZ:bS "bool" "str" = false:=by decide
theorem vH:bS "int" "str" = false:=by decide
theorem vQ:bS "str" "str" = true:=by decide
theorem tG:bS "list" "str" = false:=by decide
theorem rn:bS "tuple" "str" = false:=by decide
theorem tE:bS "dict" "str" = false:=by decide
theorem BL:tX "list" = true:=by decide
theorem lH:bS "NoneType" "list" = false:=by decide
theorem ra:bS "bool" "list" = false:=by decide
theorem tD:bS "int" "list" = false:=by decide
theorem uh:bS "str" "list" = false:=by decide
theorem qS:bS "list" "list" = true:=by decide
theorem oO:bS "tuple" "list" = false:=by decide
theorem qj:bS "dict" "list" = false:=by decide
theorem zW:tX "tuple" = true:=by decide
theorem kq:bS "NoneType" "tuple" = false:=by decide
theorem oH:bS "bool" "tuple" = false:=by decide
theorem rH:bS "int" "tuple" = false:=by decide
theorem qe:bS "str" "tuple" = false:=by decide
theorem oP:bS "list" "tuple" = false:=by decide
theorem mW:bS "tuple" "tuple" = true:=by decide
theorem oN:bS "dict" "tuple" = false:=by decide
theorem BQ:tX "dict" = true:=by decide
theorem lE:bS "NoneType" "dict" = false:=by decide
theorem rM:bS "bool" "dict" = false:=by decide
theorem rN:bS "int" "dict" = false:=by decide
theorem sY:bS "str" "dict" = false:=by decide
theorem qN:bS "list" "dict" = false:=by decide
theorem oX:bS "tuple" "dict" = false:=by decide
theorem q_:bS "dict" "dict" = true:=by decide
theorem Hz:asK H (.bl b) f=f "bool":=rfl
theorem Fy:asK H (.int i) f=f "int":=rfl
theorem F1:asK H (.str i) f=f "str":=rfl
theorem Fs:asK H .non f=f "NoneType":=rfl
def bM:Expr->Bool
 | .Starred _ _=>false
 |_=>true
theorem yR(h:bM e=true):starEach (e::es) env=(false,eval e env)::starEach es env:=by
 cases e <;> first|rfl|cases h
structure FA(X:Cx)(es:List Expr)(t:TA):Prop where
 pa:PA X es t
theorem cn:FA X [] kH:=⟨Fc⟩
theorem aZ(ha:PE X e te)(hr:FA X es t)(h:bM e=true:=by rfl):FA X (e::es) (cx te t):=⟨Ct ha hr.pa (yR h)⟩
theorem Cj{H:Hp}{P:Hp->Prop}:(∃G,Gc H G H/\P G)↔P H:=by
 constructor
 ·rintro⟨G,g,p⟩
  have e:G=H:=by
   funext b;cases h:H b with
   |none=>exact g.b.free h
   |some o=>exact g.a b o h
  rw[<- e];exact p
 ·exact fun p=>⟨H,Gc.refl,p⟩
theorem HM{CX:CXT}{P:Program}{w:World}{K:W.Frag}{mg:Str->Option Value}{base:Heap}{N:List Str}{qual:Str}{scope:Scope}{f:Addr}{cd:Value}{A:Around}{outer:List Env}{s:Shared}{H:Hp}{E:XK} :
 (cL CX P w K mg base N qual scope f cd A outer s H E).K=K:=rfl
def isI:V->Bool
 | .int _=>true
 |_=>false
def isS:V->Bool
 | .str _=>true
 |_=>false
theorem xP:Same H H↔True:=⟨fun _=>trivial,fun _=>Same.refl H⟩
theorem az(hN:NoT H)(d:iI o=true):NoT (upd H p o):=hN.upd d
theorem Cz:isI (.int i)=true:=rfl
theorem E8:isI (.bl i)=false:=rfl
theorem Ch:isI (.str i)=false:=rfl
theorem BZ:isI (.ref i)=false:=rfl
theorem De  : isI (.non)=false:=rfl
theorem CO:isS (.int i)=false:=rfl
theorem E2:isS (.bl i)=false:=rfl
theorem BY:isS (.str i)=true:=rfl
theorem BW:isS (.ref i)=false:=rfl
theorem CK  : isS (.non)=false:=rfl
theorem BB(h:xO H):NoT H:=fun b o e=>by
 rcases h b with z|⟨ob,xs,z⟩
 ·rw[e]at z;cases z
 ·rw[e]at z;cases z;rfl
def gcE(H:Hp)(E:XK):XK:=fun C d H'=>∃G,Gc H G H'/\E C d G
theorem Fun.okG{P:Program}{w:World}{K:W.Frag}{mg:Str->Option Value}{base:Heap}{x qual:Str}{st:Stmt}{f:Addr}{fd:FuncData}{N ps:List Str}{k:Nat}{sp:Sp}(F:Fun K x qual st f fd)(S:bf N ps (ae st))
 (len:∀vs H Q E,sp vs H Q E->vs.length=ps.length)
 (hbody:∀(cdv:Value) (A:Around) (outer:List Env) (s:Shared) (H:Hp) (vs:List V) (Q:VK) (E:XK),Room k (A.deeper (envOfC qual (ae st) s.heap.objs.size f cdv))->sp vs H Q E ->
  NoT H/\∃t,PSs (cL (XE P w) P w K mg base N qual (ae st) f cdv A outer s H (gcE H E)) (au st) t/\t { nx:=fun _ H'=>∃G,Gc H G H'/\Q .non G,rt:=fun v H'=>∃G,Gc H G H'/\Q v G } (eZ N vs) H):hV P w K mg base (XE P w) (k+1) f fd ps sp:=by
 have F':hV P w K mg base (XE P w) (k+1) f fd ps (fun vs H Q' E'=>∃Q E,sp vs H Q E/\Q'=(fun v H'=>∃G,Gc H G H'/\Q v G)/\E'=gcE H E):=by
  refine F.okX S (fun vs H Q' E' ⟨Q,E,h,_⟩=>len vs H Q E h) (fun cdv A outer s H vs Q' E' hr h=>?_);obtain⟨Q,E,h,rfl,rfl⟩:=h;exact(hbody cdv A outer s H vs Q E hr h).2
 refine⟨len,fun A outer s H args us vs Q E hr e0 hb r hsp=>?_⟩;have nT:NoT H:=by
  obtain⟨oc,od,kV,doc,pm,an,cdv,ct,osl,rfl,lk,hcd⟩:=F.ex;exact(hbody cdv A outer s H vs Q E (hr.deeper _) hsp).1
 refine codeAny_mono (F'.run A outer s H args us vs _ _ hr e0 hb r ⟨Q,E,hsp,rfl,rfl⟩) fun res s' h=>?_;cases res with
 |error e=>
  obtain⟨ea,C,rs,H',h1,h2,h3,un,hok,hrs,fly,G,g,q⟩:=h;exact⟨ea,C,rs,G,h1,h2,h3,un.gc g,HOk.gc nT e0.hok hok g,fun b hb=>⟨(hrs b hb).1,g.b.free (hrs b hb).2⟩,fly,q⟩
 |ok fl=>
  cases fl with
  |ret u=>
   obtain⟨v,H',h1,h2,un,hok,rv,G,g,q⟩:=h;exact⟨v,G,h1,h2,un.gc g,HOk.gc nT e0.hok hok g,rv,q⟩
  |next=>exact h
  |brk=>exact h
  |cont=>exact h
section
variable{K:W.Frag}{C D:Addr}{b:Bool}{cl:ClassData}
theorem xz(o:PySem.W.clsIn K D=some cl)(t:PySem.W.typeIn K (.ref D)=some (.type "type"))(m:Yo K C (.ref D)=some b):PySem.W.kitCls K (.ref C) (.ref D)=some b:=by
 unfold PySem.W.kitCls;simp only[o,t,Option.isSome_some,beq_self_eq_true,Bool.and_self,if_true];exact m
theorem yU(o:PySem.W.clsIn K D=some cl)(t:PySem.W.typeIn K (.ref D)=some (.type "type"))(s:Yo K D (.type "BaseException")=some true)(m:Yo K C (.ref D)=some b):qE K (.ref C) (.ref D)=some b:=by
 unfold qE;have e:PySem.W.subIn K (.ref D) (.type "BaseException")=some true:=s;rw[e,if_pos (by rfl)];exact xz o t m
end
theorem z9{l:PySem.W.OpenLaw}{n k:Nat}{q:Program}{loose:List Str}{XP:(Str->Option Value)->Heap->Prop}{YP:World->Heap->Prop}{d:DefRec}{K:Params->W.Frag}{sp:W.Frag->Sp}{x:Str}
 (hn:l.most=some n) (hn2:n<=sizeLine) (hdf:d.params.defaults=[]) (hr:Room k callerA)
 (hY:∀(w:World) (h:Heap),YP w h->(K w.params).In h)
 (F:∀(w:World) (mg:Str->Option Value) (fa:Addr) (h:Heap),(K w.params).In h->h.Ns Zb mg->mg d.name=some (.ref fa) ->
  ∃fd:FuncData,(∀(s:Shared) (u:Value),BindsTo s fd ⟨[u],[]⟩ [(x,u)]) /\
   ∀base:Heap,(K w.params).In base->base.Ns Zb mg->hV l.prog w (K w.params) mg base (XE l.prog w) k fa fd [x] (sp (K w.params)))
 (hsp:∀(K:W.Frag) (H:Hp) (a:Addr) (ns:List Int),ns.length<=n->xO H->SqL K H a (ns.map V.int)->sp K [.ref a] H (fun v _=>v = .bl true) fun _ _ _=>False) :
 PySem.W.WalkO q loose XP YP l.row.toRowW d [] (fun f vs=>PySem.call f vs):=
 CP (K:=K) (CX:=fun w=>XE l.prog w) (sp:=fun w=>sp (K w.params)) hn hn2 hdf hr hY F (fun w H a ns h1 h2 h3=>hsp (K w.params) H a ns h1 h2 h3) fun w H s e s' ⟨_,_,_,_,_,_,_,_,_,_,_,z⟩=>z
section
variable{prog:Program}{w:World}{A:Around}{R:Result->Shared->Prop}{s:Shared}
theorem qA(I:Nat->Shared->Prop)
 (turn:∀n s,I n s->wpAny (model prog w) A (pyNext it) (fun r s₁=>match r with
  |none=>R (.ok .next) s₁
  |some v=>wpAny (model prog w) A (YA target it v) (fun _ s₁'=>wpAny (model prog w) A (assign target env v) (fun _ s₂=>
   wpAny (model prog w) A (forIn ifs true fun c r=>if r=true then do let ok <- isTrue c env (eval c env);pure (ForInStep.yield ok) else pure (ForInStep.yield r)) (fun ok s₃=>
    if ok=true then wpAny (model prog w) A (eval elt env) (fun x s₄=>
     wpAny (model prog w) A (call (.builtin "list.append") [acc,x]) (fun _ s₅=>∃m,m<n/\I m s₅) (notedBy (model prog w) A env fun e s'=>R (.error e) s') s₄) (notedBy (model prog w) A env fun e s'=>R (.error e) s') s₃
    else ∃m,m<n/\I m s₃) (notedBy (model prog w) A env fun e s'=>R (.error e) s') s₂) (notedBy (model prog w) A env fun e s'=>R (.error e) s') s₁') (notedBy (model prog w) A env fun e s'=>R (.error e) s') s₁) (notedBy (model prog w) A env fun e s'=>R (.error e) s') s)
 (n:Nat) (h:I n s) :
 codeAny (model prog w) A (.compLoop (.ListComp elt [⟨target,iter,ifs,0⟩] scope pos) 0 it acc env) R s:=by
 refine codeAny_loop rfl I (fun n s hI=>?_) n h;show wpAny _ A ((compTurn (.ListComp elt [⟨target,iter,ifs,0⟩] scope pos) 0 it acc env).onRaise (fun x=>do noteFrame x env;theTreesLotGoes x)) _ _ s;refine wpAny_noted ?_;rw[compTurn_list];refine zw (YX (zw (uY (turn n s hI) (fun r s₁ h₁=>?_) fun _ _ h'=>h')));cases r with
 |none=>exact yt h₁
 |some v=>
  refine zw (uY h₁ (fun _ s₁' h₁'=>?_) fun _ _ h'=>h');refine zw (uY h₁' (fun _ s₂ h₂=>zw (uY h₂ (fun ok s₃ h₃=>?_) fun _ _ h'=>h')) fun _ _ h'=>h');cases ok with
  |false=>exact yt ⟨rfl,h₃⟩
  |true=>
   exact zw (zw (uY h₃ (fun x s₄ h₄=>zw (uY h₄ (fun _ s₅ h₅=>yt (yt ⟨rfl,h₅⟩)) fun _ _ h'=>h')) fun _ _ h'=>h'))
end
def c8(X:Cx)(N:List Str)(scope:Scope)(cl:List (Str × Addr))(C:Addr)(s₂:Shared)(H₂:Hp)(ex:List Addr)(pn:List (Addr × Obj)):Cx:=
 { X with N:=N,s₀:=s₂,H₀:=H₂,env:=compEnvC scope cl C X.env,outer:=X.stack,stack:=X.stack,ex:=ex,fn:=fun _=>false,pn:=pn,xe:=fun _ _=>False }
structure CompScope(X:Cx)(scope:Scope)(cl:List (Str × Addr))(x:Str)(fr:List Str):Prop where
 clos:closureFor scope X.env=pure cl
 nocell:∀y∈scope.names,y.2 ≠ .cell
 kind:scope.kind = .function
 names:∀y∈scope.names,y.2 = .local->scope.names.lookup y.1=some .local
 own:scope.names.lookup x=some .local
 keys:∀y∈cl,y.1∈fr
 cells:fr.map (fun y=>cl.lookup y)=fr.map (fun y=>X.env.cells.lookup y)
 kinds:∀y∈fr,X.env.kindOf y=some .cell\/X.env.kindOf y=some .free
 kin:∀y∈fr,(relabel scope X.env).names.lookup y=some .cell\/(relabel scope X.env).names.lookup y=some .free
 only:∀y,((relabel scope X.env).names.lookup y=some .cell\/(relabel scope X.env).names.lookup y=some .free)->y∈fr
theorem vy{α:Type}{l:List (Str × α)}{y:Str}{c:α}(h:l.lookup y=some c):(y,c)∈l:=ZP h
theorem CompScope.cell(S:CompScope X scope cl x fr)(h:y∈fr):cl.lookup y=X.env.cells.lookup y:=by
 have e:=S.cells;obtain⟨i,hi,rfl⟩:=List.getElem_of_mem h;have:=congrArg (fun l=>l[i]?) e
 simpa [hi] using this
theorem CompScope.sub{X:Cx}{scope:Scope}{cl:List (Str × Addr)}{x:Str}{fr:List Str}(S:CompScope X scope cl x fr){y:Str}{c:Addr}(h:cl.lookup y=some c):X.env.cells.lookup y=some c:=by
 rw[<- S.cell (S.keys _ (vy h))];exact h
def PTs(X:Cx)(ifs:List Expr)(t:TT):Prop:=
 ∀(pins:List (Addr × Obj)) (s:Shared) (σ:St) (H:Hp) (Q:Bool->Hp->Prop),Inv X pins σ H s->t σ H Q ->
  wpAny (model X.prog X.w) X.A (forIn ifs true fun c r=>if r=true then do let ok <- isTrue c X.env (eval c X.env);pure (ForInStep.yield ok) else pure (ForInStep.yield r)) (TP X pins σ Q) X.xe s
theorem dU:PTs X [] (fun _ H Q=>Q true H):=fun pins s σ H Q I h=>wpAny_tests_nil ⟨H,I,h⟩
theorem dv(h:PT X c t):PTs X [c] t:=fun pins s σ H Q I hw=>wpAny_tests_one (h pins s σ H Q I hw)
end L2
namespace MT
def dg(n:Nat):List Nat:=(Nat.toDigits 10 n).map Char.toNat
def isD(c:Nat):Bool:=decide (48<=c)&&decide (c<=57)
def vl(t:List Nat):Nat:=t.foldl (fun n c=>10*n+(c-48)) 0
def nin(t:List Nat):Nat:=t.foldl (fun n c=>if isD c then 10*n+(c-48) else n) 0
def pd:Nat->Nat->List Nat
 |0,_=>[]
 |k+1,m=>pd k (m / 10)++[48+m % 10]
end MT
namespace L2
open PySem PySem.Spec PyProof.Rows Builtin Builtin.Str
section
variable{X:Cx}{e a b c:Expr}{pos:Pos}
def gIn(neg:Bool):R2
 | .str i,.str j,H,Q=>(match cs i with
  | [c]=>Q (.bl (neg ^^ decide (c∈cs j))) H
  |_=>False)
 |_,_,_,_=>False
theorem uL{i:Str}{c:Nat}(h:cs i=[c]):i=⟨#[c]⟩:=by
 obtain⟨⟨l⟩⟩:=i;have h':l=[c]:=h;rw[h']
theorem D1:OpR X (uK .In) (gIn false):=ya.imp fun x y H Q h=>by
 unfold gIn at h;split at h
 ·split at h
  ·rename_i i j c hc
   refine⟨_,_,rfl,rfl,?_⟩;rw[uL hc,PySem.StrLaws.found_one]
   simpa [cs] using h
  ·exact h.elim
 ·exact h.elim
def gL(l:List Nat)(lo hi:Option Int):List Nat:=(l.drop (HT.sIx l.length 0 lo)).take (HT.sIx l.length l.length hi-HT.sIx l.length 0 lo)
def gSl:V->Option Int->Option Int->Hp->VK->Prop
 | .str y,lo,hi,H,Q=>(cs y).length<=sizeLine/\Q (T (gL (cs y) lo hi)) H
 |_,_,_,_,_=>False
theorem Fe(lo hi:Option Int)(n:Nat):YO lo hi 1 n=(Zi (HT.sIx n n hi-HT.sIx n 0 lo)).map (HT.sIx n 0 lo + ·):=by
 obtain⟨h1,h2,h3⟩:=j4 lo hi n;have e:YO lo hi 1 n=sliceRange (ZM lo hi none n).1 (ZM lo hi none n).2.1 1:=by
  unfold YO ZM;cases lo <;> cases hi <;> rfl
 rw[e,h1,h2,sliceRange_one]
theorem ym(y:Str)(lo hi:Option Int):V.str (Txt.slice y lo hi)=T (gL (cs y) lo hi):=by
 have hl:y.length=(cs y).length:=by simp[cs,ZF]
 have ha:HT.sIx y.length 0 lo<=y.length:=HT.sIx_le _ _ (xm _) lo;have hb:HT.sIx y.length y.length hi<=y.length:=HT.sIx_le _ _ (z5 _) hi;unfold Txt.slice;rw[Fe];split
 ·rename_i h
  simp only[beq_self_eq_true,Yn,zB,List.length_range,beq_iff_eq]at h;have e1:HT.sIx y.length 0 lo=0:=by lia
  have e2:HT.sIx y.length y.length hi=y.length:=by lia
  rw[HX]
  congr 3
  unfold gL;rw[<- hl,e1,e2,List.drop_zero,Nat.sub_zero,hl,sf]
 ·rw[pick_run]
  show V.str ⟨_⟩=V.str ⟨⟨_⟩⟩;unfold gL cs;rw[ZN]
  rfl
theorem oB:SlR X gSl:=by
 intro pins s σ H x v vl vu lo hi sl Q I rx hs pl pu h;unfold gSl at h;split at h
 ·rename_i y
  obtain⟨hz,q⟩:=h;obtain⟨t,rfl⟩:=rx;have hz':y.length<=sizeLine:=by simpa [cs,ZF] using hz
  refine⟨"str",_,F.slot_str_getitem.lookup,Y0 _ _ _,?_⟩;have fin:∀t' k,EP X pins σ Q (.str (Txt.slice y lo hi) t') { s with toks:=k }:=fun t' k=>⟨.str (Txt.slice y lo hi),H,I.tok _,⟨_,rfl⟩,by rw[ym];exact q⟩;cases pl with
  |none=>cases pu with
   |none=>exact Yg (l:=none) (u:=none) (st:=none) hs rfl (post_val_or_str ⟨xx (Txt.slice_le y _ _) hz',fin⟩)
   |int j u=>exact Yg (l:=none) (u:=some (j,u)) (st:=none) hs rfl (post_val_or_str ⟨xx (Txt.slice_le y _ _) hz',fin⟩)
  |int i u'=>cases pu with
   |none=>exact Yg (l:=some (i,u')) (u:=none) (st:=none) hs rfl (post_val_or_str ⟨xx (Txt.slice_le y _ _) hz',fin⟩)
   |int j u=>exact Yg (l:=some (i,u')) (u:=some (j,u)) (st:=none) hs rfl (post_val_or_str ⟨xx (Txt.slice_le y _ _) hz',fin⟩)
 ·exact h.elim
def gSt:V->List V->Hp->VK->Prop
 | .str x,[.str y],H,Q=>(match cs y with
  | [c]=>Q (.bl (decide ((cs x).head? = some c))) H
  |_=>False)
 |_,_,_,_=>False
def gEn:V->List V->Hp->VK->Prop
 | .str x,[.str y],H,Q=>(match cs y with
  | [c]=>Q (.bl (decide ((cs x).getLast? = some c))) H
  |_=>False)
 |_,_,_,_=>False
theorem Ek(x:Str)(c:Nat):(decide (0+(⟨#[c]⟩:Str).length<=x.length)&&Yt x ⟨#[c]⟩ (x.length-(⟨#[c]⟩:Str).length))=decide ((cs x).getLast? = some c):=by
 obtain⟨⟨l⟩⟩:=x;by_cases hl:l=[]
 ·subst hl;simp[ZF,cs,Yt]
 ·obtain⟨i,a,rfl⟩:∃i a,l=i++[a]:=⟨l.dropLast,l.getLast hl,(List.dropLast_concat_getLast hl).symm⟩
  have e:Yt ⟨⟨i++[a]⟩⟩ ⟨#[c]⟩ i.length=decide (a=c):=by
   simp[Yt,ZF];rw[Yy];simp
  have e2:(⟨⟨i++[a]⟩⟩:Str).length-(⟨#[c]⟩:Str).length=i.length:=by simp[ZF]
  rw[e2,e];simp[ZF,cs]
theorem rZ:MtR X "str.endswith" gEn:=by
 intro pins s σ H x xs v us Q I rx rs h;unfold gEn at h;split at h
 ·split at h
  ·rename_i c hc
   obtain⟨t,rfl⟩:=rx;obtain⟨u,rfl,t',rfl⟩:=eS rs;rw[uL hc];refine call_meets F.slot_str_endswith (Y0 _ _ _) F.entry_str_endswith (F.args_str_endswith_2 _ _) (gives_str_endswith _ ⟨#[c]⟩ t t').meets ?_;exact⟨.bl _,H,I,rfl,by rw[Ek];exact h⟩
  ·exact h.elim
 ·exact h.elim
def Ia:V->List V->Hp->VK->Prop
 | .str x,[.str y],H,Q=>(match cs y with
  | [c]=>c∈cs x/\∀i:Nat,(cs x)[i]? = some c->Q (.int i) H
  |_=>False)
 |_,_,_,_=>False
def AR:List V->Hp->VK->Prop
 | [.int i],H,Q=>Q (.int i) H
 | [.bl k],H,Q=>Q (.int (if k then 1 else 0)) H
 | [.str x],H,Q=>((cs x)≠[]/\(∀c∈cs x,MT.isD c=true)/\(cs x).length<=640)/\Q (.int (MT.vl (cs x))) H
 |_,_,_=>False
theorem oQ:CallR X (.type "int") (fun xs H Q=>∃x,xs=[.str x]/\((cs x)≠[]/\(∀c∈cs x,MT.isD c=true)/\(cs x).length<=640)/\Q (.int (MT.vl (cs x))) H):=by
 intro pins s σ H xs us Q I r h;obtain⟨x,rfl,⟨h0,hd,hl⟩,q⟩:=h;obtain⟨u,rfl,t,rfl⟩:=eS r;have hl':x.length<=640:=by simpa [cs,ZF] using hl
 have e:PySem.NumText.digitsVal x.cps.toList=MT.vl (cs x):=by
  unfold PySem.NumText.digitsVal MT.vl cs
  congr 1
  funext a c;lia
 have hn:intText? x=some ((MT.vl (cs x):Nat):Int):=by
  rw[PySem.intText_digits (fun c hc=>by have:=hd c hc;simpa [MT.isD] using this) h0 (by lia),e]
 exact PySem.W.KIN.call_text hn hl' ⟨.int _,H,I.tok _,⟨_,rfl⟩,q⟩
theorem Cc:CallR X (.type "int") AR:=(yC.or oQ).imp fun xs H Q h=>by
 unfold AR at h;split at h
 ·exact .inl (.inl ⟨_,rfl,h⟩)
 ·exact .inl (.inr ⟨_,rfl,h⟩)
 ·exact .inr ⟨_,rfl,h.1,h.2⟩
 ·exact h.elim
end
end L2
namespace L2
open PySem PySem.Spec PyProof.Rows
def Its(x:Str):It:=⟨fun i _=>i<x.cps.size,fun i H v H'=>H'=H/\∃c,x.cps[i]? = some c/\v = .str ⟨#[c]⟩,fun i _=>x.cps.size<=i⟩
theorem BE{P:Program}{w:World}{K:W.Frag}{tg:Expr}(x:Str)(t:Tok)(it:Addr):uH P w K tg (Its x) [it] it (fun i h=>h.IsStrIter it "str_ascii_iterator" x t i) where
 mem:=by simp
 obj:=fun i h st b hb=>by
  have e:b=it:=by simpa using hb
  subst e;obtain⟨o,e,c,d⟩:=st;exact⟨o,e,fun v z=>by rw[d]at z;cases z⟩
 keep:=fun i h h' st k=>by
  obtain⟨o,e,c,d⟩:=st;exact⟨o,k it (by simp) o e,c,d⟩
 item:=by
  intro X hP hw hK hc i pins s σ H E I hf st hg;subst hP hw hK;have hg':i<x.cps.size:=hg;obtain⟨f0,f1,f2,f3,f4,f5⟩:=hf it (by simp);have hx:x.cps[i]? = some x.cps[i]:=by simp[hg']
  refine wpAny_pyNext_ascii_item st hx fun h' st' sb=>?_;have I1:Inv X pins σ H { s with heap:=h',toks:=s.toks+1 }:=I.turned (fun b o hb e=>(sb.2 b hb).trans e) f0 f1 f3 f4 f5;obtain⟨o,e,c,d⟩:=id st';exact⟨_,rfl,lM (s:={ s with heap:=h',toks:=s.toks+1 }) e c d (by decide) ⟨.str ⟨#[x.cps[i]]⟩,H,I1,⟨_,rfl⟩,⟨rfl,_,hx,rfl⟩,st',fun b hb=>(hf b hb).1⟩⟩
 done:=by
  intro X hP hw hK hc i pins s σ H E I hf st hg;subst hP hw hK;have hg':x.cps.size<=i:=hg;obtain⟨f0,f1,f2,f3,f4,f5⟩:=hf it (by simp);have hx:x.cps[i]? = none:=by simp[hg']
  exact wpAny_pyNext_ascii_end (I.ok.hd hc) st hx fun h' eb=>⟨rfl,I.turned (fun b o hb e=>eb b o hb e) f0 f1 f3 f4 f5⟩
 self:=fun _ _ _ _ _ st h=>wpAny_pyIter_striter_ascii st h
def Hj(tl:TE):TI:=fun σ H R=>tl σ H fun v H1=>match v with
 | .str x=>(∀c∈cs x,c<128)/\R (Its x) H1
 |_=>False
theorem AA{X:Cx}{tg l:Expr}{tl:TE}(hl:PE X l tl):PI X tg l (Hj tl):=by
 intro pins s σ H R I h;refine thn (hl pins s σ H _ I h) fun v s1 ⟨y,H1,I1,r1,q⟩=>?_;dsimp only at q;split at q
 ·rename_i x
  obtain⟨ha,q⟩:=q;obtain⟨t,rfl⟩:=r1;have ha':x.cps.all (· < 128)=true:=by
   rw[Array.all_eq_true];intro i hi;exact decide_eq_true (ha _ (by unfold cs;rw[Array.mem_toList_iff];exact Array.getElem_mem hi))
  refine wpAny_pyIter_ascii ha' ?_;refine⟨s1.heap.objs.size,[s1.heap.objs.size],_,_,H1,rfl,I1.kept (t':=s1.toks) fun b o e=>Heap.get?_push_of_some _ e,BE x t _,⟨_,Heap.get?_push_size _ rfl,rfl,rfl⟩,fun b hb=>?_,q⟩;have e:b=s1.heap.objs.size:=by simpa using hb
  subst e;exact I1.fpOk (z5 _) (I1.hok.fresh (z5 _))
 ·exact q.elim
section
variable{X:Cx}
theorem m6:∀ {bs:List Bool} {us:List Value},Vals (bs.map V.bl) us->LSm.BoolsAre us bs
 | [],_,.nil=>.nil
 |b::r,_,.cons e t=>by
  cases (show _=YN b from e);exact .cons b (m6 t)
def ET(K:W.Frag):List V->Hp->VK->Prop
 | [.ref p],H,Q=>∃bs:List Bool,SqL K H p (bs.map V.bl)/\Q (.bl (bs.all id)) H
 |_,_,_=>False
theorem qM(K:W.Frag)(hc:X.calm=true)(hK:X.K=K:=by rfl):CallR X (.builtin "all") (ET K):=by
 subst hK;intro pins s σ H xs us Q I r h;unfold ET at h;split at h
 ·rename_i p
  obtain⟨bs,hq,q⟩:=h;obtain⟨u,rfl,rx⟩:=eS r;cases (show u=yX p from rx);obtain⟨its,rv,pl,hz⟩:=I.list hq;have hne:p≠s.heap.objs.size:=ui (by obtain⟨_,e,_⟩:=pl.isList;exact y3 e);have hb:LSm.BoolsAre its bs:=m6 rv;refine call_all_walk (YV pl.isList ?_);refine⟨s.heap.objs.size,[s.heap.objs.size,p],[s.heap.objs.size],its.toArray.size,_,_,fun i=>(bs[i]?).getD true,rfl,Walks.list (A:=X.A.in1) (I.ok.hd hc) _ p hne its.toArray,
   ⟨⟨_,Heap.get?_push_size _ rfl,rfl,rfl⟩,pl.isList.push _⟩,fun i v s' Q' E' hP hQ=>?_,fun h' tk hk=>?_⟩
  ·obtain⟨b,e,rfl⟩:=hb.get i v (by simpa using hP)
   simp only[e,Option.getD_some]at hQ;exact sS hQ
  ·have e:((Zi its.toArray.size).all fun i=>(bs[i]?).getD true)=bs.all id:=by
    rw[yp,hb.length];exact LSm.range_all bs
   rw[e];exact⟨.bl (bs.all id),H,I.kept (LSm.kept_iter hk),rfl,q⟩
 ·exact h.elim
end
end L2
namespace L2
open PySem PySem.Spec PyProof.Rows Builtin Builtin.Str
def cq(sep:List Nat):List (List Nat)->List Nat
 | []=>[]
 | [x]=>x
 |x::y::r=>x++sep++cq sep (y::r)
def S(l:List Nat):Str:=⟨⟨l⟩⟩
theorem px(sep:List Nat):∀(r:List (List Nat)) (x:List Nat),((r.map S).foldl (fun acc p=>acc++(S sep).cps++p.cps) (S x).cps)=(S (cq sep (x::r))).cps
 | [],x=>rfl
 |y::r,x=>by
  rw[yF,List.foldl_cons];have e:(S x).cps++(S sep).cps++(S y).cps=(S (x++sep++y)).cps:=by
   apply Array.ext';simp[S]
  rw[e,px sep r]
  congr 1
  cases r with
  |nil=>rfl
  |cons z r'=>unfold cq;simp[cq,YR]
theorem wI(sep:List Nat)(ls:List (List Nat)):Txt.join (S sep) (ls.map S)=S (cq sep ls):=by
 unfold Txt.join glued;cases ls with
 |nil=>rfl
 |cons x r=>
  show(⟨((x::r).map S).drop 1 |>.foldl _ _⟩:Str)=_;rw[yF,List.drop_one,List.tail_cons,List.headD_cons,px]
theorem wk:∀ {ls:List (List Nat)} {us:List Value},Vals (ls.map T) us->StrsAre us (ls.map S)
 | [],_,.nil=>.nil
 |l::r,_,.cons e t=>by
  obtain⟨k,rfl⟩:=e;exact .cons _ k (wk t)
def CL(sep:List Nat)(ls:List (List Nat)):Prop:=(ls.map Y8).sum+ls.length*sep.length<=16777216
theorem B4(h:CL sep ls):(((ls.map S).map (·.length)).sum+(ls.map S).length*(S sep).length<=16777216):=by
 have e:(ls.map S).map (·.length)=ls.map Y8:=by rw[uR];apply r6;intro l _;rfl
 rw[e,zB];exact h
section
variable{X:Cx}
def DU(K:W.Frag):V->List V->Hp->VK->Prop
 | .str x,[.ref p],H,Q=>∃ls:List (List Nat),SqL K H p (ls.map T)/\CL (cs x) ls/\Q (T (cq (cs x) ls)) H
 |_,_,_,_=>False
theorem A7(K:W.Frag)(hK:X.K=K:=by rfl):MtR X "str.join" (DU K):=by
 subst hK;intro pins s σ H x xs v us Q I rx rs h;unfold DU at h;split at h
 ·rename_i y p
  obtain⟨ls,hq,hf,q⟩:=h;obtain⟨t,rfl⟩:=rx;obtain⟨u,rfl,ru⟩:=eS rs;cases (show u=yX p from ru);obtain⟨its,rv,pl,hz⟩:=I.list hq;refine join_list pl.isList (wk rv) (B4 hf) fun t' k=>?_;exact⟨.str (Txt.join y (ls.map S)),H,I.tok _,⟨_,rfl⟩,by rw[show y=S (cs y) from rfl,wI];exact q⟩
 ·exact h.elim
end
end L2
namespace PySem
open Sem (wp)
open Builtin Builtin.Str Builtin.Int
namespace F
end F
section
variable{prog:Program}{w:World}{A:Around}{E:Value->Shared->Prop}{s:Shared}{I:Addr}{fp wr:List Addr}{G:Array GenState->Array GenState->Prop}{n:Nat}{P:Nat->Value->Prop}{St:Nat->Shared->Prop}
end
end PySem
namespace L2
open PySem PySem.Spec PyProof.Rows Builtin Builtin.Str
section
variable{X:Cx}{o e:Expr}{to te:TE}{apos cpos p pos:Pos}
end
section
variable{X:Cx}
structure Ej(J:It)(vs:List V):Prop where
 go:∀i H,i<vs.length->J.go i H
 yld:∀i H x H',i<vs.length->J.yld i H x H'->H'=H/\vs[i]? = some x
 stop:∀H,J.stop vs.length H
theorem AM(l:List Nat):Ej (Its ⟨⟨l⟩⟩) (l.map fun c=>T [c]):=by
 refine⟨fun i H h=>by simpa [Its] using h,fun i H x H' _ y=>?_,fun H=>by simp[Its]⟩;obtain⟨e,c,hc,rfl⟩:=y;refine⟨e,?_⟩;have:l[i]? = some c:=by simpa using hc
 rw[List.getElem?_map,this];rfl
theorem p8{J:It}{vs:List V}(E:Ej J vs){σ':St}{H1:Hp}{Q:VK}{tt:TT}{te:TE}(C:Hp->Prop)(p:V->Bool)(f:V->V)(hlen:vs.length<=sizeLine)
 (hp:∀x∈vs,∀H (R:Bool->Hp->Prop),C H->R (p x) H->tt (some x::σ') H R) (hf:∀x∈vs,p x=true->∀H (R:VK),C H->R (f x) H->te (some x::σ') H R)
 (D:Addr) (hD:H1 D=none) (hC:∀ys,C (upd H1 D (.lst ys))) (q:Q (.ref D) (upd H1 D (.lst ((vs.filter p).map f)))) :
 ∃W:Nat->Nat->List V->Hp->Prop,(∃m,W 0 m [] (upd H1 D (.lst []))) /\
  ∀i m ys H2,W i m ys H2->H2 D=some (.lst ys)/\((J.stop i H2/\Q (.ref D) H2)\/(J.go i H2/\∀x H3,J.yld i H2 x H3 ->
   tt (some x::σ') H3 fun b H4=>if b=true then te (some x::σ') H4 fun y H5=>H5 D=some (.lst ys)/\ys.length<sizeLine/\∃m',m'<m/\W (i+1) m' (ys++[y]) (upd H5 D (.lst (ys++[y])))
    else ∃m',m'<m/\W (i+1) m' ys H4)):=by
 refine⟨fun i m ys H2=>m=vs.length-i/\i<=vs.length/\ys=((vs.take i).filter p).map f/\H2=upd H1 D (.lst ys),⟨vs.length,by simp,xm _,by simp,rfl⟩,?_⟩;rintro i m ys H2 ⟨rfl,hi,hys,rfl⟩;refine⟨ad,?_⟩;by_cases hlt:i<vs.length
 ·refine .inr ⟨E.go i _ hlt,fun x H3 y=>?_⟩
  obtain⟨e,hx⟩:=E.yld i _ x H3 hlt y;subst e;have hm:x∈vs:=yO hx;have htk:vs.take (i+1)=vs.take i++[x]:=by
   rw[Z4,hx];rfl
  have hyl:ys.length<=i:=by
   rw[hys,zB];exact xx (qZ _ _) (by simp[vm];lia)
  refine hp x hm _ _ (hC _) ?_;cases hb:p x with
  |true=>
   rw[if_pos rfl];refine hf x hm hb _ _ (hC _) ⟨ad,by lia,vs.length-(i+1),by lia,rfl,hlt,?_,?_⟩
   ·rw[htk,Zm,vx,<- hys]
    simp[hb]
   ·funext z
    by_cases hz:z=D
    ·subst hz;rw[ad,ad]
    ·rw[ah hz,ah hz,ah hz]
  |false=>
   rw[if_neg y9];refine⟨vs.length-(i+1),by lia,rfl,hlt,?_,rfl⟩;rw[htk,Zm,vx,<- hys];simp[hb]
 ·have e:i=vs.length:=by lia
  subst e;refine .inl ⟨E.stop _,?_⟩;rw[sf]at hys;rw[hys];exact q
end
theorem SqL.same{K:W.Frag}{H H':Hp}{a:Addr}{xs:List V}(s:Same H H')(h:SqL K H a xs):SqL K H' a xs:=by
 rcases h with (h|⟨o,h⟩)|h
 ·exact .inl (.inl (s _ _ h))
 ·exact .inl (.inr ⟨o,s _ _ h⟩)
 ·exact .inr h
theorem pO:bO (XE P w) X (fun _ _ _ _=>False):=fun _ _ _ _ _ _ _ ⟨_,_,_,_,_,_,_,_,_,_,_,q⟩=>q.elim
def za:Option NameKind->Bool
 |some .cell=>true
 |some .free=>true
 |_=>false
theorem rP:za k=true↔(k=some .cell\/k=some .free):=by
 cases k with
 |none=>simp[za]
 |some k=>cases k <;> simp[za]
theorem br{cl:List (Str × Addr)}{fr:List Str}(h:(cl.map (·.1)).all (fun y=>fr.elem y)=true):∀y∈cl,y.1∈fr:=fun y hy=>by
 have:=Zj.mp h y.1 (xp hy)
 simpa using this
theorem aK{fr:List Str}{k:Str->Option NameKind}(h:fr.all (fun y=>za (k y))=true):∀y∈fr,k y=some .cell\/k y=some .free:=fun y hy=>rP.mp (Zj.mp h y hy)
theorem bv{names:List (Str × NameKind)}{fr:List Str}(h:names.all (fun p=>!za (some p.2) || fr.elem p.1)=true):∀y,(names.lookup y=some .cell\/names.lookup y=some .free)->y∈fr:=fun y hy=>by
 have hy':=rP.mpr hy;cases e:names.lookup y with
 |none=>rw[e]at hy';cases hy'
 |some k=>
  rw[e]at hy';have:=Zj.mp h (y,k) (ZP e)
  simpa [hy'] using this
section
variable{X:Cx}{pos:Pos}
theorem Em(I:Inv X pins σ H s):ZW<s.heap.objs.size:=
 Nat.lt_trans (by decide) (show Zb<s.heap.objs.size from(I.mod.glob.keeps I.bk).lt)
def DY:TE:=fun _ H Q=>∀p,H p=none->Q (.ref p) (upd H p (.dK []))
theorem qP:PE X (.Dict [] [] pos) DY:=by
 intro pins s σ H Q I h;have new:ObjOk X.prog X.w (upd H s.heap.objs.size (.dK [])) (s.heap.push { cls:=.type "dict",data:=.dict #[] }) s.heap.objs.size (.dK []):=
  ⟨xm _,beq_eq_false_iff_ne.mpr (Ne.symm (ui (Em I))),[],.nil,Heap.DictOf.new s.heap⟩
 exact wpAny_Dict_empty ⟨.ref s.heap.objs.size,_,I.laid (t':=s.toks) (fun _ _ q=>Heap.get?_push_of_some _ q) (z5 _) new,rfl,h _ (I.hok.fresh (z5 _))⟩
end
section
variable{X:Cx}
structure DX(C:Hp->Prop)(J:It)(vs:List V):Prop where
 go:∀i H,C H->i<vs.length->J.go i H
 yld:∀i H x H',C H->i<vs.length->J.yld i H x H'->H'=H/\vs[i]? = some x
 stop:∀H,C H->J.stop vs.length H
theorem uI{J:It}{vs:List V}{σ':St}{H1:Hp}{Q:VK}{tt:TT}{te:TE}(C:Hp->Prop)(E:DX C J vs)(p:V->Bool)(f:V->V)(hlen:vs.length<=sizeLine)
 (hp:∀x∈vs,∀H (R:Bool->Hp->Prop),C H->R (p x) H->tt (some x::σ') H R) (hf:∀x∈vs,p x=true->∀H (R:VK),C H->R (f x) H->te (some x::σ') H R)
 (D:Addr) (hD:H1 D=none) (hC:∀ys,C (upd H1 D (.lst ys))) (q:Q (.ref D) (upd H1 D (.lst ((vs.filter p).map f)))) :
 ∃W:Nat->Nat->List V->Hp->Prop,(∃m,W 0 m [] (upd H1 D (.lst []))) /\
  ∀i m ys H2,W i m ys H2->H2 D=some (.lst ys)/\((J.stop i H2/\Q (.ref D) H2)\/(J.go i H2/\∀x H3,J.yld i H2 x H3 ->
   tt (some x::σ') H3 fun b H4=>if b=true then te (some x::σ') H4 fun y H5=>H5 D=some (.lst ys)/\ys.length<sizeLine/\∃m',m'<m/\W (i+1) m' (ys++[y]) (upd H5 D (.lst (ys++[y])))
    else ∃m',m'<m/\W (i+1) m' ys H4)):=by
 refine⟨fun i m ys H2=>m=vs.length-i/\i<=vs.length/\ys=((vs.take i).filter p).map f/\H2=upd H1 D (.lst ys),⟨vs.length,by simp,xm _,by simp,rfl⟩,?_⟩;rintro i m ys H2 ⟨rfl,hi,hys,rfl⟩;refine⟨ad,?_⟩;by_cases hlt:i<vs.length
 ·refine .inr ⟨E.go i _ (hC _) hlt,fun x H3 y=>?_⟩
  obtain⟨e,hx⟩:=E.yld i _ x H3 (hC _) hlt y;subst e;have hm:x∈vs:=yO hx;have htk:vs.take (i+1)=vs.take i++[x]:=by
   rw[Z4,hx];rfl
  have hyl:ys.length<=i:=by
   rw[hys,zB];exact xx (qZ _ _) (by simp[vm];lia)
  refine hp x hm _ _ (hC _) ?_;cases hb:p x with
  |true=>
   rw[if_pos rfl];refine hf x hm hb _ _ (hC _) ⟨ad,by lia,vs.length-(i+1),by lia,rfl,hlt,?_,?_⟩
   ·rw[htk,Zm,vx,<- hys]
    simp[hb]
   ·funext z
    by_cases hz:z=D
    ·subst hz;rw[ad,ad]
    ·rw[ah hz,ah hz,ah hz]
  |false=>
   rw[if_neg y9];refine⟨vs.length-(i+1),by lia,rfl,hlt,?_,rfl⟩;rw[htk,Zm,vx,<- hys];simp[hb]
 ·have e:i=vs.length:=by lia
  subst e;refine .inl ⟨E.stop _ (hC _),?_⟩;rw[sf]at hys;rw[hys];exact q
theorem zX{K:W.Frag}{C:Hp->Prop}{a:Addr}{vs:List V}(h:∀H,C H->SqL K H a vs):DX C (Itl K a) vs:=
 ⟨fun i H c hi=>⟨vs,vs[i],h H c,List.getElem?_eq_getElem hi⟩,fun i H x H' c _ y=>⟨y.1,y.2 vs (h H c)⟩,fun H c=>⟨vs,h H c,z5 _⟩⟩
end
end L2
namespace L2
open PySem PySem.Spec PyProof.Rows
section
variable{X:Cx}{K:W.Frag}{pos:Pos}
theorem kh(K:W.Frag)(hc:X.calm=true)(h:PGs X es t)(hK:X.K=K:=by rfl)
 (hn:(Yp es X.env).length=n:=by rfl) (hst:(Yp es X.env).findIdx? (·.1)=none:=by rfl):PG X (.Tuple es k pos) (FH K n t):=by
 subst hK;exact Fn hc h hn hst
end
section
variable{X:Cx}{T name id:String}{r:V->List V->Hp->VK->Prop}{o e:Expr}{es:List Expr}{to:TE}{t:TA}{apos cpos:Pos}
theorem eA(K:W.Frag)(pa:PlainAttrs T)(slot:Slot T name id)(hty:typeOf (.builtin id)=pure (.type "method_descriptor"))(hm:MtR X id r)(ho:PE X o to)(ha:PA X (e::es) t)(hK:X.K=K:=by rfl)
 (hbase:YF o name X.env (eval o X.env)=eval o X.env:=by rfl)
 (hfew:((backTo cpos (starEach (e::es) X.env)).all (fun x=>!x.1)&&(backToKw cpos (YM [] X.env)).all (fun x=>x.1.isSome)
  && decide ((e::es).length+([]:List Keyword).length+(if ([]:List Keyword).isEmpty then 0 else 1)<30))=true:=by rfl)
 (hline:(apos.endLine==cpos.line)=true:=by rfl) (hs:starEach (e::es) X.env=(false,eval e X.env)::starEach es X.env:=by rfl) (hplain:(backTo cpos (starEach es X.env)).any (·.1)=false:=by rfl) :
 PE X (.Call (.Attribute o name apos) (e::es) [] cpos) (tBM K T r to t):=by
 subst hK;exact GN pa slot hty hm ho ha hbase hfew hline hs hplain
end
section
variable{K:W.Frag}{tl:TE}{ks:List Nat}{σ:St}{H:Hp}{Q:VK}{tt:TT}{te:TE}
end
end L2
namespace L2
end L2
namespace L2
open PySem PySem.Spec PyProof.Rows Builtin Builtin.Str
def spN(c:Nat):List Nat->List (List Nat)
 | []=>[[]]
 |a::r=>if a=c then []::spN c r else match spN c r with
  |h::t=>(a::h)::t
  | []=>[[a]]
theorem jE(c:Nat):∀l,spN c l≠[]
 | []=>by simp[spN]
 |a::r=>by
  unfold spN;split
  ·simp
  ·split <;> simp
theorem jW(c:Nat):∀l:List Nat,c∉l->spN c l=[l]
 | [],_=>rfl
 |a::r,h=>by
  have h1:¬ a=c:=fun z=>h (by rw[z];simp);have h2:c∉r:=fun z=>h (xC _ z);unfold spN;rw[if_neg h1,jW c r h2]
theorem wq(c:Nat):∀(l r:List Nat),c∉l->spN c (l++c::r)=l::spN c r
 | [],r,_=>by simp[spN]
 |a::l,r,h=>by
  have h1:¬ a=c:=fun z=>h (by rw[z];simp);have h2:c∉l:=fun z=>h (xC _ z);rw[ZU];show(if a=c then _ else _)=_;rw[if_neg h1,wq c l r h2]
theorem mZ(c:Nat):∀ps:List (List Nat),ps≠[]->(∀p∈ps,c∉p)->spN c (cq [c] ps)=ps
 | [],h,_=>absurd rfl h
 | [p],_,h=>jW c p (h p (by simp))
 |p::q::r,_,h=>by
  rw[cq,YR,List.singleton_append,wq c p _ (h p (by simp)),mZ c (q::r) (by simp) fun x hx=>h x (xC _ hx)]
theorem nV(c:Nat):∀l:List Nat,cq [c] (spN c l)=l
 | []=>rfl
 |a::r=>by
  have ih:=nV c r;unfold spN;split
  ·rename_i e
   cases es:spN c r with
   |nil=>exact absurd es (jE c r)
   |cons h t=>rw[es]at ih;rw[cq,ih,e];rfl
  ·cases es:spN c r with
   |nil=>exact absurd es (jE c r)
   |cons h t=>
    rw[es]at ih;cases t with
    |nil=>simp[cq]at ih |-; exact ih
    |cons h2 t=>rw[cq]at ih |-; rw[<- ih];simp
theorem iS(c:Nat):∀(l:List Nat),∀p∈spN c l,c∉p
 | [],p,hp=>by simp[spN]at hp;rw[hp];simp
 |a::r,p,hp=>by
  unfold spN at hp;split at hp
  ·rcases z6.mp hp with h|h
   ·rw[h];simp
   ·exact iS c r p h
  ·rename_i hne
   split at hp
   ·rename_i h t es
    rcases z6.mp hp with e|e
    ·rw[e]
     have:=iS c r h (by rw[es];simp);simp only[z6,not_or];exact⟨fun z=>hne z.symm,this⟩
    ·exact iS c r p (by rw[es];exact xC _ e)
   ·rename_i es;exact absurd es (jE c r)
theorem mP(c:Nat):∀l:List Nat,(spN c l).length<=l.length+1
 | []=>by simp[spN]
 |a::r=>by
  have ih:=mP c r;unfold spN;split
  ·simp;lia
  ·split
   ·rename_i es;rw[es]at ih;simp at ih |-; lia
   ·simp
theorem kg(c:Nat):∀l:List Nat,∀p∈spN c l,p.length<=l.length/\∀d∈p,d∈l
 | [],p,hp=>by simp[spN]at hp;rw[hp];simp
 |a::r,p,hp=>by
  unfold spN at hp;split at hp
  ·rcases z6.mp hp with h|h
   ·rw[h];simp
   ·obtain⟨h1,h2⟩:=kg c r p h
    exact⟨by rw[vq];lia,fun d hd=>xC _ (h2 d hd)⟩
  ·split at hp
   ·rename_i h t es
    rcases z6.mp hp with e|e
    ·obtain⟨h1,h2⟩:=kg c r h (by rw[es];simp)
     rw[e];refine⟨by rw[vq,vq];lia,fun d hd=>?_⟩;rcases z6.mp hd with z|z
     ·rw[z];simp
     ·exact xC _ (h2 d z)
    ·obtain⟨h1,h2⟩:=kg c r p (by rw[es];exact xC _ e)
     exact⟨by rw[vq];lia,fun d hd=>xC _ (h2 d hd)⟩
   ·rename_i es;exact absurd es (jE c r)
theorem zH(x y:Str):Txt.split x y≠[]:=by
 unfold Txt.split;split
 ·simp
 ·split
  ·simp
  ·rw[StrLaws.partsBetween_eq]
   obtain⟨p,r,e⟩:=StrLaws.partsFrom_ne x y.length 0 (occurrences x y 0 x.length (x.length+1));rw[e];simp
theorem zx(l:List Nat)(c:Nat):(Txt.split ⟨⟨l⟩⟩ ⟨#[c]⟩).map (fun x=>cs x)=spN c l:=by
 have h1:=StrLaws.join_split ⟨⟨l⟩⟩ ⟨#[c]⟩;have h2:=StrLaws.split_free ⟨⟨l⟩⟩ c;have h0:=zH ⟨⟨l⟩⟩ ⟨#[c]⟩;generalize Txt.split ⟨⟨l⟩⟩ ⟨#[c]⟩=ps at h0 h1 h2;have hj:cq [c] (ps.map fun x=>cs x)=l:=by
  have e:ps=(ps.map fun x=>cs x).map S:=by
   rw[uR]
   conv=>lhs;rw[<- Y7 ps]
   apply r6;intro x _;rfl
  rw[e]at h1;have h3:Str.join (S [c]) ((ps.map fun x=>cs x).map S)=S (cq [c] (ps.map fun x=>cs x)):=by
   have:=wI [c] (ps.map fun x=>cs x);exact(StrLaws.glued_eq_join _ _).symm.trans this
  have h4:S (cq [c] (ps.map fun x=>cs x))=⟨⟨l⟩⟩:=h3.symm.trans h1;have h5:=congrArg cs h4;exact h5
 have hne:(ps.map fun x=>cs x)≠[]:=by
  intro z;exact h0 (List.map_eq_nil_iff.mp z)
 rw[<- hj,mZ c _ hne];intro p hp;obtain⟨x,hx,rfl⟩:=yb.mp hp;exact h2 x hx
section
variable{X:Cx}{e a b c:Expr}{pos:Pos}
def EH:V->List V->Hp->VK->Prop
 | .str x,[.str y],H,Q=>(∃c,cs y=[c]/\(cs x).length+2<=sizeLine/\∀p,H p=none->Q (.ref p) (upd H p (.lst ((spN c (cs x)).map T))))
 |_,_,_,_=>False
theorem pj:∀(l:List (Str × Tok)),Vals (l.map fun p=>V.str p.1) (strValues l)
 | []=>.nil
 |p::r=>.cons ⟨p.2,rfl⟩ (pj r)
theorem on:MtR X "str.split" EH:=by
 intro pins s σ H x xs v us Q I rx rs h;unfold EH at h;split at h
 ·rename_i x y
  obtain⟨c,hc,hz,q⟩:=h;obtain⟨t,rfl⟩:=rx;obtain⟨u,rfl,t',rfl⟩:=eS rs;have hy:=uL hc;subst hy;obtain⟨⟨l⟩⟩:=x;have hx:(⟨⟨l⟩⟩:Str).length+2<=sizeLine:=hz;have fin:∀(l':List (Str × Tok)) (k:Nat),l'.map (·.1)=Txt.split ⟨⟨l⟩⟩ ⟨#[c]⟩->EP X pins σ Q (.ref s.heap.objs.size) { s with toks:=k,heap:=s.heap.push { cls:=.type "list",data:=.seq (strValues l').toArray } }:=fun l' k hl=>by
   have e:(spN c l).map T=l'.map fun p=>V.str p.1:=by
    rw[<- zx,<- hl,uR,uR];apply r6;intro p _;rfl
   have hlen:((spN c l).map T).length<=sizeLine:=by
    rw[zB];have:=mP c l;have hz':l.length+2<=sizeLine:=hz;lia
   have hv:Vals ((spN c l).map T) (strValues l'):=by rw[e];exact pj l'
   exact⟨.ref s.heap.objs.size,_,I.lnew (t':=k) hv hlen,rfl,q _ I.fresh⟩
  have hn:(partsBetween ⟨⟨l⟩⟩ (occurrences ⟨⟨l⟩⟩ ⟨#[c]⟩ 0 (⟨⟨l⟩⟩:Str).length ((⟨⟨l⟩⟩:Str).length+1)) (⟨#[c]⟩:Str).length).length<=sizeLine:=by
   have e1:=StrLaws.occ_length_le ⟨⟨l⟩⟩ ⟨#[c]⟩ 0 (⟨⟨l⟩⟩:Str).length ((⟨⟨l⟩⟩:Str).length+1);rw[length_partsBetween];lia
  have hy:((⟨#[c]⟩:Str).length==0)=false:=rfl;cases h1:(decide ((⟨⟨l⟩⟩:Str).length<(⟨#[c]⟩:Str).length) || decide (strKind ⟨⟨l⟩⟩<strKind ⟨#[c]⟩))
  ·cases hf:(occurrences ⟨⟨l⟩⟩ ⟨#[c]⟩ 0 (⟨⟨l⟩⟩:Str).length ((⟨⟨l⟩⟩:Str).length+1)).isEmpty
   ·refine call_meets F.slot_str_split (Y0 _ _ _) F.entry_str_split (F.args_str_split_2 _ _) (meets_str_split_sep ⟨⟨l⟩⟩ ⟨#[c]⟩ t t' h1 hy hf (by lia) hn) ?_
    show wants _ _ _ { s with toks:=_,heap:=s.heap.push { cls:=.type "list",data:=.seq (strsFrom s.toks (partsBetween ⟨⟨l⟩⟩ (occurrences ⟨⟨l⟩⟩ ⟨#[c]⟩ 0 (⟨⟨l⟩⟩:Str).length ((⟨⟨l⟩⟩:Str).length+1)) (⟨#[c]⟩:Str).length)).toArray } };rw[strsFrom_eq];exact fin (numbered s.toks _) _ ((numbered_texts _ _).trans ((if_neg (ne_true_of_eq_false h1)).trans (if_neg (ne_true_of_eq_false hf))).symm)
   ·refine call_meets F.slot_str_split (Y0 _ _ _) F.entry_str_split (F.args_str_split_2 _ _) (meets_str_split_not_found ⟨⟨l⟩⟩ ⟨#[c]⟩ t t' h1 hy hf) ?_
    exact fin [(⟨⟨l⟩⟩,t)] s.toks ((if_neg (ne_true_of_eq_false h1)).trans (if_pos hf)).symm
  ·refine call_meets F.slot_str_split (Y0 _ _ _) F.entry_str_split (F.args_str_split_2 _ _) (meets_str_split_cannot_occur ⟨⟨l⟩⟩ ⟨#[c]⟩ t t' h1) ?_
   exact fin [(⟨⟨l⟩⟩,t)] s.toks (if_pos h1).symm
 ·exact h.elim
def t8:List Nat->List Nat->Bool
 |_,[]=>true
 | [],_::_=>false
 |a::l,b::r=>decide (a=b)&&t8 l r
theorem tS:∀(x y:List Nat),t8 x y=true↔x.take y.length=y
 |x,[]=>by simp[t8]
 | [],b::r=>by simp[t8]
 |a::l,b::r=>by simp[t8,tS l r]
def FQ:V->List V->Hp->VK->Prop
 | .str x,[.str y],H,Q=>Q (.bl (t8 (cs x) (cs y))) H
 |_,_,_,_=>False
theorem Db(x y:Str):(decide (0+y.length<=x.length)&&Yt x y 0)=t8 (cs x) (cs y):=by
 obtain⟨⟨l⟩⟩:=x;obtain⟨⟨r⟩⟩:=y;rw[Yy,tS,sT];unfold Yt;simp only[ZF,cs,Nat.zero_add,decide_eq_true_eq,yp,beq_iff_eq];have e:(⟨l⟩:Array Nat).extract 0 r.length=⟨r⟩↔l.take r.length=r:=by
  constructor
  ·intro h
   have:=congrArg Array.toList h
   simpa using this
  ·intro h
   apply Array.toList_inj.mp
   simpa using h
 constructor
 ·rintro⟨_,h⟩;exact e.mp h
 ·intro h
  refine⟨?_,e.mpr h⟩;have:=congrArg Y8 h;rw[vm]at this;lia
theorem m5:MtR X "str.startswith" FQ:=by
 intro pins s σ H x xs v us Q I rx rs h;unfold FQ at h;split at h
 ·rename_i x y
  obtain⟨t,rfl⟩:=rx;obtain⟨u,rfl,t',rfl⟩:=eS rs;refine call_meets F.slot_str_startswith (Y0 _ _ _) F.entry_str_startswith (F.args_str_startswith_2 _ _) (gives_str_startswith _ y t t').meets ?_;exact⟨.bl _,H,I,rfl,by rw[Db];exact h⟩
 ·exact h.elim
def Fa:R2
 | .ref l,.ref b,H,Q=>∃xs zs,H l=some (.lst xs)/\H b=some (.lst zs)/\xs.length+zs.length<=sizeLine/\∀p,H p=none->Q (.ref p) (upd H p (.lst (xs++zs)))
 |_,_,_,_=>False
theorem F4:OpR X (binaryOp .Add) Fa:=Fu.imp fun x y H Q h=>by
 unfold Fa at h;split at h
 ·obtain⟨xs,zs,h1,h2,h3,q⟩:=h
  exact⟨_,_,xs,zs,rfl,rfl,h1,h2,h3,q⟩
 ·exact h.elim
theorem iF(K:W.Frag)(h:X.K=K:=by rfl):SlR X (Fi K):=h ▸ CD
def A_(K:W.Frag):List V->Hp->VK->Prop
 | [.ref p],H,Q=>∃ys,(SqL K H p ys\/SqT K H p ys)/\∀l,H l=none->Q (.ref l) (upd H l (.lst ys))
 |_,_,_=>False
theorem qi(K:W.Frag)(hK:X.K=K:=by rfl):CallR X (.type "list") (A_ K):=by
 subst hK;refine qQ.imp fun xs H Q h=>?_;unfold A_ at h;split at h
 ·obtain⟨ys,h1,q⟩:=h
  exact⟨_,ys,rfl,h1,q⟩
 ·exact h.elim
def uN(K:W.Frag):List V->Hp->VK->Prop
 | [.ref p],H,Q=>∃ys,(SqL K H p ys/\∀l,H l=none->Q (.ref l) (upd H l (.tup ys)))\/(SqT K H p ys/\Q (.ref p) H)
 |_,_,_=>False
theorem kx(K:W.Frag)(hK:X.K=K:=by rfl):CallR X (.type "tuple") (uN K):=by
 subst hK;refine o8.imp fun xs H Q h=>?_;unfold uN at h;split at h
 ·obtain⟨ys,h1⟩:=h
  exact⟨_,ys,rfl,h1⟩
 ·exact h.elim
inductive EqH (K:W.Frag) (H:Hp):Nat->V->V->Bool->Prop
 |flat {n x y}:eY x=true->eY y=true->EqH K H n x y (eqV x y)
 |same {n p}:EqH K H n (.ref p) (.ref p) true
 |lst {n p q xs ys} {e:Nat->Bool}:p≠q->SqL K H p xs->SqL K H q ys->xs.length=ys.length->(∀j x y,xs[j]? = some x->ys[j]? = some y->EqH K H n x y (e j))->EqH K H (n+1) (.ref p) (.ref q) ((Zi xs.length).all e)
 |len {n p q xs ys}:p≠q->SqL K H p xs->SqL K H q ys->xs.length≠ys.length->EqH K H (n+1) (.ref p) (.ref q) false
 |tup {n p q xs ys} {e:Nat->Bool}:p≠q->SqT K H p xs->SqT K H q ys->(∀j x y,xs[j]? = some x->ys[j]? = some y->EqH K H n x y (e j))->EqH K H (n+1) (.ref p) (.ref q) ((Zi (min xs.length ys.length)).all e&&xs.length==ys.length)
 |lt {n p q xs ys}:SqL K H p xs->SqT K H q ys->EqH K H (n+1) (.ref p) (.ref q) false
 |tl {n p q xs ys}:SqT K H p xs->SqL K H q ys->EqH K H (n+1) (.ref p) (.ref q) false
theorem gS{P:Value->Value->Bool->Prop}{xs ys:List V}{its its':List Value}{e:Nat->Bool}(r:Vals xs its)(r':Vals ys its')(h:∀j x y u v,xs[j]? = some x->ys[j]? = some y->RelV x u->RelV y v->P u v (e j)) :
 ∀j (h1:j<its.toArray.size) (h2:j<its'.toArray.size),P its.toArray[j] its'.toArray[j] (e j):=fun j g1 g2=>by
 have h1:xs.length=its.length:=r.length;have h2:ys.length=its'.length:=r'.length;have g1':j<its.length:=by simpa using g1
 have g2':j<its'.length:=by simpa using g2
 have l1:j<xs.length:=by lia
 have l2:j<ys.length:=by lia
 obtain⟨w1,e1,r1⟩:=r.get (List.getElem?_eq_getElem l1);obtain⟨w2,e2,r2⟩:=r'.get (List.getElem?_eq_getElem l2);have z1:its.toArray[j]=w1:=by
  have:its[j]? = some its[j]:=List.getElem?_eq_getElem g1';rw[this]at e1;simpa using uF e1
 have z2:its'.toArray[j]=w2:=by
  have:its'[j]? = some its'[j]:=List.getElem?_eq_getElem g2';rw[this]at e2;simpa using uF e2
 rw[z1,z2];exact h j _ _ _ _ (List.getElem?_eq_getElem l1) (List.getElem?_eq_getElem l2) r1 r2
theorem EqH.at{K:W.Frag}{H:Hp}{n:Nat}{x y:V}{b:Bool}(h:EqH K H n x y b):∀ {X:Cx} {pins:List (Addr × Obj)} {σ:St} {s:Shared} {A:Around} {u v:Value},X.K=K->Inv X pins σ H s->A.units+n<cLine->RelV x u->RelV y v->SeqAt.EqAt A s u v b:=by
 induction h with
 |flat fx fy=>
  intro X pins σ s A u v hK I hu rx ry;exact vD rx ry fx fy
 |same=>
  intro X pins σ s A u v hK I hu rx ry;cases rx;cases ry;exact SeqAt.EqAt.same _
 | @lst n p q xs ys e hpq hx hy hl _ ih=>
  intro X pins σ s A u v hK I hu rx ry;cases rx;cases ry;subst hK;obtain⟨its,r,pl,hz⟩:=I.list hx;obtain⟨its',r',pl',hz'⟩:=I.list hy;have h1:xs.length=its.length:=r.length;have h2:ys.length=its'.length:=r'.length;have:=SeqAt.RcAt.lists (A:=A) (e:=e) pl.isList pl'.isList (by simp;lia) (by lia) (gS r r' fun j x y u v g1 g2 r1 r2=>ih j x y g1 g2 rfl I (by show A.units+1+n<cLine;lia) r1 r2);rw[yp,<- h1]at this;exact .of_refs hpq this
 | @len n p q xs ys hpq hx hy hl=>
  intro X pins σ s A u v hK I hu rx ry;cases rx;cases ry;subst hK;obtain⟨its,r,pl,hz⟩:=I.list hx;obtain⟨its',r',pl',hz'⟩:=I.list hy;have h1:xs.length=its.length:=r.length;have h2:ys.length=its'.length:=r'.length;exact .of_refs hpq (SeqAt.RcAt.lists_lengths pl.isList pl'.isList (by simp;lia) (by lia))
 | @tup n p q xs ys e hpq hx hy _ ih=>
  intro X pins σ s A u v hK I hu rx ry;cases rx;cases ry;subst hK;obtain⟨its,r,pl,hz⟩:=I.tuple hx;obtain⟨its',r',pl',hz'⟩:=I.tuple hy;have h1:xs.length=its.length:=r.length;have h2:ys.length=its'.length:=r'.length;have:=SeqAt.RcAt.tuples (A:=A) (e:=e) pl pl' (by lia) (gS r r' fun j x y u v g1 g2 r1 r2=>ih j x y g1 g2 rfl I (by show A.units+1+n<cLine;lia) r1 r2);rw[yp,yp,<- h1,<- h2]at this;exact .of_refs hpq this
 |lt hx hy=>
  intro X pins σ s A u v hK I hu rx ry;cases rx;cases ry;subst hK;obtain⟨its,r,pl,hz⟩:=I.list hx;obtain⟨its',r',pl',hz'⟩:=I.tuple hy;exact SeqAt.EqAt.list_tuple pl.isList pl' (by lia)
 |tl hx hy=>
  intro X pins σ s A u v hK I hu rx ry;cases rx;cases ry;subst hK;obtain⟨its,r,pl,hz⟩:=I.tuple hx;obtain⟨its',r',pl',hz'⟩:=I.list hy;exact SeqAt.EqAt.tuple_list pl pl'.isList (by lia)
inductive EqR (K:W.Frag) (H:Hp) (p q:Addr):Bool->Prop
 |lst {xs ys} {e:Nat->Bool}:SqL K H p xs->SqL K H q ys->xs.length=ys.length->(∀j x y,xs[j]? = some x->ys[j]? = some y->EqH K H 50 x y (e j))->EqR K H p q ((Zi xs.length).all e)
 |len {xs ys}:SqL K H p xs->SqL K H q ys->xs.length≠ys.length->EqR K H p q false
 |tup {xs ys} {e:Nat->Bool}:SqT K H p xs->SqT K H q ys->(∀j x y,xs[j]? = some x->ys[j]? = some y->EqH K H 50 x y (e j))->EqR K H p q ((Zi (min xs.length ys.length)).all e&&xs.length==ys.length)
def AE(K:W.Frag)(neg:Bool):R2
 | .ref p,.ref q,H,Q=>∃b,EqR K H p q b/\Q (.bl (neg ^^ b)) H
 |_,_,_,_=>False
theorem Gf(K:W.Frag)(hu:X.A.units+100<cLine)(hK:X.K=K:=by rfl):OpR X (uK .Eq) (AE K false):=by
 subst hK;intro pins s σ H x y v u Q I rx ry h;unfold AE at h;split at h
 ·rename_i p q
  obtain⟨b,hb,q⟩:=h;cases rx;cases ry;cases hb with
  | @lst xs ys e hx hy hl he=>
   obtain⟨its,r,pl,hz⟩:=I.list hx;obtain⟨its',r',pl',hz'⟩:=I.list hy;have h1:xs.length=its.length:=r.length;have h2:ys.length=its'.length:=r'.length;refine SeqAt.eq_listAt (e:=e) pl.isList pl'.isList (by simp;lia) (by lia) (gS r r' fun j x y u v g1 g2 r1 r2=>(he j x y g1 g2).at rfl I (by show X.A.units+1+50<cLine;lia) r1 r2) ⟨.bl _,H,I,rfl,?_⟩;rw[yp,<- h1];simpa using q
  | @len xs ys hx hy hl=>
   obtain⟨its,r,pl,hz⟩:=I.list hx;obtain⟨its',r',pl',hz'⟩:=I.list hy;have h1:xs.length=its.length:=r.length;have h2:ys.length=its'.length:=r'.length;exact SeqAt.eq_list_lengthsAt pl.isList pl'.isList (by simp;lia) (by lia) ⟨.bl false,H,I,rfl,by simpa using q⟩
  | @tup xs ys e hx hy he=>
   obtain⟨its,r,pl,hz⟩:=I.tuple hx;obtain⟨its',r',pl',hz'⟩:=I.tuple hy;have h1:xs.length=its.length:=r.length;have h2:ys.length=its'.length:=r'.length;refine SeqAt.eq_tupleAt (e:=e) pl pl' (by lia) (gS r r' fun j x y u v g1 g2 r1 r2=>(he j x y g1 g2).at rfl I (by show X.A.units+1+50<cLine;lia) r1 r2) ⟨.bl _,H,I,rfl,?_⟩;rw[yp,yp,<- h1,<- h2];simpa using q
 ·exact h.elim
theorem FR(K:W.Frag)(hu:X.A.units+100<cLine)(hK:X.K=K:=by rfl):OpR X (uK .NotEq) (AE K true):=by
 subst hK;intro pins s σ H x y v u Q I rx ry h;unfold AE at h;split at h
 ·rename_i p q
  obtain⟨b,hb,q⟩:=h;cases rx;cases ry;cases hb with
  | @lst xs ys e hx hy hl he=>
   obtain⟨its,r,pl,hz⟩:=I.list hx;obtain⟨its',r',pl',hz'⟩:=I.list hy;have h1:xs.length=its.length:=r.length;have h2:ys.length=its'.length:=r'.length;refine SeqAt.RcNeAt.lists (e:=e) pl.isList pl'.isList (by simp;lia) (by lia) (gS r r' fun j x y u v g1 g2 r1 r2=>(he j x y g1 g2).at rfl I (by show X.A.units+1+50<cLine;lia) r1 r2) X.prog X.w X.xe _ ⟨.bl _,H,I,rfl,?_⟩;rw[yp,<- h1];simpa using q
  | @len xs ys hx hy hl=>
   obtain⟨its,r,pl,hz⟩:=I.list hx;obtain⟨its',r',pl',hz'⟩:=I.list hy;have h1:xs.length=its.length:=r.length;have h2:ys.length=its'.length:=r'.length;exact SeqAt.RcNeAt.lists_lengths pl.isList pl'.isList (by simp;lia) (by lia) X.prog X.w X.xe _ ⟨.bl true,H,I,rfl,by simpa using q⟩
  | @tup xs ys e hx hy he=>
   obtain⟨its,r,pl,hz⟩:=I.tuple hx;obtain⟨its',r',pl',hz'⟩:=I.tuple hy;have h1:xs.length=its.length:=r.length;have h2:ys.length=its'.length:=r'.length;refine SeqAt.RcNeAt.tuples (e:=e) pl pl' (by lia) (gS r r' fun j x y u v g1 g2 r1 r2=>(he j x y g1 g2).at rfl I (by show X.A.units+1+50<cLine;lia) r1 r2) X.prog X.w X.xe _ ⟨.bl _,H,I,rfl,?_⟩;rw[yp,yp,<- h1,<- h2];simpa using q
 ·exact h.elim
end
end L2
namespace PySem
open Sem (wp)
open Builtin
end PySem
namespace L2
open PySem PySem.Spec PyProof.Rows Builtin Builtin.Str
section
variable{X:Cx}{e a b c:Expr}{pos:Pos}
def jF(K:W.Frag)(neg:Bool):R2:=fun x y H Q=>match eqS x y with
 |some k=>Q (.bl (neg ^^ k)) H
 |none=>AE K neg x y H Q
theorem cM(K:W.Frag)(hu:X.A.units+100<cLine)(hK:X.K=K:=by rfl):OpR X (uK .Eq) (jF K false):=((Fj (by lia)).or (Gf K hu hK)).imp fun x y H Q h=>by
 unfold jF at h;split at h
 ·rename_i k hk
  obtain⟨h1,h2⟩:=ue hk;exact .inl (.inl ⟨h1,by rw[h2];simpa using h⟩)
 ·exact .inr h
theorem bV(K:W.Frag)(hu:X.A.units+100<cLine)(hK:X.K=K:=by rfl):OpR X (uK .NotEq) (jF K true):=((EJ (by lia)).or (FR K hu hK)).imp fun x y H Q h=>by
 unfold jF at h;split at h
 ·rename_i k hk
  obtain⟨h1,h2⟩:=ue hk;exact .inl (.inl ⟨h1,by rw[h2];simpa using h⟩)
 ·exact .inr h
variable{K:W.Frag}{neg:Bool}{H:Hp}{Q:VK}
theorem v9:jF K neg (.int i) (.int j) H Q=Q (.bl (neg ^^ decide (i=j))) H:=rfl
theorem Bc:jF K neg (.bl i) (.bl j) H Q=Q (.bl (neg ^^ decide (i=j))) H:=rfl
theorem wR:jF K neg (.str i) (.str j) H Q=Q (.bl (neg ^^ decide (i.cps.toList=j.cps.toList))) H:=rfl
theorem xj:jF K neg (.ref p) (.ref q) H Q = ∃b,EqR K H p q b/\Q (.bl (neg ^^ b)) H:=rfl
theorem z7:jF K neg .non .non H Q=Q (.bl (neg ^^ true)) H:=rfl
theorem zZ:jF K neg .non (.int i) H Q=Q (.bl (neg ^^ false)) H:=rfl
theorem Am:jF K neg (.int i) .non H Q=Q (.bl (neg ^^ false)) H:=rfl
theorem zt:jF K neg (.int i) (.str s) H Q=Q (.bl (neg ^^ false)) H:=rfl
theorem Av:jF K neg (.str s) (.int i) H Q=Q (.bl (neg ^^ false)) H:=rfl
end
theorem Aa{K:W.Frag}{tl:TE}{g:TG}{tb:TS}{D:fF}{σ:St}{H:Hp}(h:tl σ H fun v H1=>o4 (xG K (tC v)) g tb D σ H1):o4 (xG K tl) g tb D σ H:=h
theorem gP{K:W.Frag}{tl:TE}{g:TG}{tb:TS}{D:fF}{σ:St}{H:Hp}(h:tl σ H fun v H1=>o4 (nZ K (tC v)) g tb D σ H1):o4 (nZ K tl) g tb D σ H:=h
theorem Bp{K:W.Frag}{a:Addr}{xs:List V}{g:TG}{tb:TS}{D:fF}{σ:St}{H:Hp}(hq:SqT K H a xs)(h:∃W:Nat->Nat->St->Hp->Prop,(∃m,W 0 m σ H)/\∀i m σ H,W i m σ H ->
 ((Itt K a).stop i H/\D.nx σ H)\/((Itt K a).go i H/\∃N:St->Hp->Prop,(∀σ' H',N σ' H'->∃m',m'<m/\W (i+1) m' σ' H')/\∀x H',(Itt K a).yld i H x H'->g x σ H' fun σ2 H2=>tb { D with nx:=N,ct:=N,bk:=D.nx } σ2 H2)):o4 (xG K (tC (.ref a))) g tb D σ H:=⟨a,rfl,⟨xs,hq⟩,h⟩
theorem gU{K:W.Frag}{a:Addr}{xs:List V}{g:TG}{tb:TS}{D:fF}{σ:St}{H:Hp}(hq:SqL K H a xs)(h:∃W:Nat->Nat->St->Hp->Prop,(∃m,W 0 m σ H)/\∀i m σ H,W i m σ H ->
 ((Itl K a).stop i H/\D.nx σ H)\/((Itl K a).go i H/\∃N:St->Hp->Prop,(∀σ' H',N σ' H'->∃m',m'<m/\W (i+1) m' σ' H')/\∀x H',(Itl K a).yld i H x H'->g x σ H' fun σ2 H2=>tb { D with nx:=N,ct:=N,bk:=D.nx } σ2 H2)):o4 (nZ K (tC (.ref a))) g tb D σ H:=⟨a,rfl,⟨xs,hq⟩,h⟩
theorem pz{ls:List (List Nat)}{i:Int}(h0:0<=i)(h1:i<ls.length)(q:∀l∈ls,Q (T l) H):j2 (ls.map T) H H1 Q (.int i):=by
 obtain⟨j,rfl⟩:∃j:Nat,i=j:=⟨i.toNat,by lia⟩;have hj:j<ls.length:=by lia
 have e:atI (ls.map T) (j:Int)=some (T ls[j]):=aq (by simp[hj]);simp only[j2,e];exact q _ (Yh hj)
theorem xT(lo:Int)(n:Nat):Ej (Itr lo n) ((Zi n).map fun k=>V.int (lo+(k:Nat))):=by
 refine⟨fun i H h=>by simpa [Itr] using h,fun i H x H' hi y=>?_,fun H=>by simp[Itr]⟩;obtain⟨e,rfl⟩:=y;refine⟨e,?_⟩;have hi':i<n:=by simpa using hi
 simp[hi']
end L2
namespace L2
theorem cv(r:Room k A):A.units+100<PySem.cLine:=by have:=r.un;lia
end L2
namespace L2
open PySem PySem.Spec PyProof.Rows
section
variable{κ:Type}[DecidableEq κ]
def dR(kvs:List (κ × V))(k:κ):Option V:=(kvs.find? fun kv=>decide (kv.1=k)).map (·.2)
def e9(kvs:List (κ × V))(k:κ)(v:V):List (κ × V):=
 if (kvs.any fun kv=>decide (kv.1=k))=true then kvs.map (fun kv=>if kv.1=k then (kv.1,v) else kv) else kvs++[(k,v)]
def Il(kvs:List (κ × V))(k:κ):List (κ × V):=kvs.filter fun kv=>decide (kv.1≠k)
theorem bQ{p:κ × V}{r:List (κ × V)}{k:κ}(e:p.1=k):dR (p::r) k=some p.2:=by simp[dR,List.find?_cons,e]
theorem bH{p:κ × V}{r:List (κ × V)}{k:κ}(e:¬ p.1=k):dR (p::r) k=dR r k:=by simp[dR,List.find?_cons,e]
theorem iE(k:κ):∀kvs:List (κ × V),(kvs.any fun kv=>decide (kv.1=k))=(dR kvs k).isSome
 | []=>rfl
 |p::r=>by
  rw[YD];by_cases e:p.1=k
  ·simp only[bQ e,decide_eq_true e,Bool.true_or,Option.isSome_some]
  ·rw[bH e,decide_eq_false e,Bool.false_or];exact iE k r
theorem tQ(k j:κ)(y:V):∀kvs:List (κ × V),dR (kvs.map fun kv=>if kv.1=k then (kv.1,y) else kv) j=(dR kvs j).map fun x=>if j=k then y else x
 | []=>rfl
 |p::r=>by
  have ih:=tQ k j y r;rw[yF];by_cases h:p.1=k
  ·rw[if_pos h]
   by_cases e:p.1=j
   ·rw[bQ (p:=(p.1,y)) e,bQ e,Option.map_some,if_pos (e.symm.trans h)]
   ·rw[bH (p:=(p.1,y)) e,bH e,ih]
  ·rw[if_neg h]
   by_cases e:p.1=j
   ·rw[bQ (p:=p) e,bQ e,Option.map_some,if_neg (fun z=>h (e.trans z))]
   ·rw[bH (p:=p) e,bH e,ih]
theorem pB(k j:κ)(y:V):∀kvs:List (κ × V),dR kvs k=none->dR (kvs++[(k,y)]) j=if j=k then some y else dR kvs j
 | [],_=>by
  by_cases e:k=j
  ·rw[if_pos e.symm];exact bQ (p:=(k,y)) e
  ·rw[if_neg (fun z=>e z.symm)];exact bH (p:=(k,y)) e
 |p::r,hn=>by
  rw[ZU];have hk:¬ p.1=k:=fun z=>by rw[bQ z]at hn;cases hn
  rw[bH hk]at hn;have ih:=pB k j y r hn;by_cases e:p.1=j
  ·rw[bQ e,bQ e,if_neg (fun z=>hk (e.trans z))]
  ·rw[bH e,bH e,ih]
theorem zg(kvs:List (κ × V))(k j:κ)(y:V):dR (e9 kvs k y) j=if j=k then some y else dR kvs j:=by
 unfold e9;by_cases a:(kvs.any fun kv=>decide (kv.1=k))=true
 ·rw[if_pos a,tQ]
  rw[iE]at a;by_cases e:j=k
  ·obtain⟨x,hx⟩:=Option.isSome_iff_exists.mp a
   rw[if_pos e,e,hx,Option.map_some,if_pos rfl]
  ·rw[if_neg e]
   cases dR kvs j with
   |none=>rfl
   |some x=>rw[Option.map_some,if_neg e]
 ·rw[if_neg a]
  refine pB k j y kvs ?_;rw[iE]at a;cases q:dR kvs k with
  |none=>rfl
  |some x=>rw[q]at a;exact(a rfl).elim
theorem iL(kvs:List (κ × V))(k:κ)(v:V):(e9 kvs k v).length<=kvs.length+1:=by
 unfold e9;split
 ·rw[zB];lia
 ·rw[yk,vq,Z9];lia
theorem nL{kvs:List (κ × V)}{k:κ}(v:V)(h:dR kvs k=none):e9 kvs k v=kvs++[(k,v)]:=by
 unfold e9;rw[iE,h];exact if_neg (by decide)
theorem RelO.isSome_eq{o:Option V}{u:Option Value}(r:RelO o u):o.isSome=u.isSome:=by
 cases o with
 |none=>cases u with
  |none=>rfl
  |some _=>exact(show False from r).elim
 |some _=>cases u with
  |none=>exact(show False from r).elim
  |some _=>rfl
theorem RelO.getD{o:Option V}{u:Option Value}{d:V}{d':Value}(r:RelO o u)(rd:RelV d d'):RelV (o.getD d) (u.getD d'):=by
 cases o with
 |none=>cases u with
  |none=>exact rd
  |some _=>exact(show False from r).elim
 |some _=>cases u with
  |none=>exact(show False from r).elim
  |some _=>exact r
theorem KV.val{kvs:List (κ × V)}{vs:List (κ × Value)}(r:KV kvs vs)(k:κ):RelO (dR kvs k) (valueAt vs k):=by
 unfold KV at r
 induction r with
 |nil=>exact ZG
 | @cons p q ps qs h t ih=>
  obtain⟨h1,h2⟩:=h;by_cases e:p.1=k
  ·have e':q.1=k:=h1.symm.trans e
   have b:valueAt (q::qs) k=some q.2:=by simp[valueAt,List.find?_cons,e']
   rw[bQ e,b];exact h2
  ·have e':¬ q.1=k:=fun z=>e (h1.trans z)
   have b:valueAt (q::qs) k=valueAt qs k:=by simp[valueAt,List.find?_cons,e']
   rw[bH e,b];exact ih
theorem KV.any{kvs:List (κ × V)}{vs:List (κ × Value)}(r:KV kvs vs)(k:κ):(kvs.any fun kv=>decide (kv.1=k))=vs.any fun kv=>decide (kv.1=k):=by
 unfold KV at r
 induction r with
 |nil=>rfl
 |cons h t ih=>rw[YD,YD,ih,h.1]
theorem KV.repl{kvs:List (κ × V)}{vs:List (κ × Value)}(r:KV kvs vs)(k:κ){y:V}{u:Value}(ry:RelV y u) :
 KV (kvs.map fun kv=>if kv.1=k then (kv.1,y) else kv) (vs.map fun kv=>if kv.1=k then (kv.1,u) else kv):=by
 unfold KV at r |-
 induction r with
 |nil=>exact .nil
 | @cons p q ps qs h t ih=>
  rw[yF,yF];refine .cons ?_ ih;obtain⟨h1,h2⟩:=h;by_cases e:p.1=k
  ·rw[if_pos e,if_pos (h1.symm.trans e)];exact⟨h1,ry⟩
  ·rw[if_neg e,if_neg (fun z=>e (h1.trans z))];exact⟨h1,h2⟩
theorem KV.put{kvs:List (κ × V)}{vs:List (κ × Value)}(r:KV kvs vs)(k:κ){y:V}{u:Value}(ry:RelV y u):KV (e9 kvs k y) (stored vs k u):=by
 unfold e9 stored;rw[r.any k];by_cases e:(vs.any fun kv=>decide (kv.1=k))=true
 ·rw[if_pos e,if_pos e];exact r.repl k ry
 ·rw[if_neg e,if_neg e];exact Paired.snoc r ⟨rfl,ry⟩
theorem KV.keys{kvs:List (κ × V)}{vs:List (κ × Value)}(r:KV kvs vs):kvs.map (·.1)=vs.map (·.1):=by
 unfold KV at r
 induction r with
 |nil=>rfl
 |cons h t ih=>rw[yF,yF,ih,h.1]
theorem KV.length{kvs:List (κ × V)}{vs:List (κ × Value)}(r:KV kvs vs):kvs.length=vs.length:=Paired.length r
end
theorem oA{P:Program}{w:World}{k:Key}{u:Value}(r:RelV (kV k) u):(bC P w).is k u=true:=by
 cases k with
 |inl i=>obtain⟨t,e⟩:=(show ∃t,u=Value.int i t from r);subst e;exact sV P w i t
 |inr x=>obtain⟨t,e⟩:=(show ∃t,u=YY x t from r);subst e;exact sB P w x t
theorem FP{a b:Key}(e:kV a=kV b):a=b:=by
 cases a with
 |inl i=>cases b with
  |inl j=>have e':V.int i=V.int j:=e;injection e' with e';rw[e']
  |inr y=>exact nomatch (show V.int i=V.str y from e)
 |inr x=>cases b with
  |inl j=>exact nomatch (show V.str x=V.int j from e)
  |inr y=>have e':V.str x=V.str y:=e;injection e' with e';rw[e']
theorem wL:∀ {a b:List Key},a.map kV=b.map kV->a=b
 | [],[],_=>rfl
 | [],_::_,e=>by simp at e
 |_::_,[],e=>by simp at e
 |x::xs,y::ys,e=>by
  rw[yF,yF]at e;injection e with e1 e2
  rw[FP e1,wL e2]
theorem pT{P:Program}{w:World}:∀ {ks:List Key} {us:List Value},Vals (ks.map kV) us->ItemsAre (bC P w) ks us
 | [],_,r=>by rw[Yd]at r;cases r;exact .nil
 |k::ks,_,r=>by
  rw[yF]at r;cases r with
  |cons h t=>exact .cons (oA h) (pT t)
abbrev KT(H:Hp):List (List Key × V)->List (List Key × Addr × Value)->Prop:=Paired fun p q=>p.1=q.1/\H q.2.1=some (.tup (p.1.map kV))/\RelV p.2 q.2.2
theorem KT.val{H:Hp}{kvs:List (List Key × V)}{xs:List (List Key × Addr × Value)}(r:KT H kvs xs)(k:List Key):RelO (dR kvs k) ((atKey xs k).map (·.2)):=by
 induction r with
 |nil=>exact ZG
 | @cons p q ps qs h t ih=>
  obtain⟨h1,_,h2⟩:=h;by_cases e:p.1=k
  ·have e':q.1=k:=h1.symm.trans e
   have b:atKey (q::qs) k=some q.2:=by simp[atKey,List.find?_cons,e']
   rw[bQ e,b];exact h2
  ·have e':¬ q.1=k:=fun z=>e (h1.trans z)
   have b:atKey (q::qs) k=atKey qs k:=by simp[atKey,List.find?_cons,e']
   rw[bH e,b];exact ih
theorem KT.repl{H:Hp}{kvs:List (List Key × V)}{xs:List (List Key × Addr × Value)}(r:KT H kvs xs)(k:List Key){y:V}{u:Value}(ry:RelV y u) :
 KT H (kvs.map fun kv=>if kv.1=k then (kv.1,y) else kv) (xs.map (putAt k u)):=by
 induction r with
 |nil=>exact .nil
 | @cons p q ps qs h t ih=>
  rw[yF,yF];refine .cons ?_ ih;obtain⟨h1,h2,h3⟩:=h;unfold putAt;by_cases e:p.1=k
  ·rw[if_pos e,if_pos (h1.symm.trans e)];exact⟨h1,h2,ry⟩
  ·rw[if_neg e,if_neg (fun z=>e (h1.trans z))];exact⟨h1,h2,h3⟩
theorem KT.put{H:Hp}{kvs:List (List Key × V)}{xs:List (List Key × Addr × Value)}(r:KT H kvs xs)(k:List Key){b:Addr}{y:V}{u:Value}(hb:H b=some (.tup (k.map kV)))(ry:RelV y u) :
 KT H (e9 kvs k y) (storedH xs k b u):=by
 have e:(kvs.any fun kv=>decide (kv.1=k))=(atKey xs k).isSome:=by
  rw[iE,(r.val k).isSome_eq,Yv]
 unfold e9 storedH;rw[e];by_cases q:(atKey xs k).isSome=true
 ·rw[if_pos q,if_pos q];exact r.repl k ry
 ·rw[if_neg q,if_neg q];exact Paired.snoc r ⟨rfl,hb,ry⟩
theorem KT.keeps{H H':Hp}{kvs:List (List Key × V)}{xs:List (List Key × Addr × Value)}(r:KT H kvs xs)(ht:∀b ys,H b=some (.tup ys)->H' b=some (.tup ys)):KT H' kvs xs:=
 Paired.mapP r fun _ _ z=>⟨z.1,ht _ _ z.2.1,z.2.2⟩
section
variable{P:Program}{w:World}{H:Hp}{h:Heap}{a:Addr}
theorem zq{u:HO}(ok:HOk P w H h)(e:Rd H a u):ObjOk P w H h a u:=e.ok ok
theorem lJ{kvs:List (Key × V)}(ok:HOk P w H h)(e:Rd H a (.dK kvs)):kvs.length<=sizeLine/\(a==ZW)=false/\∃vs,KV kvs vs/\h.DictOf (bC P w) a vs:=
 show ObjOk P w H h a (.dK kvs) from zq ok e
theorem AV{kvs:List (Key × V)}(ok:HOk P w H h)(e:H a=some (.dK kvs)):kvs.length<=sizeLine/\(a==ZW)=false/\∃vs,KV kvs vs/\h.DictOf (bC P w) a vs:=lJ ok (.inl e)
theorem jz{ks:List Key}(ok:HOk P w H h)(e:H a=some (.tup (ks.map kV))):(tupleKind (bC P w)).is h ks a:=by
 obtain⟨_,its,r,o,h1,h2,n,h3⟩:=(show ObjOk P w H h a (.tup (ks.map kV)) from ok a _ e);exact⟨o,its.toArray,n,h1,h2,h3,by simpa using pT r⟩
theorem lN{kvs:List (List Key × V)}(ok:HOk P w H h)(e:Rd H a (.dT kvs)):kvs.length<=sizeLine/\(a==ZW)=false /\
 ∃xs,KT H kvs xs/\h.DictOfH (tupleKind (bC P w)) a xs:=by
 obtain⟨z,y,xs,r,o,es,ep,h1,h2,h3,h4,h5⟩:=(show ObjOk P w H h a (.dT kvs) from zq ok e);refine⟨z,y,xs,r,o,es,ep,h1,h2,h3,h4,fun x hx=>?_,h5⟩;have all:∀ {l:List (List Key × V)} {m:List (List Key × Addr × Value)},KT H l m->∀x∈m,(tupleKind (bC P w)).is h x.1 x.2.1:=by
  intro l m q
  induction q with
  |nil=>intro x hx;exact nomatch hx
  | @cons p q ps qs hq t ih=>
   intro x hx;rcases z6.mp hx with e|hx
   ·subst e
    exact jz ok (by rw[<- hq.1];exact hq.2.1)
   ·exact ih x hx
 exact all r x hx
theorem Ea{kvs:List (List Key × V)}(ok:HOk P w H h)(e:H a=some (.dT kvs)):kvs.length<=sizeLine/\(a==ZW)=false /\
 ∃xs,KT H kvs xs/\h.DictOfH (tupleKind (bC P w)) a xs:=lN ok (.inl e)
end
def DGet(H:Hp)(a:Addr)(y:V)(r:Option V):Prop:=
 (∃kvs k,Rd H a (.dK kvs)/\y=kV k/\r=dR kvs k)\/∃kvs k b,Rd H a (.dT kvs)/\y = .ref b/\H b=some (.tup (k.map kV))/\r=dR kvs k
def DPut(H:Hp)(a:Addr)(y v:V)(H':Hp):Prop:=
 (∃kvs k,H a=some (.dK kvs)/\y=kV k/\kvs.length<sizeLine/\H'=upd H a (.dK (e9 kvs k v))) \/
 ∃kvs k b,H a=some (.dT kvs)/\y = .ref b/\H b=some (.tup (k.map kV))/\kvs.length<sizeLine/\H'=upd H a (.dT (e9 kvs k v))
theorem DGet.k{H:Hp}{a:Addr}{kvs:List (Key × V)}{k:Key}(e:H a=some (.dK kvs)):DGet H a (kV k) (dR kvs k):=.inl ⟨kvs,k,.inl e,rfl,rfl⟩
theorem DGet.t{H:Hp}{a b:Addr}{kvs:List (List Key × V)}{k:List Key}(e:H a=some (.dT kvs))(eb:H b=some (.tup (k.map kV))):DGet H a (.ref b) (dR kvs k):=.inr ⟨kvs,k,b,.inl e,rfl,eb,rfl⟩
theorem DPut.k{H:Hp}{a:Addr}{kvs:List (Key × V)}{k:Key}{v:V}(e:H a=some (.dK kvs))(hl:kvs.length<sizeLine):DPut H a (kV k) v (upd H a (.dK (e9 kvs k v))):=.inl ⟨kvs,k,e,rfl,hl,rfl⟩
theorem DPut.t{H:Hp}{a b:Addr}{kvs:List (List Key × V)}{k:List Key}{v:V}(e:H a=some (.dT kvs))(eb:H b=some (.tup (k.map kV)))(hl:kvs.length<sizeLine) :
 DPut H a (.ref b) v (upd H a (.dT (e9 kvs k v))):=.inr ⟨kvs,k,b,e,rfl,eb,hl,rfl⟩
section
variable{X:Cx}{pins:List (Addr × Obj)}{σ:St}{H:Hp}{s:Shared}{a:Addr}{y v:V}{u r:Value}{o:Option V}{A:Around}{E:Value->Shared->Prop}
theorem Inv.big(I:Inv X pins σ H s):ZW<s.heap.objs.size:=by
 have h:Zb<s.heap.objs.size:=(I.mod.glob.keeps I.bk).lt;exact Nat.lt_trans (by decide) h
theorem xy{Q:Value->Shared->Prop}(hu:A.units+1<cLine)(I:Inv X pins σ H s)(g:DGet H a y (some v))(ry:RelV y u)(h:∀w' s',Inv X pins σ H s'->RelV v w'->Q w' s') :
 wpAny (model X.prog X.w) A (getItem (.ref a) u) Q E s:=by
 rcases g with ⟨kvs,k,e,ey,l⟩|⟨kvs,k,b,e,ey,eb,l⟩
 ·subst ey
  obtain⟨z,hd,vs,rel,dd⟩:=lJ I.hok e;obtain⟨w',hw,rw'⟩:=RelO.some_of (v:=v) (o:=valueAt vs k) (by rw[l];exact rel.val k);exact wpAny_getItem_of (oA ry) dd.mapOf hw (h w' _ (I.tok _) rw')
 ·subst ey
  cases (show u=yX b from ry);obtain⟨z,hd,xs,rel,dd⟩:=lN I.hok e;obtain⟨w',hw,rw'⟩:=RelO.some_of (v:=v) (o:=(atKey xs k).map (·.2)) (by rw[l];exact rel.val k);obtain⟨p,hp,hp2⟩:=u8.mp hw;refine wpAny_getItem_heap (Z5 hu) (jz I.hok eb) dd hp ?_;rw[hp2];exact h w' _ (I.tok _) rw'
theorem HP{Q:Value->Shared->Prop}(hu:A.units+1<cLine)(I:Inv X pins σ H s)(g:DGet H a y o)(ry:RelV y u)(h:∀s',Inv X pins σ H s'->Q (.bool o.isSome) s') :
 wpAny (model X.prog X.w) A (uK .In u (.ref a)) Q E s:=by
 rcases g with ⟨kvs,k,e,ey,l⟩|⟨kvs,k,b,e,ey,eb,l⟩
 ·subst ey
  obtain⟨z,hd,vs,rel,dd⟩:=lJ I.hok e;refine wpAny_in_of (oA ry) hd dd.mapOf ?_;rw[<- (rel.val k).isSome_eq,<- l];exact h _ (I.tok _)
 ·subst ey
  cases (show u=yX b from ry);obtain⟨z,hd,xs,rel,dd⟩:=lN I.hok e;refine wpAny_in_heap (Z5 hu) (jz I.hok eb) hd dd ?_;have q:=(rel.val k).isSome_eq;rw[Yv]at q;rw[<- q,<- l];exact h _ (I.tok _)
theorem Cw{Q:Value->Shared->Prop}(hu:A.units+1<cLine)(I:Inv X pins σ H s)(g:DGet H a y o)(ry:RelV y u)(h:∀s',Inv X pins σ H s'->Q (.bool (!o.isSome)) s') :
 wpAny (model X.prog X.w) A (uK .NotIn u (.ref a)) Q E s:=by
 rcases g with ⟨kvs,k,e,ey,l⟩|⟨kvs,k,b,e,ey,eb,l⟩
 ·subst ey
  obtain⟨z,hd,vs,rel,dd⟩:=lJ I.hok e;refine wpAny_notIn_of (oA ry) hd dd.mapOf ?_;rw[<- (rel.val k).isSome_eq,<- l];exact h _ (I.tok _)
 ·subst ey
  cases (show u=yX b from ry);obtain⟨z,hd,xs,rel,dd⟩:=lN I.hok e;refine wpAny_notIn_heap (Z5 hu) (jz I.hok eb) hd dd ?_;have q:=(rel.val k).isSome_eq;rw[Yv]at q;rw[<- q,<- l];exact h _ (I.tok _)
theorem wa{h':Heap}{t':Nat}{ob:HO}(I:Inv X pins σ H s)(mu:Mut (H a))(hs:Heap.SameBut a s.heap h')(he:∃q,h'.get? a=some q)(new:ObjOk X.prog X.w (upd H a ob) h' a ob) :
 Inv X pins σ (upd H a ob) { s with heap:=h',toks:=t' }:=
 I.write (x:=a) (e:=a) mu (.inl rfl) (fun b q hb z=>(hs.2 b hb).trans z) he new
theorem EG{P:Program}{w:World}{H':Hp}{h':Heap}{kvs:List (Key × V)}{vs:List (Key × Value)}(z:kvs.length<=sizeLine)(hd:(a==ZW)=false)(rel:KV kvs vs)(dd:h'.DictOf (bC P w) a vs) :
 ObjOk P w H' h' a (.dK kvs):=⟨z,hd,vs,rel,dd⟩
theorem xJ{H':Hp}{Q:Unit->Shared->Prop}(hu:A.units+1<cLine)(I:Inv X pins σ H s)(g:DPut H a y v H')(ry:RelV y u)(rv:RelV v r)(h:∀s',Inv X pins σ H' s'->Q () s') :
 wpAny (model X.prog X.w) A (setItem (.ref a) u r) Q E s:=by
 rcases g with ⟨kvs,k,e,ey,l,eH⟩|⟨kvs,k,b,e,ey,eb,l,eH⟩
 ·subst ey eH
  obtain⟨z,hd,vs,rel,dd⟩:=AV I.hok e;have hz:vs.length<=sizeLine:=by rw[<- rel.length];exact z
  have hl:(e9 kvs k v).length<=sizeLine:=by have:=iL kvs k v;lia
  refine wpAny_setItem_pairs (hsz:=hz) (oA ry) dd fun h' dd' hs=>h _ ?_;have he:∃q,h'.get? a=some q:=let ⟨q,_,_,hq,_⟩:=dd';⟨q,hq⟩;exact wa I (by rw[e];exact ZG) hs he (EG hl hd (rel.put k rv) dd')
 ·subst ey eH
  cases (show u=yX b from ry);obtain⟨z,hd,xs,rel,dd⟩:=Ea I.hok e;have hz:xs.length<=sizeLine:=by rw[<- Paired.length rel];exact z
  have hl:(e9 kvs k v).length<=sizeLine:=by have:=iL kvs k v;lia
  refine wpAny_setItem_heap (hsz:=hz) (Z5 hu) (jz I.hok eb) dd fun h' dd' hs=>h _ ?_;obtain⟨q,es,ep,hq,h2,h3,h4,_,h5⟩:=dd';refine wa I (by rw[e];exact ZG) hs ⟨q,hq⟩ ⟨hl,hd,_,(rel.put k eb rv).keeps fun c ys ec=>?_,q,es,ep,hq,h2,h3,h4,h5⟩;rw[ah (Gw ec e (fun z=>nomatch z))];exact ec
end
section
variable{X:Cx}{pins:List (Addr × Obj)}{σ:St}{H:Hp}{s:Shared}{a:Addr}{kvs:List (Key × V)}{k:Key}{u:Value}{A:Around}{E:Value->Shared->Prop}
end
def GG(i:Expr):Prop:=∀ov iv,subscripted i false ov iv=operate [ov,iv] (getItem ov iv)
theorem Cb{prog:Program}{w:World}{A:Around}{E:Value->Shared->Prop}{s:Shared}{env:Env}{value slice:Expr}{pos:Pos}{T id:String}{Q:Value->Shared->Prop}
 (hl:typeLookup (.type T) "__getitem__" = pure (some (.builtin id))) (hs:GG slice)
 (h:wpAny (model prog w) A (eval value env) (fun o s₁=>wpAny (model prog w) A (eval slice env) (fun i s₂=>s₂.TypeIs o T/\wpAny (model prog w) A (getItem o i) Q E s₂) E s₁) E s) :
 wpAny (model prog w) A (eval (.Subscript value slice pos) env) Q E s:=by
 refine Subscript_ (uY h (fun o s₁ h₁=>uY h₁ (fun i s₂ h₂=>?_) fun _ _ x=>x) fun _ _ x=>x);obtain⟨hT,h₂⟩:=h₂;unfold subscriptTail;refine zw ?_;rw[getitemInPython_of_ne hT.not_modules];refine zw (wpAny_specialOf hT hl ?_);have fin:wpAny (model prog w) A (subscripted slice false o i) (fun r s₃=>wpAny (model prog w) A (letTemporaryGo value o r >>= fun _=>pure r) Q E s₃) E s₂:=by
  rw[hs o i];exact wpAny_operating (uY h₂ (fun r s₃ h₃=>zw (wpAny_letTemporaryGo (yt h₃))) fun _ _ x=>x)
 first
  |exact yt (zw fin)
  |exact zw (yt (zw fin))
  |exact zw fin
theorem sU{X:Cx}{pins:List (Addr × Obj)}{σ:St}{H:Hp}{s:Shared}{a:Addr}{y:V}{o:Option V}(I:Inv X pins σ H s)(g:DGet H a y o):s.TypeIs (.ref a) "dict":=by
 rcases g with ⟨kvs,k,e,_,_⟩|⟨kvs,k,b,e,_,_,_⟩
 ·obtain⟨_,_,vs,_,dd⟩:=lJ I.hok e
  exact dd.typeIs
 ·obtain⟨_,_,xs,_,dd⟩:=lN I.hok e
  exact dd.typeIs
def DN(td ty:TE):TE:=fun σ H Q=>td σ H fun x H1=>ty σ H1 fun y H2=>∃a v,x = .ref a/\DGet H2 a y (some v)/\Q v H2
def HD(ty td:TE):TE:=fun σ H Q=>ty σ H fun y H1=>td σ H1 fun x H2=>∃a o,x = .ref a/\DGet H2 a y o/\Q (.bl o.isSome) H2
def wz(ty td:TE):TE:=fun σ H Q=>ty σ H fun y H1=>td σ H1 fun x H2=>∃a o,x = .ref a/\DGet H2 a y o/\Q (.bl (!o.isSome)) H2
def DK(td ty tv:TE):TS:=fun D σ H=>tv σ H fun v H1=>td σ H1 fun x H2=>ty σ H2 fun y H3=>∃a H4,x = .ref a/\DPut H3 a y v H4/\D.nx σ H4
section
variable{X:Cx}{o i e value:Expr}{pos pos' tpos:Pos}{td ty tv:TE}
theorem bL(hu:X.A.units+1<cLine)(ho:PE X o td)(hi:PE X i ty)(hs:GG i):PE X (.Subscript o i pos) (DN td ty):=by
 intro pins s σ H Q I h;refine Cb PySem.F.slot_dict_getitem.lookup hs (thn (ho pins s σ H _ I h) fun u s1 ⟨x,H1,I1,rx,q1⟩=>thn (hi pins s1 σ H1 _ I1 q1) fun iv s2 ⟨y,H2,I2,ry,a,v,ex,g,q2⟩=>?_);subst ex;obtain rfl:u=yX a:=rx;exact⟨sU I2 g,xy hu I2 g ry fun w' s3 I3 rw'=>⟨v,H2,I3,rw',q2⟩⟩
theorem vz(hu:X.A.units+1<cLine)(hi:PE X i ty)(ho:PE X o td):PC X .In i o (HD ty td):=by
 intro pins s σ H Q I h;refine thn (hi pins s σ H _ I h) fun iv s1 ⟨y,H1,I1,ry,q1⟩=>thn (ho pins s1 σ H1 _ I1 q1) fun u s2 ⟨x,H2,I2,rx,a,ov,ex,g,q2⟩=>?_;subst ex;obtain rfl:u=yX a:=rx;exact HP hu I2 g ry fun s3 I3=>⟨.bl ov.isSome,H2,I3,rfl,q2⟩
theorem yw(hu:X.A.units+1<cLine)(hi:PE X i ty)(ho:PE X o td):PC X .NotIn i o (wz ty td):=by
 intro pins s σ H Q I h;refine thn (hi pins s σ H _ I h) fun iv s1 ⟨y,H1,I1,ry,q1⟩=>thn (ho pins s1 σ H1 _ I1 q1) fun u s2 ⟨x,H2,I2,rx,a,ov,ex,g,q2⟩=>?_;subst ex;obtain rfl:u=yX a:=rx;exact Cw hu I2 g ry fun s3 I3=>⟨.bl (!ov.isSome),H2,I3,rfl,q2⟩
theorem gj(hu:X.A.units+1<cLine)(ho:PE X o td)(hi:PE X i ty)(hv:PE X value tv)(hs:swapsWith value (some (.Subscript o i pos')) pos.line X.env=pure false) :
 PS X (.Assign [.Subscript o i pos'] value pos) (DK td ty tv):=by
 intro pins s σ H D I h;refine wpAny_Assign_Subscript (thn (hv pins s σ H _ I h) fun r s1 ⟨v,H1,I1,rv,q1⟩=>thn (ho pins s1 σ H1 _ I1 q1) fun u s2 ⟨x,H2,I2,rx,q2⟩=>thn (hi pins s2 σ H2 _ I2 q2) fun iv s3 ⟨y,H3,I3,ry,a,H4,ex,g,q3⟩=>?_) hs;subst ex;obtain rfl:u=yX a:=rx;exact xJ hu I3 g ry rv fun s4 I4=>⟨σ,H4,I4,q3⟩
end
theorem z_{P:Program}{w:World}{H:Hp}(h:Heap)(hb:ZW<h.objs.size):ObjOk P w H (h.push { cls:=.type "dict",data:=.dict #[] }) h.objs.size (.dT []):=
 ⟨xm _,beq_eq_false_iff_ne.mpr (Ne.symm (ui hb)),[],.nil,_,#[],0,Heap.get?_push_size _ rfl,⟨rfl,rfl,rfl⟩,rfl,rfl,List.nodup_nil⟩
def Ay:TE:=fun _ H Q=>∀p,H p=none->Q (.ref p) (upd H p (.dT []))
section
variable{X:Cx}{pos:Pos}
theorem rV:PE X (.Dict [] [] pos) Ay:=fun pins s σ H Q I h=>
 wpAny_Dict_empty ⟨.ref s.heap.objs.size,_,I.laid (a:=s.heap.objs.size) (o:=.dT []) (t':=s.toks) (fun _ _ q=>Heap.get?_push_of_some _ q) (z5 _) (z_ s.heap I.big),rfl,h _ (I.hok.fresh (z5 _))⟩
end
structure M1(X:Cx)(o:Expr)(m:Str)(apos:Pos)(e:Expr)(cpos:Pos):Prop where
 base:YF o m X.env (eval o X.env)=eval o X.env
 few:((backTo cpos (starEach [e] X.env)).all (fun x=>!x.1)&&(backToKw cpos (YM [] X.env)).all (fun x=>x.1.isSome)
  && decide (([e]:List Expr).length+([]:List Keyword).length+(if ([]:List Keyword).isEmpty then 0 else 1)<30))=true
 line:(apos.endLine==cpos.line)=true
 trees:backTo cpos (starEach [e] X.env)=[(false,eval e X.env)]
structure M2(X:Cx)(o:Expr)(m:Str)(apos:Pos)(e f:Expr)(cpos:Pos):Prop where
 base:YF o m X.env (eval o X.env)=eval o X.env
 few:((backTo cpos (starEach [e,f] X.env)).all (fun x=>!x.1)&&(backToKw cpos (YM [] X.env)).all (fun x=>x.1.isSome)
  && decide (([e,f]:List Expr).length+([]:List Keyword).length+(if ([]:List Keyword).isEmpty then 0 else 1)<30))=true
 line:(apos.endLine==cpos.line)=true
 trees:backTo cpos (starEach [e,f] X.env)=[(false,eval e X.env),(false,eval f X.env)]
def IsD(H:Hp)(a:Addr):Prop:=(∃kvs,Rd H a (.dK kvs))\/∃kvs,Rd H a (.dT kvs)
theorem Al{X:Cx}{pins:List (Addr × Obj)}{σ:St}{H:Hp}{s:Shared}{a:Addr}(I:Inv X pins σ H s)(d:IsD H a) :
 s.TypeIs (.ref a) "dict" /\ (∀b,yX a = .ref b->∃ob,s.heap.get? b=some ob/\ob.dict=none)/\(a==ZW)=false:=by
 rcases d with ⟨kvs,e⟩|⟨kvs,e⟩
 ·obtain⟨_,hd,vs,_,dd⟩:=lJ I.hok e
  refine⟨dd.typeIs,fun b q=>?_,hd⟩;cases q;obtain⟨ob,_,_,h1,h2,_⟩:=dd;exact⟨ob,h1,h2.2.1⟩
 ·obtain⟨_,hd,xs,_,dd⟩:=lN I.hok e
  refine⟨dd.typeIs,fun b q=>?_,hd⟩;cases q;obtain⟨ob,_,_,h1,h2,_⟩:=dd;exact⟨ob,h1,h2.2.1⟩
section
variable{X:Cx}{pins:List (Addr × Obj)}{σ:St}{H:Hp}{s:Shared}{a:Addr}{y d:V}{u r:Value}{o:Option V}{A:Around}{E:Value->Shared->Prop}
theorem FS{Q:Value->Shared->Prop}(hu:A.units+1<cLine)(I:Inv X pins σ H s)(g:DGet H a y o)(ry:RelV y u)(h:∀w' s',Inv X pins σ H s'->RelV (o.getD .non) w'->Q w' s') :
 wpAny (model X.prog X.w) A (call (.builtin "dict.get") [.ref a,u]) Q E s:=by
 rcases g with ⟨kvs,k,e,ey,l⟩|⟨kvs,k,b,e,ey,eb,l⟩
 ·subst ey
  obtain⟨z,hd,vs,rel,dd⟩:=lJ I.hok e;refine call_meetsIn ZL dd.typeIs Yb (PySem.F.args_dict_get_2 _ _) (meets_dict_get (bC X.prog X.w) a (oA ry) hd) ⟨_,dd.mapOf,h _ _ (I.tok _) ?_⟩;rw[l];exact(rel.val k).getD rfl
 ·subst ey
  cases (show u=yX b from ry);obtain⟨z,hd,xs,rel,dd⟩:=lN I.hok e;refine call_meetsIn ZL dd.typeIs Yb (PySem.F.args_dict_get_2 _ _) (meetsH_dict_get (tupleKind (bC X.prog X.w)) a b hd) ⟨Z5 hu,k,xs,jz I.hok eb,dd,h _ _ (I.tok _) ?_⟩;rw[l];exact(rel.val k).getD rfl
theorem Fz{Q:Value->Shared->Prop}(hu:A.units+1<cLine)(I:Inv X pins σ H s)(g:DGet H a y o)(ry:RelV y u)(rd:RelV d r)(h:∀w' s',Inv X pins σ H s'->RelV (o.getD d) w'->Q w' s') :
 wpAny (model X.prog X.w) A (call (.builtin "dict.get") [.ref a,u,r]) Q E s:=by
 rcases g with ⟨kvs,k,e,ey,l⟩|⟨kvs,k,b,e,ey,eb,l⟩
 ·subst ey
  obtain⟨z,hd,vs,rel,dd⟩:=lJ I.hok e;refine call_meetsIn ZL dd.typeIs Yb (PySem.F.args_dict_get_3 _ _ _) (meets_dict_get_default (bC X.prog X.w) a (oA ry) hd r) ⟨_,dd.mapOf,h _ _ (I.tok _) ?_⟩;rw[l];exact(rel.val k).getD rd
 ·subst ey
  cases (show u=yX b from ry);obtain⟨z,hd,xs,rel,dd⟩:=lN I.hok e;refine call_meetsIn ZL dd.typeIs Yb (PySem.F.args_dict_get_3 _ _ _) (meetsH_dict_get_default (tupleKind (bC X.prog X.w)) a b hd r) ⟨Z5 hu,k,xs,jz I.hok eb,dd,h _ _ (I.tok _) ?_⟩;rw[l];exact(rel.val k).getD rd
end
def Ah(td ty:TE):TE:=fun σ H Q=>td σ H fun x H1=>∃a,x = .ref a/\IsD H1 a/\ty σ H1 fun y H2=>∃o,DGet H2 a y o/\Q (o.getD .non) H2
def A0(td ty tx:TE):TE:=fun σ H Q=>td σ H fun x H1=>∃a,x = .ref a/\IsD H1 a/\ty σ H1 fun y H2=>tx σ H2 fun z H3=>∃o,DGet H3 a y o/\Q (o.getD z) H3
section
variable{X:Cx}{o e f:Expr}{apos cpos:Pos}{td ty tx:TE}
theorem Aq(hu:X.A.units+1<cLine)(ho:PE X o td)(he:PE X e ty)(m:M1 X o "get" apos e cpos):PE X (.Call (.Attribute o "get" apos) [e] [] cpos) (Ah td ty):=by
 intro pins s σ H Q I h;refine wpAny_Call_method m.base m.few m.line PySem.F.plainAttrs_dict ZL PySem.F.type_dict_get (thn (ho pins s σ H _ I h) fun u s1 ⟨x,H1,I1,rx,a,ex,d,q1⟩=>?_);subst ex;obtain rfl:u=yX a:=rx;obtain⟨t1,t2,_⟩:=Al I1 d;refine⟨t1,t2,?_⟩;rw[m.trees];refine Calls.callWith_builtin rfl (Yq (Y4 (thn (he pins s1 σ H1 _ I1 q1) fun iv s2 ⟨y,H2,I2,ry,ov,g,q2⟩=>Calls.spliced_nil ?_)));exact FS hu I2 g ry fun w' s3 I3 rw'=>⟨_,H2,I3,rw',q2⟩
theorem tB(hu:X.A.units+1<cLine)(ho:PE X o td)(he:PE X e ty)(hf:PE X f tx)(m:M2 X o "get" apos e f cpos):PE X (.Call (.Attribute o "get" apos) [e,f] [] cpos) (A0 td ty tx):=by
 intro pins s σ H Q I h;refine wpAny_Call_method m.base m.few m.line PySem.F.plainAttrs_dict ZL PySem.F.type_dict_get (thn (ho pins s σ H _ I h) fun u s1 ⟨x,H1,I1,rx,a,ex,d,q1⟩=>?_);subst ex;obtain rfl:u=yX a:=rx;obtain⟨t1,t2,_⟩:=Al I1 d;refine⟨t1,t2,?_⟩;rw[m.trees];refine Calls.callWith_builtin rfl (Yq (Y4 (thn (he pins s1 σ H1 _ I1 q1) fun iv s2 ⟨y,H2,I2,ry,q2⟩=>
  Y4 (thn (hf pins s2 σ H2 _ I2 q2) fun fv s3 ⟨z,H3,I3,rz,ov,g,q3⟩=>Calls.spliced_nil ?_))))
 exact Fz hu I3 g ry rz fun w' s4 I4 rw'=>⟨_,H3,I4,rw',q3⟩
end
section
variable{X:Cx}{pins:List (Addr × Obj)}{σ:St}{H:Hp}{s:Shared}{a:Addr}{kvs:List (Key × V)}{A:Around}{E:Value->Shared->Prop}
end
section
variable{X:Cx}{pins:List (Addr × Obj)}{σ:St}{H:Hp}{s:Shared}{a:Addr}{y:V}{u:Value}{A:Around}{E:Value->Shared->Prop}
end
section
variable{X:Cx}{e o value:Expr}{f:Str}{ta tv:TE}{pos pos':Pos}
def EK(K:W.Frag)(f:Str):V->Hp->VK->Prop
 | .ref p,H,Q=>∃C dx fs v,H p=some (.ins C dx fs)/\Cls K C/\NoAttr K C f/\fs.lookup f=some v/\Q v H
 |_,_,_=>False
def DQ(K:W.Frag)(ta:TE)(f:Str):TE:=fun σ H Q=>ta σ H fun x H1=>EK K f x H1 Q
theorem aY(K:W.Frag)(he:PE X e ta)(hK:X.K=K:=by rfl)(hb:YF e f X.env (eval e X.env)=eval e X.env:=by rfl):PE X (.Attribute e f pos) (DQ K ta f):=by
 subst hK;intro pins s σ H Q I h;refine CZ hb (thn (he pins s σ H _ I h) fun u s1 ⟨x,H1,I1,rx,q⟩=>?_);dsimp only at q;unfold EK at q;split at q
 ·rename_i a
  obtain⟨C,dx,fs,v,ea,c,n,l,q⟩:=q;obtain rfl:u=yX a:=rx;exact vY I1 ea c n l fun u' s2 I2 ru=>⟨v,H1,I2,ru,q⟩
 ·exact q.elim
def Bw(K:W.Frag)(f:Str)(y:V):V->Hp->(Hp->Prop)->Prop
 | .ref p,H,Q=>∃C dx fs,H p=some (.ins C dx fs)/\Cls K C/\NoAttr K C f/\fs.length<1000/\Q (upd H p (.ins C dx (dI f y fs)))
 |_,_,_=>False
def DL(K:W.Frag)(ta tv:TE)(f:Str):TS:=fun D σ H=>tv σ H fun y H1=>ta σ H1 fun x H2=>Bw K f y x H2 fun H3=>D.nx σ H3
theorem df(K:W.Frag)(ha:PE X o ta)(hv:PE X value tv)(hK:X.K=K:=by rfl)(hs:swapsWith value (some (.Attribute o f pos')) pos.line X.env=pure false:=by rfl):PS X (.Assign [.Attribute o f pos'] value pos) (DL K ta tv f):=by
 subst hK;intro pins s σ H D I h;refine plainObj_wpAny_Assign_Attribute (thn (hv pins s σ H _ I h) fun u s1 ⟨y,H1,I1,ry,q⟩=>thn (ha pins s1 σ H1 _ I1 q) fun ov s2 ⟨x,H2,I2,rx,q2⟩=>?_) hs;dsimp only at q2;unfold Bw at q2;split at q2
 ·rename_i a
  obtain⟨C,dx,fs,ea,c,n,l,q2⟩:=q2;obtain rfl:ov=yX a:=rx;exact vK I2 ea c n l ry fun s3 I3=>⟨σ,_,I3,q2⟩
 ·exact q2.elim
end
section
variable{X:Cx}{CX:CXT}{k:Nat}{f C:Addr}{fd:FuncData}{ps:List Str}{sp:Sp}{dvs:List V}{ds:List Value}{E:XKs}{x m:Str}{p pos apos:Pos}{e o:Expr}{es:List Expr}{ta:TE}{t:TA}
def tT(C:Addr)(m:Str):V->Hp->(V->Prop)->Prop
 | .ref p,H,Q=>∃dx fs,H p=some (.ins C dx fs)/\fs.lookup m=none/\Q (.ref p)
 |_,_,_=>False
def nR(C:Addr)(m:Str)(sp:Sp)(dvs:List V)(E:XKs)(ta:TE)(t:TA):TE:=fun σ H Q=>ta σ H fun x0 H1=>tT C m x0 H1 (fun x=>t σ H1 fun vs H2=>sp (x::(vs++dvs)) H2 Q (E σ))
theorem Bs(he:PE X o ta)(c:Cls X.K C)(hm:AQ X.K C m f)(F:hV X.prog X.w X.K X.mg X.base CX k f fd ps sp)(hr:Room k X.A)(hb:Binds X.K fd ps ds)(hd:Vals dvs ds)(hx:bO CX X E)(ha:PA X (e::es) t)
 (hst:starEach (e::es) X.env=(false,eval e X.env)::starEach es X.env:=by rfl) (hpl:(backTo pos (starEach es X.env)).any (·.1)=false:=by rfl)
 (ht:eval (.Call (.Attribute o m apos) (e::es) [] pos) X.env=(do
  let ov <- eval o X.env
  standAt apos.atName
  let (f,first) <- holding [ov] (getMethod ov m pl)
  callWith pos f first (backTo pos (starEach (e::es) X.env)) (backToKw pos (YM [] X.env))):=by rfl) :
 PE X (.Call (.Attribute o m apos) (e::es) [] pos) (nR C m sp dvs E ta t):=by
 intro pins s σ H Q I h;refine PySem.W.methodCall_KW (pl:=pl) (thn (he pins s σ H _ I h) fun u s1 ⟨xo,H1,I1,rx,q⟩=>?_) ht;dsimp only at q;unfold tT at q;split at q
 ·rename_i a
  obtain⟨dx,fs,ea,l,q⟩:=q;obtain rfl:u=yX a:=rx;refine nY I1 ea c hm l ?_;refine PySem.W.callWith_K (first:=[.ref a]) (h₀:=X.base) I.ok.mod.kin hm.kp (thn (ha pos pins s1 σ _ _ I1 q) fun us s2 ⟨vs,H2,I2,r,q2⟩=>⟨I2.kIn,?_⟩) hst hpl;exact rE (us:=.ref a::us) (vs:=.ref a::vs) F hr hb hd hx I2 (.cons rfl r) q2
 ·exact q.elim
theorem yA(he:PE X o ta)(c:Cls X.K C)(hm:AQ X.K C m f)(F:hV X.prog X.w X.K X.mg X.base CX k f fd ps sp)(hr:Room k X.A)(hb:Binds X.K fd ps ds)(hd:Vals dvs ds)(hx:bO CX X E)
 (ht:eval (.Call (.Attribute o m apos) [] [] pos) X.env=(do
  let ov <- eval o X.env
  standAt apos.atName
  let (f,first) <- holding [ov] (getMethod ov m pl)
  callWith pos f first (backTo pos (starEach [] X.env)) (backToKw pos (YM [] X.env))):=by rfl) :
 PE X (.Call (.Attribute o m apos) [] [] pos) (nR C m sp dvs E ta kH):=by
 intro pins s σ H Q I h;refine PySem.W.methodCall_KW (pl:=pl) (thn (he pins s σ H _ I h) fun u s1 ⟨xo,H1,I1,rx,q⟩=>?_) ht;dsimp only at q;unfold tT at q;split at q
 ·rename_i a
  obtain⟨dx,fs,ea,l,q⟩:=q;obtain rfl:u=yX a:=rx;refine nY I1 ea c hm l ?_;exact PySem.W.callWith_K0 (first:=[.ref a]) I1.kIn hm.kp (rE (us:=[.ref a]) (vs:=[.ref a]) F hr hb hd hx I1 (.cons rfl .nil) q)
 ·exact q.elim
def nM(C:Addr)(sp:Sp)(dvs:List V)(E:XKs)(t:TA):TE:=fun σ H Q=>t σ H fun vs H1=>∀x dx,H1 x=none->H1 dx=none->dx≠x ->
 sp (.ref x::(vs++dvs)) (upd (upd H1 dx (.own x)) x (.ins C dx [])) (fun v H2=>v = .non/\Q (.ref x) H2) (E σ)
theorem pD(M:Mk X.K C f)(F:hV X.prog X.w X.K X.mg X.base CX k f fd ps sp)(hr:Room (k+1) X.A)(hb:Binds X.K fd ps ds)(hd:Vals dvs ds)
 (hx:bO CX X E) (I:Inv X pins σ H s) (r:Vals vs us)
 (h:∀x dx,H x=none->H dx=none->dx≠x->sp (.ref x::(vs++dvs)) (upd (upd H dx (.own x)) x (.ins C dx [])) (fun v H2=>v = .non/\Q (.ref x) H2) (E σ)) :
 wpAny (model X.prog X.w) X.A (call (.ref C) us) (EP X pins σ Q) X.xe s:=by
 have hq:=h (s.heap.objs.size+1) s.heap.objs.size (I.hok.fresh (ZV _)) (I.hok.fresh (z5 _)) (ui (Nat.lt_succ_self _));have I2:=Inv.made (C:=C) I;have r2:Vals (V.ref (s.heap.objs.size+1)::(vs++dvs)) (yX (s.heap.objs.size+1)::(us++ds)):=.cons rfl (r.append hd);have hl:(yX (s.heap.objs.size+1)::us++ds).length=ps.length:=by
  have e:=r2.length;rw[F.len _ _ _ _ hq]at e;exact e.symm
 refine wpAny_call (A1 (f:=f) I.kIn M.makes M.init (beq_iff_eq.mp M.fn) (codeAny_mono (F.run _ X.stack _ _ ⟨yX (s.heap.objs.size+1)::us,[]⟩ (yX (s.heap.objs.size+1)::(us++ds)) _ _ (E σ) (hr.make C us [])
  (I2.env0.make C us []) (hb _ (yX (s.heap.objs.size+1)::us) I2.kIn hl) r2 hq) fun r s' hq'=>?_))
 cases r with
 |error e=>exact hx pins σ _ _ e s' I2 hq'
 |ok fl=>
  cases fl with
  |ret u=>
   obtain⟨v,H',I3,rv,ev,q3⟩:=I2.after hq';subst ev;exact⟨rv,⟨V.ref (s.heap.objs.size+1),H',I3,rfl,q3⟩⟩
  |next=>exact ZS hq'
  |brk=>exact ZS hq'
  |cont=>exact ZS hq'
theorem A4(M:Mk X.K C f)(F:hV X.prog X.w X.K X.mg X.base CX k f fd ps sp)(hr:Room (k+1) X.A)(hg:Gl X x)(hm:X.mg x=some (.ref C))(hb:Binds X.K fd ps ds)(hd:Vals dvs ds)(hx:bO CX X E)
 (ha:PA X (e::es) t) (hdb:(x==("__debug__":Str))=false:=by decide) (he:starEach (e::es) X.env=(false,eval e X.env)::starEach es X.env:=by rfl) (hpl:(backTo pos (starEach es X.env)).any (·.1)=false:=by rfl) :
 PE X (.Call (.Name x p) (e::es) [] pos) (nM C sp dvs E t):=by
 intro pins s σ H Q I h;refine Yc (ie I hg hm ?_ hdb);refine PySem.W.callWith_K (h₀:=X.base) I.ok.mod.kin M.kp (thn (ha pos pins s σ H _ I h) fun us s1 ⟨vs,H1,I1,r,q⟩=>⟨I1.kIn,?_⟩) he hpl;exact pD M F hr hb hd hx I1 r q
theorem xN(M:Mk X.K C f)(F:hV X.prog X.w X.K X.mg X.base CX k f fd ps sp)(hr:Room (k+1) X.A)(hg:Gl X x)(hm:X.mg x=some (.ref C))(hb:Binds X.K fd ps ds)(hd:Vals dvs ds)(hx:bO CX X E)
 (hdb:(x==("__debug__":Str))=false:=by decide):PE X (.Call (.Name x p) [] [] pos) (nM C sp dvs E kH):=by
 intro pins s σ H Q I h;refine Yc (ie I hg hm ?_ hdb);exact PySem.W.callWith_K0 I.kIn M.kp (pD (us:=[]) M F hr hb hd hx I .nil h)
end
def c6(wi:TI)(n:Nat)(g:TG)(ks:List Nat)(tt:TT)(te:TE):TE:=fun σ H Q=>wi σ H fun J H1=>∀D,H1 D=none->∃W:Nat->Nat->List V->Hp->Prop,(∃m,W 0 m [] (upd H1 D (.lst []))) /\
 ∀i m ys H2,W i m ys H2->H2 D=some (.lst ys)/\((J.stop i H2/\Q (.ref D) H2)\/(J.go i H2/\∀x H3,J.yld i H2 x H3->∀zs:St,zs.length=n ->
  g x (zs++ks.map fun k=>(σ[k]?).join) H3 fun σ4 H4=>(∃zs4:St,zs4.length=n/\σ4=zs4++ks.map fun k=>(σ[k]?).join) /\
   tt σ4 H4 fun b H5=>if b=true then te σ4 H5 fun y H6=>H6 D=some (.lst ys)/\ys.length<sizeLine/\∃m',m'<m/\W (i+1) m' (ys++[y]) (upd H6 D (.lst (ys++[y])))
    else ∃m',m'<m/\W (i+1) m' ys H5))
structure GW(gd:Cx->Prop)(P:Program)(w:World)(K:W.Frag)(tg:Expr)(J:It)(fp:List Addr)(it:Addr)(tn:Nat->Heap->Prop):Prop where
 mem:it∈fp
 obj:∀i h,tn i h->∀b∈fp,∃o,h.get? b=some o/\∀v,o.data ≠ .cell v
 keep:∀i h h',tn i h->(∀b∈fp,∀o,h.get? b=some o->h'.get? b=some o)->tn i h'
 item:∀(X:Cx),X.prog=P->X.w=w->X.K=K->gd X->∀(i:Nat) (pins:List (Addr × Obj)) (s:Shared) (σ:St) (H:Hp) (E:Value->Shared->Prop),Inv X pins σ H s->(∀b∈fp,j_ X pins H b)->tn i s.heap->J.go i H ->
  wpAny (model P w) X.A (pyNext (.ref it)) (fun r s1=>∃u,r=some u /\
   wpAny (model P w) X.A (YA tg (.ref it) u) (fun _ s2=>∃x H',Inv X pins σ H' s2/\RelV x u/\J.yld i H x H'/\tn (i+1) s2.heap/\∀b∈fp,H' b=none) E s1) E s
 done:∀(X:Cx),X.prog=P->X.w=w->X.K=K->gd X->∀(i:Nat) (pins:List (Addr × Obj)) (s:Shared) (σ:St) (H:Hp) (E:Value->Shared->Prop),Inv X pins σ H s->(∀b∈fp,j_ X pins H b)->tn i s.heap->J.stop i H ->
  wpAny (model P w) X.A (pyNext (.ref it)) (fun r s1=>r=none/\Inv X pins σ H s1) E s
 self:∀(A:Around) (i:Nat) (s:Shared) (Q:Value->Shared->Prop) (E:Value->Shared->Prop),tn i s.heap->Q (.ref it) s->wpAny (model P w) A (pyIter (.ref it)) Q E s
def PIG(gd:Cx->Prop)(X:Cx)(tg iter:Expr)(wi:TI):Prop:=
 ∀(pins:List (Addr × Obj)) (s:Shared) (σ:St) (H:Hp) (R:It->Hp->Prop),Inv X pins σ H s->wi σ H R ->
  wpAny (model X.prog X.w) X.A (eval iter X.env) (fun v s1=>wpAny (model X.prog X.w) X.A (pyIter v) (fun itv s2=>∃(it:Addr) (fp:List Addr) (tn:Nat->Heap->Prop) (J:It) (H':Hp),itv = .ref it/\Inv X pins σ H' s2/\GW gd X.prog X.w X.K tg J fp it tn/\tn 0 s2.heap/\(∀b∈fp,j_ X pins H' b)/\R J H') X.xe s1) X.xe s
theorem wH(h:PI X tg iter wi):PIG (fun X=>X.calm=true) X tg iter wi:=fun pins s σ H R I q=>
 uY (h pins s σ H R I q) (fun v s1 h1=>uY h1 (fun itv s2 ⟨it,fp,tn,J,H',e,I2,T,r⟩=>⟨it,fp,tn,J,H',e,I2,⟨T.mem,T.obj,T.keep,T.item,T.done,T.self⟩,r⟩) fun _ _ z=>z) fun _ _ z=>z
def cR(X:Cx)(N:List Str)(scope:Scope)(cl:List (Str × Addr))(fnc:Str->Bool)(C:Addr)(s₂:Shared)(H₂:Hp)(ex:List Addr)(pn:List (Addr × Obj)):Cx:=
 { c8 X N scope cl C s₂ H₂ ex pn with fn:=fnc }
structure CompCells(X:Cx)(scope:Scope)(cl:List (Str × Addr))(cl2:Addr->List (Str × Addr))(fnc:Str->Bool)(fr:List Str):Prop where
 clos:closureFor scope X.env=pure cl
 kind:scope.kind = .function
 names:∀y∈scope.names,y.2 = .local->scope.names.lookup y.1=some .local
 lay:∀(M:Model) (A:Around) (E:Value->Shared->Prop) (Q:Env->Shared->Prop) (s:Shared),(∀h₁ t₁ m,h₁.Ns s.heap.objs.size m->(∀b o,s.heap.get? b=some o->h₁.get? b=some o)->(∀y c,fnc y=true->(cl2 s.heap.objs.size).lookup y=some c->s.heap.objs.size<c/\h₁.IsCell c none) ->
  Q { scope:=scope,locals:=s.heap.objs.size,globals:=X.env.globals,cells:=cl2 s.heap.objs.size,qual:=X.env.qual,func:=none,code:=X.env.code,frame:=X.env.frame,builtins:=X.env.builtins } { s with heap:=h₁,toks:=t₁ })->wpAny M A (newFunctionEnv scope X.env.globals cl [] X.env.qual none .none (some X.env)) Q E s
 only:∀C y,((relabel scope X.env).names.lookup y=some .cell\/(relabel scope X.env).names.lookup y=some .free)->y∈fr\/∃c,(cl2 C).lookup y=some c
 sub:∀C y c,(cl2 C).lookup y=some c->fnc y=false->X.env.cells.lookup y=some c
 cell:∀C,∀y∈fr,(cl2 C).lookup y=X.env.cells.lookup y
 inj:∀C y z c,fnc y=true->fnc z=true->(cl2 C).lookup y=some c->(cl2 C).lookup z=some c->y=z
 kinds:∀y∈fr,X.env.kindOf y=some .cell\/X.env.kindOf y=some .free
 kin:∀y∈fr,(relabel scope X.env).names.lookup y=some .cell\/(relabel scope X.env).names.lookup y=some .free
theorem pP(hc:∀C s₂ H₂ ex pn,gd (cR X (xs++fr) scope (cl2 C) fnc C s₂ H₂ ex pn))(S:CompCells X scope cl cl2 fnc fr)
 (hks:ks.map (fun k=>X.N[k]?)=fr.map some) (hi:PIG gd X tg iter wi) (hg:∀C s₂ H₂ ex pn,PG (cR X (xs++fr) scope (cl2 C) fnc C s₂ H₂ ex pn) tg g)
 (ht:∀C s₂ H₂ ex pn,PTs (cR X (xs++fr) scope (cl2 C) fnc C s₂ H₂ ex pn) ifs tt) (he:∀C s₂ H₂ ex pn,PE (cR X (xs++fr) scope (cl2 C) fnc C s₂ H₂ ex pn) elt te)
 (hs:∀x,ZH iter X.env x=pure x:=by intro _;rfl)
 (I:Inv X pins σ H s) (h:c6 wi xs.length g ks tt te σ H Q) (use:Option (Value->Sem Unit)) (Qp:Value->Shared->Prop)
 (hend:∀(D C:Addr) (H':Hp) (s':Shared) (mC:Str->Option Value) (f:Flow),Inv X pins σ H' s'->j_ X pins H' C->s'.heap.Ns C mC->Q (.ref D) H'->compPost (model X.prog X.w) X.A X.xe use Qp (.ref D) C (.ok f) s') :
 wpAny (model X.prog X.w) X.A (comprehension (.ListComp elt [⟨tg,iter,ifs,0⟩] scope pos) scope X.env (firstIterPos [⟨tg,iter,ifs,0⟩] pos) (newList []) false (firstIter [⟨tg,iter,ifs,0⟩] X.env) use) Qp X.xe s:=by
 refine wpAny_comprehension_free (use:=use) rfl hs S.clos S.kind S.names (thn (hi pins s σ H _ I h) fun v s1 h1=>thn h1 fun itv s2 h2=>?_);obtain⟨it,fp,tn,J,H2,e,I2,T,st2,f2,hW⟩:=h2;subst e;refine ZR ?_;have hD0:H2 s2.heap.objs.size=none:=I2.hok.fresh (z5 _);obtain⟨W,⟨m0,w0⟩,turn⟩:=hW s2.heap.objs.size hD0;generalize hs3:s2.heap.push { cls:=.type "list",dict:=none,data:=.seq ([]:List Value).toArray }=g3;have hsz3:g3.objs.size=s2.heap.objs.size+1:=by rw[<- hs3,Heap.size_push]
 have up3:∀b o,s2.heap.get? b=some o->g3.get? b=some o:=fun b o e=>by rw[<- hs3];exact Heap.get?_push_of_some _ e
 have gD:g3.get? s2.heap.objs.size=some { cls:=.type "list",dict:=none,data:=.seq ([]:List Value).toArray }:=by rw[<- hs3];exact Heap.get?_push_size _ rfl
 have I3:Inv X pins σ (upd H2 s2.heap.objs.size (.lst [])) { s2 with heap:=g3 }:=I2.laid (t':=s2.toks) up3 (z5 _) ⟨by simp,[],0,.nil,gD⟩;refine S.lay _ _ _ _ _ fun h₁ t₁ m₁ hns₁ keep4 hnew=>?_;dsimp only at hns₁ keep4 hnew |-
 have hsub:∀y c,(cl2 g3.objs.size).lookup y=some c->X.env.cells.lookup y=some c\/(fnc y=true/\g3.objs.size<c/\h₁.IsCell c none):=fun y c e=>by
  cases hf:fnc y with
  |false=>exact .inl (S.sub _ y c e hf)
  |true=>exact .inr ⟨rfl,hnew y c hf e⟩
 have hCn:(upd H2 s2.heap.objs.size (.lst [])) g3.objs.size=none:=I3.hok.fresh (z5 _);have fpD:∀b∈fp,b≠s2.heap.objs.size:=fun b hb z=>by
  obtain⟨o,e,_⟩:=T.obj 0 _ st2 b hb;exact absurd (y3 e) (by rw[z];exact ZZ _)
 have fpC:∀b∈fp,b≠g3.objs.size:=fun b hb z=>by
  obtain⟨o,e,_⟩:=T.obj 0 _ st2 b hb;exact absurd (y3 (up3 b o e)) (by rw[z];exact ZZ _)
 have fpN:∀b∈fp,(upd H2 s2.heap.objs.size (.lst [])) b=none:=fun b hb=>by rw[ah (fpD b hb)];exact(f2 b hb).1
 have old:∀y c,X.env.cells.lookup y=some c->c<g3.objs.size:=fun y c e=>by
  obtain⟨v,q⟩:=I3.cell y c e;exact q.lt
 have cfp:∀b∈fp,∀y c,(cl2 g3.objs.size).lookup y=some c->c≠b:=fun b hb y c e=>by
  rcases hsub y c e with q|⟨_,l,_⟩
  ·exact(f2 b hb).2.2.2.2.1 y c q
  ·obtain⟨o,e,_⟩:=T.obj 0 _ st2 b hb
   exact fun z=>absurd (y3 (up3 b o e)) (by rw[<- z];exact Nat.not_lt.mpr (Yw l))
 have Ok:(cR X (xs++fr) scope (cl2 g3.objs.size) fnc g3.objs.size { s2 with heap:=g3 } (upd H2 s2.heap.objs.size (.lst [])) fp (X.pn++pins)).Ok:=by
  refine⟨I.ok.mod,S.kind,I.ok.glob,I.ok.blt,z5 _,fun y z c e1 e2=>?_,fun y hy=>?_,fun y c z e=>Yw (hnew y c z e).1,I.ok.hd,I.ok.frames,.inl rfl,fun b hb=>⟨fpC b hb,cfp b hb⟩,I3.bs,xx I.ok.bsz I3.sz,fun b o e hb=>?_,fun b hb z=>?_,I3.stack,I3.stkFree⟩
  ·rcases hsub y c e1 with q|⟨q,l,_⟩ <;> rcases hsub z c e2 with q'|⟨q',l',_⟩
   ·exact I.ok.inj y z c q q'
   ·exact absurd (old y c q) (Nat.not_lt.mpr (Yw l'))
   ·exact absurd (old z c q') (Nat.not_lt.mpr (Yw l))
   ·exact S.inj _ y z c q q' e1 e2
  ·rcases S.only _ y hy with hy|hy
   ·obtain⟨c,e⟩:=I.ok.has y (S.kinds y hy)
    exact⟨c,(S.cell _ y hy).trans e⟩
   ·exact hy
  ·rcases(f2 b hb).2.2.2.1 with q|q
   ·exact I.ok.noex b o e q
   ·exact absurd (y3 e) (Nat.not_lt.mpr (xx I.ok.bsz q))
  ·rcases z6.mp (I3.stkSub b z) with q|q
   ·exact(f2 b hb).2.1 q
   ·exact(f2 b hb).2.2.1 q
 have I4:Inv (cR X (xs++fr) scope (cl2 g3.objs.size) fnc g3.objs.size { s2 with heap:=g3 } (upd H2 s2.heap.objs.size (.lst [])) fp (X.pn++pins)) [] ((xs.map fun _=>none)++ks.map fun k=>(σ[k]?).join) (upd H2 s2.heap.objs.size (.lst [])) { s2 with heap:=h₁,toks:=t₁ }:=by
  refine⟨Ok,rfl,I3.bare,Un.kept keep4,⟨_,hns₁,fun i y v e1 e2 e3=>?_⟩,fun y c e=>?_,hCn,fun y c e=>?_,fun p hp=>?_,I3.hok.kept keep4,?_⟩
  ·have e1':(xs++fr)[i]? = some y:=e1
   by_cases hix:i<xs.length
   ·rw[List.getElem?_append_left (by simpa using hix)]at e2
    simp[hix]at e2
   ·obtain⟨i,rfl⟩:∃i',i=xs.length+i':=⟨i-xs.length,by lia⟩
    rw[List.getElem?_append_right (by lia)]at e1';rw[List.getElem?_append_right (by simp)]at e2;have e1':fr[i]? = some y:=by simpa using e1'
    have e2:(ks.map fun k=>(σ[k]?).join)[i]? = some (some v):=by simpa using e2
    have hy:y∈fr:=yO e1';have ek:(ks.map (fun k=>X.N[k]?))[i]? = (fr.map some)[i]?:=by rw[hks]
    rw[List.getElem?_map,List.getElem?_map,e1']at ek;have e2':=e2;rw[List.getElem?_map]at e2';cases hk:ks[i]? with
    |none=>rw[hk]at ek;cases ek
    |some k=>
     rw[hk]at ek e2';have ek':X.N[k]? = some y:=by simpa using ek
     have e2'':(σ[k]?).join=some v:=by simpa using e2'
     have es:σ[k]? = some (some v):=by
      cases q:σ[k]? with
      |none=>rw[q]at e2'';cases e2''
      |some z=>rw[q]at e2'';rw[show z=some v from e2'']
     obtain⟨m,hn,hl⟩:=I3.loc;have hkd:=S.kinds y hy;obtain⟨u,r,lk⟩:=hl k y v ek' es (by rcases hkd with q|q;exact .inr (.inl q);exact .inr (.inr q));refine⟨u,r,.inr ⟨S.kin y hy,?_⟩⟩;rcases lk with ⟨q,_⟩|⟨_,c,ec,hcell⟩
     ·rcases hkd with z|z <;> (rw[q]at z;cases z)
     ·obtain⟨o,ho,hd⟩:=hcell
      exact⟨c,(S.cell _ y hy).trans ec,o,keep4 _ _ ho,hd⟩
  ·rcases hsub y c e with q|⟨_,_,q⟩
   ·obtain⟨v,o,ho,hd⟩:=I3.cell y c q
    exact⟨v,o,keep4 _ _ ho,hd⟩
   ·exact⟨_,q⟩
  ·rcases hsub y c e with q|⟨_,l,_⟩
   ·exact I3.freeC y c q
   ·exact I3.hok.fresh (Yw l)
  ·have hp':p∈X.pn++pins:=by simpa [cR,c8] using hp
   obtain⟨a1,a2,a3,a4,a5⟩:=I3.pin p hp';refine⟨keep4 _ _ a1,a2,ui (y3 a1),fun z=>?_,a5⟩;rcases z6.mp (I3.stkSub p.1 z) with q|q
   ·exact a3 q
   ·exact a4 q
  ·show((xs.map fun _=>none)++ks.map _).length=(xs++fr).length
   have:=congrArg Y8 hks;simp at this;simp[this]
 have st4:tn 0 h₁:=T.keep 0 _ _ st2 fun b hb o e=>keep4 _ _ (up3 _ _ e);have stat:∀ {H':Hp},(∀b∈fp,H' b=none)->∀b∈fp,j_ (cR X (xs++fr) scope (cl2 g3.objs.size) fnc g3.objs.size { s2 with heap:=g3 } (upd H2 s2.heap.objs.size (.lst [])) fp (X.pn++pins)) [] H' b:=fun hn b hb=>
  ⟨hn b hb,fpC b hb,Ok.exfs b hb,.inl hb,cfp b hb,fun p hp=>(f2 b hb).2.2.2.2.2 p (by simpa [cR,c8] using hp)⟩
 have loop:codeAny (model X.prog X.w) X.A (.compLoop (.ListComp elt [⟨tg,iter,ifs,0⟩] scope pos) 0 (.ref it) (.ref s2.heap.objs.size) (compEnvC scope (cl2 g3.objs.size) g3.objs.size X.env))
  (compPost (model X.prog X.w) X.A X.xe use Qp (.ref s2.heap.objs.size) g3.objs.size) { s2 with heap:=h₁,toks:=t₁ }:=by
  refine qA (fun n s'=>∃i ys σ' H',Inv (cR X (xs++fr) scope (cl2 g3.objs.size) fnc g3.objs.size { s2 with heap:=g3 } (upd H2 s2.heap.objs.size (.lst [])) fp (X.pn++pins)) [] σ' H' s'/\(∃zs,zs.length=xs.length/\σ'=zs++ks.map fun k=>(σ[k]?).join)/\tn i s'.heap/\(∀b∈fp,H' b=none)/\W i n ys H') ?_ m0
   ⟨0,[],_,_,I4,⟨xs.map fun _=>none,by simp,rfl⟩,st4,fpN,w0⟩
  rintro n s' ⟨i,ys,σ',H',I5,⟨zs,hzs,rfl⟩,st5,fr5,w5⟩;obtain⟨hD,hor⟩:=turn i n ys H' w5;rcases hor with ⟨stop,qn⟩|⟨go,step⟩
  ·refine uY (T.done (cR X (xs++fr) scope (cl2 g3.objs.size) fnc g3.objs.size { s2 with heap:=g3 } (upd H2 s2.heap.objs.size (.lst [])) fp (X.pn++pins)) rfl rfl rfl (hc _ _ _ _ _) i [] s' _ H' (fun _ _=>False) I5 (stat fr5) st5 stop) (fun r s6 ⟨hr,I6⟩=>?_) (fun _ _ f=>f.elim)
   subst hr;obtain⟨mC,hnC,_⟩:=I6.loc;have tr:∀b o,b≠g3.objs.size->s6.heap.get? b=some o->s6.heap.get? b=some o:=fun b o hb e=>e;have U:=I6.base;have neC:∀b o,g3.get? b=some o->b≠g3.objs.size:=fun b o e=>ui (y3 e);have U':Un (frs X.stack) fp (upd H2 s2.heap.objs.size (.lst [])) H' g3 s6.heap:=⟨fun b o q n hb hx=>tr b o (neC b o q) (U.keep b o q n hb hx),fun b o q n hb hx=>let ⟨sl,e⟩:=U.slot b o q n hb hx;⟨sl,tr _ _ (neC b o q) e⟩,U.free,fun b o q hx=>let ⟨o',e⟩:=U.there b o q hx;⟨o',tr _ _ (neC b o q) e⟩,U.tups,U.frzs,U.tbls⟩;have ok':HOk X.prog X.w H' s6.heap:=fun a o e=>(I6.hok a o e).stay (fun b u hb q=>tr b u (fun z=>by
    have fC:H' g3.objs.size=none:=I6.free;rcases hb with r|r
    ·rw[<- z,r,e]at fC;cases fC
    ·rw[<- z,r]at fC;cases fC) q) (fun _ q=>q) fun _ _ q=>q
   have J6:Inv X pins σ H' s6:=I3.call' (s':=s6) (ch:=fp) I6.os U' ok' I6.bare fun b hb=>⟨(f2 b hb).2.2.2.1,(f2 b hb).2.1,(f2 b hb).2.2.2.2.1,(f2 b hb).2.2.2.2.2⟩;exact hend s2.heap.objs.size g3.objs.size H' s6 mC _ J6 (I3.fpOk (z5 _) I6.free) hnC qn
  ·refine uY (T.item (cR X (xs++fr) scope (cl2 g3.objs.size) fnc g3.objs.size { s2 with heap:=g3 } (upd H2 s2.heap.objs.size (.lst [])) fp (X.pn++pins)) rfl rfl rfl (hc _ _ _ _ _) i [] s' _ H' (fun _ _=>False) I5 (stat fr5) st5 go) (fun r s6 ⟨u,hr,h6⟩=>?_) (fun _ _ f=>f.elim)
   subst hr;refine uY h6 (fun _ s7 ⟨xv,H7,I7,r7,y7,st7,fr7⟩=>?_) (fun _ _ f=>f.elim);have I7':=I7.pinned (stat fr7) (T.obj _ _ st7);have pinsTo:∀ {σ9:St} {H9:Hp} {s9:Shared},Inv (cR X (xs++fr) scope (cl2 g3.objs.size) fnc g3.objs.size { s2 with heap:=g3 } (upd H2 s2.heap.objs.size (.lst [])) fp (X.pn++pins)) ([]++nj fp s7.heap) σ9 H9 s9->tn (i+1) s9.heap/\∀b∈fp,H9 b=none:=fun {σ9 H9 s9} I9=>
    ⟨T.keep _ _ _ st7 fun b hb o e=>(I9.pin (b,o) (xU _ (xU _ (ij hb e)))).1,fun b hb=>by
     obtain⟨o,e,d⟩:=T.obj _ _ st7 b hb;exact(I9.pin (b,o) (xU _ (xU _ (ij hb e)))).2.1⟩
   refine uY (hg _ _ _ _ _ _ s7 _ H7 xv u _ I7' r7 (step xv H7 y7 zs hzs)) (fun _ s8 ⟨σ8,H8,I8,⟨zs4,hz4,e8⟩,q8⟩=>?_) (fun _ _ f=>f.elim);subst e8;refine uY (ht _ _ _ _ _ _ s8 _ H8 _ I8 q8) (fun ok s9 ⟨H9,I9,q9⟩=>?_) (fun _ _ f=>f.elim);cases ok with
   |false=>
    rw[if_neg y9]at q9 |-
    obtain⟨m',hm,w9⟩:=q9;obtain⟨t9,f9⟩:=pinsTo I9;exact⟨m',hm,i+1,ys,_,H9,I9.unpinned,⟨zs4,hz4,rfl⟩,t9,f9,w9⟩
   |true=>
    rw[if_pos rfl]at q9 |-
    refine uY (he _ _ _ _ _ _ s9 _ H9 _ I9 q9) (fun yv s10 ⟨y,H10,I10,r10,hD10,hlen,m',hm,w10⟩=>?_) (fun _ _ f=>f.elim);refine uY (eh (X:=cR X (xs++fr) scope (cl2 g3.objs.size) fnc g3.objs.size { s2 with heap:=g3 } (upd H2 s2.heap.objs.size (.lst [])) fp (X.pn++pins)) _ s10 _ H10 (.ref s2.heap.objs.size) [y] (.ref s2.heap.objs.size) [yv]
     (fun _ H'=>H'=upd H10 s2.heap.objs.size (.lst (ys++[y]))) I10 rfl (.cons r10 .nil) ⟨_,ys,y,rfl,rfl,hD10,hlen,rfl⟩) (fun _ s11 ⟨_,H11,I11,_,e11⟩=>?_) (fun _ _ f=>f.elim)
    subst e11;obtain⟨t11,f11⟩:=pinsTo I11;exact⟨m',hm,i+1,ys++[y],_,_,I11.unpinned,⟨zs4,hz4,rfl⟩,t11,f11,w10⟩
 exact codeAny_compStart_list loop (T.self X.A 0 _ _ _ st4 loop)
theorem CompScope.cs(S:CompScope X scope cl x fr):CompCells X scope cl (fun _=>cl) (fun _=>false) fr:=
 ⟨S.clos,S.kind,S.names,fun M A E Q s k=>wpAny_newFunctionEnv S.nocell (by intro y hy;simp at hy) (fun h₁ hn hs=>k h₁ _ _ hn (fun b o e=>(hs.2 b (ui (y3 e))).trans (Heap.get?_push_of_some _ e)) fun _ _ z=>nomatch z) S.kind,
  fun _ y hy=>.inl (S.only y hy),fun _ _ _ e _=>S.sub e,fun _ _ h=>S.cell h,(fun _ _ _ _ z=>nomatch z),S.kinds,S.kin⟩
theorem yL(hc:∀C s₂ H₂ ex pn,gd (c8 X (xs++fr) scope cl C s₂ H₂ ex pn))(S:CompScope X scope cl x fr)
 (hks:ks.map (fun k=>X.N[k]?)=fr.map some) (hi:PIG gd X tg iter wi) (hg:∀C s₂ H₂ ex pn,PG (c8 X (xs++fr) scope cl C s₂ H₂ ex pn) tg g)
 (ht:∀C s₂ H₂ ex pn,PTs (c8 X (xs++fr) scope cl C s₂ H₂ ex pn) ifs tt) (he:∀C s₂ H₂ ex pn,PE (c8 X (xs++fr) scope cl C s₂ H₂ ex pn) elt te)
 (hs:∀x,ZH iter X.env x=pure x:=by intro _;rfl)
 (I:Inv X pins σ H s) (h:c6 wi xs.length g ks tt te σ H Q) (use:Option (Value->Sem Unit)) (Qp:Value->Shared->Prop)
 (hend:∀(D C:Addr) (H':Hp) (s':Shared) (mC:Str->Option Value) (f:Flow),Inv X pins σ H' s'->j_ X pins H' C->s'.heap.Ns C mC->Q (.ref D) H'->compPost (model X.prog X.w) X.A X.xe use Qp (.ref D) C (.ok f) s') :
 wpAny (model X.prog X.w) X.A (comprehension (.ListComp elt [⟨tg,iter,ifs,0⟩] scope pos) scope X.env (firstIterPos [⟨tg,iter,ifs,0⟩] pos) (newList []) false (firstIter [⟨tg,iter,ifs,0⟩] X.env) use) Qp X.xe s:=pP (gd:=gd) (cl2:=fun _=>cl) (fnc:=fun _=>false) hc S.cs hks hi hg ht he hs I h use Qp hend
theorem yy(hc:X.calm=true)(S:CompScope X scope cl x fr)
 (hks:ks.map (fun k=>X.N[k]?)=fr.map some) (hi:PI X tg iter wi) (hg:∀C s₂ H₂ ex pn,PG (c8 X (xs++fr) scope cl C s₂ H₂ ex pn) tg g)
 (ht:∀C s₂ H₂ ex pn,PTs (c8 X (xs++fr) scope cl C s₂ H₂ ex pn) ifs tt) (he:∀C s₂ H₂ ex pn,PE (c8 X (xs++fr) scope cl C s₂ H₂ ex pn) elt te)
 (hs:∀x,ZH iter X.env x=pure x:=by intro _;rfl)
 (I:Inv X pins σ H s) (h:c6 wi xs.length g ks tt te σ H Q) (use:Option (Value->Sem Unit)) (Qp:Value->Shared->Prop)
 (hend:∀(D C:Addr) (H':Hp) (s':Shared) (mC:Str->Option Value) (f:Flow),Inv X pins σ H' s'->j_ X pins H' C->s'.heap.Ns C mC->Q (.ref D) H'->compPost (model X.prog X.w) X.A X.xe use Qp (.ref D) C (.ok f) s') :
 wpAny (model X.prog X.w) X.A (comprehension (.ListComp elt [⟨tg,iter,ifs,0⟩] scope pos) scope X.env (firstIterPos [⟨tg,iter,ifs,0⟩] pos) (newList []) false (firstIter [⟨tg,iter,ifs,0⟩] X.env) use) Qp X.xe s:=yL (gd:=fun X=>X.calm=true) (fun _ _ _ _ _=>hc) S hks (wH hi) hg ht he hs I h use Qp hend
theorem bz(hc:X.calm=true)(S:CompScope X scope cl x fr)
 (hks:ks.map (fun k=>X.N[k]?)=fr.map some) (hi:PI X tg iter wi) (hg:∀C s₂ H₂ ex pn,PG (c8 X (xs++fr) scope cl C s₂ H₂ ex pn) tg g)
 (ht:∀C s₂ H₂ ex pn,PTs (c8 X (xs++fr) scope cl C s₂ H₂ ex pn) ifs tt) (he:∀C s₂ H₂ ex pn,PE (c8 X (xs++fr) scope cl C s₂ H₂ ex pn) elt te)
 (hs:∀x,ZH iter X.env x=pure x:=by intro _;rfl):PE X (.ListComp elt [⟨tg,iter,ifs,0⟩] scope pos) (c6 wi xs.length g ks tt te):=by
 intro pins s σ H Q I h;rw[eval_ListComp];refine yy hc S hks hi hg ht he hs I h none _ fun D C H' s' mC f J fp hn q=>⟨mC,hn,fun h' sb=>?_⟩;obtain⟨f0,f1,f2,f3,f4,f5⟩:=fp;exact⟨.ref D,H',J.turned (t':=s'.toks) (fun b o hb e=>(sb.2 b hb).trans e) f0 f1 f3 f4 f5,rfl,q⟩
theorem sh(hN:X.N.Nodup)(hi0:X.N[i0]? = some x0)(hx0:Loc X.env.scope x0)(hc:X.calm=true)(S:CompCells X scope cl cl2 fnc fr)
 (hks:ks.map (fun k=>X.N[k]?)=fr.map some) (hi:PI X tg iter wi) (hg:∀C s₂ H₂ ex pn,PG (cR X (xs++fr) scope (cl2 C) fnc C s₂ H₂ ex pn) tg g)
 (ht:∀C s₂ H₂ ex pn,PTs (cR X (xs++fr) scope (cl2 C) fnc C s₂ H₂ ex pn) ifs tt) (he:∀C s₂ H₂ ex pn,PE (cR X (xs++fr) scope (cl2 C) fnc C s₂ H₂ ex pn) elt te)
 (hs:∀x,ZH iter X.env x=pure x:=by intro _;rfl)
 (hsw:swapsWith (.ListComp elt [⟨tg,iter,ifs,0⟩] scope pos) (some (.Name x0 px0)) pos0.line X.env=pure true:=by rfl) (hf:X.fn x0=true\/X.env.scope.names.lookup x0=some .local:=by first|exact .inl rfl|exact .inr rfl|assumption) :
 PS X (.Assign [.Name x0 px0] (.ListComp elt [⟨tg,iter,ifs,0⟩] scope pos) pos0) (vA (c6 wi xs.length g ks tt te) (iq i0)):=by
 intro pins s σ H D I h;rw[exec_Assign_Name_used _ _ _ _ hsw];refine zw (YX (zw (zw ?_)));refine pP (gd:=fun X=>X.calm=true) (fun _ _ _ _ _=>hc) S hks (wH hi) hg ht he hs I h (some (assign (.Name x0 px0) X.env)) _ fun D' C H' s' mC f J fp hn q=>?_;obtain⟨f0,f1,f2,f3,f4,f5⟩:=fp;refine wpAny_assign_Name (o9 J hN hi0 hx0 (v:=.ref D') rfl (fun s7 I7 ⟨a,sb,ha⟩=>?_) hf);have hCa:C≠a:=by
  rcases ha with e|e
  ·rw[e];exact f1
  ·exact fun z=>f4 _ _ e z.symm
 refine⟨mC,hn.sameBut sb hCa,fun h' sb2=>?_⟩;have J2:=I7.turned (t':=s7.toks) (fun b o hb e=>(sb2.2 b hb).trans e) f0 f1 f3 f4 f5;exact yt (yt ⟨_,H',J2,q⟩)
theorem jL(hN:X.N.Nodup)(hi0:X.N[i0]? = some x0)(hx0:Loc X.env.scope x0)(hc:X.calm=true)(S:CompScope X scope cl x fr)
 (hks:ks.map (fun k=>X.N[k]?)=fr.map some) (hi:PI X tg iter wi) (hg:∀C s₂ H₂ ex pn,PG (c8 X (xs++fr) scope cl C s₂ H₂ ex pn) tg g)
 (ht:∀C s₂ H₂ ex pn,PTs (c8 X (xs++fr) scope cl C s₂ H₂ ex pn) ifs tt) (he:∀C s₂ H₂ ex pn,PE (c8 X (xs++fr) scope cl C s₂ H₂ ex pn) elt te)
 (hs:∀x,ZH iter X.env x=pure x:=by intro _;rfl)
 (hsw:swapsWith (.ListComp elt [⟨tg,iter,ifs,0⟩] scope pos) (some (.Name x0 px0)) pos0.line X.env=pure true:=by rfl) (hf:X.fn x0=true\/X.env.scope.names.lookup x0=some .local:=by first|exact .inl rfl|exact .inr rfl|assumption) :
 PS X (.Assign [.Name x0 px0] (.ListComp elt [⟨tg,iter,ifs,0⟩] scope pos) pos0) (vA (c6 wi xs.length g ks tt te) (iq i0)):=sh (cl2:=fun _=>cl) (fnc:=fun _=>false) hN hi0 hx0 hc S.cs hks hi hg ht he hs hsw hf
theorem CompCells.one(h1:closureFor scope X.env=pure cl)(h2:scope.kind = .function)(h3:∀y∈scope.names,y.2 = .local->scope.names.lookup y.1=some .local)
 (h4:∀n,cellsFrom n scope.names cl=(x,n)::cl) (h5:∀h,pushCells h scope.names=h.push { cls:=.type "cell",data:=.cell none }) (h6:∀y,((relabel scope X.env).names.lookup y=some .cell\/(relabel scope X.env).names.lookup y=some .free)->y∈x::fr)
 (h7:∀y∈cl,y.1∈fr) (h8:fr.map (fun y=>cl.lookup y)=fr.map (fun y=>X.env.cells.lookup y)) (h9:fr.elem x=false) (h10:∀y∈fr,X.env.kindOf y=some .cell\/X.env.kindOf y=some .free)
 (h11:∀y∈fr,(relabel scope X.env).names.lookup y=some .cell\/(relabel scope X.env).names.lookup y=some .free):CompCells X scope cl (fun C=>(x,C+1)::cl) (fun y=>y==x) fr:=by
 have ce:∀y∈fr,cl.lookup y=X.env.cells.lookup y:=fun y h=>by
  obtain⟨i,hi,rfl⟩:=List.getElem_of_mem h;have:=congrArg (fun l=>l[i]?) h8
  simpa [hi] using this
 have nx:∀y∈fr,(y==x)=false:=fun y h=>by
  cases e:y==x with
  |false=>rfl
  |true=>rw[<- beq_iff_eq.mp e,List.elem_eq_true_of_mem h]at h9;cases h9
 have lk:∀(C:Addr) y,(y==x)=false->xt y ((x,C+1)::cl)=cl.lookup y:=fun C y e=>by rw[List.lookup_cons,e]
 refine⟨h1,h2,h3,fun M A E Q s k=>?_,fun C y hy=>?_,fun C y c e f=>?_,fun C y h=>(lk C y (nx y h)).trans (ce y h),fun C y z c f g _ _=>(beq_iff_eq.mp f).trans (beq_iff_eq.mp g).symm,h10,h11⟩
 ·simp only[newFunctionEnv,Option.isSome_some,if_true]
  refine zw (wpAny_alloc ?_);refine zw (wpAny_layCells _ (fun name kind cells=>by cases hkc:kind==NameKind.cell <;> simp[hkc]) _ _ _ _ ?_);rw[show({ s with heap:=s.heap.push { cls:=.type "dict",data:=.dict #[] } }:Shared).heap.objs.size=s.heap.objs.size+1 from Heap.size_push ..,h4,h5];refine zw ?_;rw[List.forIn_nil];refine yt (yt (k _ _ _ ((Heap.Ns.new s.heap (.type "dict")).keeps fun b o e=>Heap.get?_push_of_some _ e) (fun b o e=>Heap.get?_push_of_some _ (Heap.get?_push_of_some _ e)) fun y c f e=>?_));rw[List.lookup_cons,f]at e;cases e;exact⟨Nat.lt_succ_self _,_,by rw[<- Heap.size_push s.heap { cls:=.type "dict",data:=.dict #[] }];exact Heap.get?_push_size _ rfl,rfl⟩
 ·rcases z6.mp (h6 y hy) with rfl|m
  ·exact .inr ⟨C+1,by rw[List.lookup_cons,beq_self_eq_true]⟩
  ·exact .inl m
 ·rw[lk C y f]at e
  have m:=h7 _ (mem_of_lookup e);rw[<- ce y m];exact e
end L2
namespace L2
open PySem PySem.Spec PyProof.Rows Builtin Builtin.Str
section
variable{prog:Program}{w:World}{A:Around}{E:Value->Shared->Prop}{s:Shared}{t:Addr}
theorem yT(hh:A.handled=none)(ht:s.heap.IsList t (intItems xs))
 (h:∀h' tk t',(∀b o,s.heap.get? b=some o->h'.get? b=some o)->Q (.int (preSum (numAt xs) xs.size) t') { s with heap:=h',toks:=tk }) :
 wpAny (model prog w) A (call (.builtin "sum") [.ref t]) Q E s:=by
 obtain⟨o,ho,hc,n,hd⟩:=id ht;have hne:t≠s.heap.objs.size:=ui (y3 ho);have hsz:(intItems xs).size=xs.size:=by simp[intItems]
 have W:=(Walks.list (prog:=prog) (w:=w) (A:=A.in1) hh s.heap.objs.size t hne (intItems xs)).toS;rw[hsz]at W;refine call_sum_walkAnyS (YV ht ?_);refine⟨s.heap.objs.size,_,_,_,_,_,_,numAt xs,rfl,W,⟨⟨_,Heap.get?_push_size _ rfl,rfl,rfl⟩,ht.at fun o e=>Heap.get?_push_of_some _ e⟩,fun b hb=>?_,fun i v hP=>intItems_at hP,fun s' t' hm=>?_⟩
 ·rcases z6.mp hb with rfl|hb
  ·exact y3 (Heap.get?_push_size _ rfl)
  ·obtain rfl:=zv.mp hb
   exact y3 (Heap.get?_push_of_some _ ho)
 ·obtain⟨h',g',d',tk',os'⟩:=s'
  have e1:g'=s.gens:=hm.gens;have e2:d'=s.drawn:=hm.drawn;have e3:os'=s.os:=hm.os;subst e1 e2 e3;exact h h' tk' t' fun b o e=>hm.heap b o (fun hb=>absurd (y3 e) ((zv.mp hb) ▸ ZZ _)) (Heap.get?_push_of_some _ e)
end
section
variable{X:Cx}{e a b c:Expr}{pos:Pos}
def Gb(K:W.Frag):List V->Hp->VK->Prop
 | [.ref p],H,Q=>∃ns:List Int,(SqL K H p (ns.map V.int)\/SqT K H p (ns.map V.int))/\Q (.int ns.sum) H
 |_,_,_=>False
theorem wb(K:W.Frag)(hc:X.calm=true)(hK:X.K=K:=by rfl):CallR X (.builtin "sum") (Gb K):=by
 subst hK;intro pins s σ H xs us Q I r h;unfold Gb at h;split at h
 ·rename_i p
  obtain⟨ns,hq,q⟩:=h;rcases hq with hq|hq
  ·obtain⟨u,rfl,rx⟩:=eS r
   cases (show u=yX p from rx);obtain⟨its,r',pl,hz⟩:=I.list hq;have hi:=mT r';obtain⟨ys,hy⟩:=hi.allInts.items;have hn:numsOf its.toArray.toList=ns:=by rw[show its.toArray.toList=its from rfl,hi.numsOf]
   have pl':=pl.isList;rw[hy]at pl' hn;rw[nums_intItems]at hn;refine yT (I.ok.hd hc) pl' fun h' tk t' hk=>?_;rw[preSum_eq,Zk (by simp),hn];exact⟨.int ns.sum,H,I.kept hk,⟨_,rfl⟩,q⟩
  ·exact qf hc pins s σ H _ us Q I r ⟨p,ns,rfl,hq,q⟩
 ·exact h.elim
def zc(K:W.Frag)(neg:Bool):R2
 |x,.ref p,H,Q=>∃xs,(SqL K H p xs\/SqT K H p xs)/\eY x=true/\xs.all eY=true/\Q (.bl (neg ^^ inV x xs)) H
 |_,_,_,_=>False
theorem vN(K:W.Frag)(hK:X.K=K:=by rfl):OpR X (uK .In) (zc K false):=by
 subst hK;refine xZ.imp fun x y H Q h=>?_;unfold zc at h;split at h
 ·obtain⟨xs,h1,h2,h3,q⟩:=h
  exact⟨_,xs,rfl,h1,h2,h3,by simpa using q⟩
 ·exact h.elim
theorem yz(K:W.Frag)(hK:X.K=K:=by rfl):OpR X (uK .NotIn) (zc K true):=by
 subst hK;refine qq.imp fun x y H Q h=>?_;unfold zc at h;split at h
 ·obtain⟨xs,h1,h2,h3,q⟩:=h
  exact⟨_,xs,rfl,h1,h2,h3,by simpa using q⟩
 ·exact h.elim
section
variable{T name id:String}{r:V->List V->Hp->VK->Prop}{o:Expr}{to:TE}{apos cpos:Pos}
end
end
end L2
namespace L2
theorem cc{l:List PySem.Str}(h:l.Nodup):l.Nodup:=h
def sp5(f:V->V->V->V->V->Hp->VK->XK->Prop):Sp:=fun vs H Q E=>match vs with
 | [x,y,z,u,v]=>f x y z u v H Q E
 |_=>False
theorem sp5.inv{f}(h:sp5 f vs H Q E):∃x y z u v,vs=[x,y,z,u,v]/\f x y z u v H Q E:=by
 unfold sp5 at h;split at h
 ·exact⟨_,_,_,_,_,rfl,h⟩
 ·exact h.elim
theorem sp5.len{f}(h:sp5 f vs H Q E):vs.length=5:=by obtain⟨_,_,_,_,_,rfl,_⟩:=sp5.inv h;rfl
theorem iA{n:PySem.Str}{v:V}{l:List (PySem.Str × V)}:xt n ((n,v)::l)=some v:=by simp[xt]
theorem aR{n m:PySem.Str}{v:V}{l:List (PySem.Str × V)}(h:(n==m)=false):xt n ((m,v)::l)=xt n l:=by simp[xt,h]
end L2
namespace L2
open PySem PySem.Spec PyProof.Rows
structure Im(k:Nat)(A:Around):Prop where
 dp:A.depth+3*k+5<recursionLimit
 un:A.units+16*k+200<cLine
section
variable{X:Cx}{CX:CXT}{k:Nat}{f:Addr}{fd:FuncData}{ps:List Str}{sp:Sp}{dvs:List V}{ds:List Value}{E:XKs}{x:Str}{p pos:Pos}{e:Expr}{es:List Expr}{t:TA}
end
def u0(lo d:Int)(n:Nat):It:=⟨fun i _=>i<n,fun i H x H'=>H'=H/\x = .int (lo+i*d),fun i _=>n<=i⟩
theorem rX{P:Program}{w:World}{K:W.Frag}{tg:Expr}(it:Addr)(lo d:Int)(n:Nat):uH P w K tg (u0 lo d n) [it] it (fun i h=>IsRangeIter h it (lo+(i:Nat)*d) ((n:Int)-(i:Nat)) d) where
 mem:=by simp
 obj:=fun i h st b hb=>by
  have e:b=it:=by simpa using hb
  subst e;exact⟨_,st,fun v z=>by
   have z':Data.fields _=Data.cell v:=z;cases z'⟩
 keep:=fun i h h' st k=>k it (by simp) _ st
 item:=by
  intro X hP hw hK hc i pins s σ H E I hf st hg;subst hP hw hK;obtain⟨f0,f1,f2,f3,f4,f5⟩:=hf it (by simp);have W:=Walks.range (prog:=X.prog) (w:=X.w) (I.ok.hd hc) it lo d n;refine W.item i s _ _ hg st fun v h' tk hv st' kk=>?_;obtain⟨t,rfl⟩:=hv;have I1:Inv X pins σ H { s with heap:=h',toks:=tk }:=I.turned (fun b o hb e=>kk b o (by simpa using hb) e) f0 f1 f3 f4 f5;exact⟨_,rfl,lM (s:={ s with heap:=h',toks:=tk }) (n:="range_iterator") st' rfl rfl (by decide) ⟨.int (lo+i*d),H,I1,⟨t,rfl⟩,⟨rfl,rfl⟩,st',fun b hb=>(hf b hb).1⟩⟩
 done:=by
  intro X hP hw hK hc i pins s σ H E I hf st hg;subst hP hw hK;obtain⟨f0,f1,f2,f3,f4,f5⟩:=hf it (by simp);exact wpAny_pyNext_range_end (I.ok.hd hc) st (by have:n<=i:=hg;lia) fun h' eb=>⟨rfl,I.turned (t':=s.toks) (fun b o hb e=>eb b o hb e) f0 f1 f3 f4 f5⟩
 self:=fun _ _ _ _ _ st h=>wpAny_pyIter_rangeiter st h
section
variable{X:Cx}{tg:Expr}
def rsz(i j c:Int):Nat:=if i<j then ((j-i-1) / c+1).toNat else 0
theorem vf{lo c:Int}{n:Nat}{g:TG}{tb:TS}{D:fF}{σ:St}{H:Hp}(Pv:Nat->St->Hp->Prop)(h0:Pv 0 σ H)
 (hs:∀i σ H,i<n->Pv i σ H->g (.int (lo+i*c)) σ H fun σ2 H2=>tb { D with nx:=Pv (i+1),ct:=Pv (i+1),bk:=D.nx } σ2 H2) (hd:∀σ H,Pv n σ H->D.nx σ H) :
 ∃W:Nat->Nat->St->Hp->Prop,(∃m,W 0 m σ H)/\∀i m σ H,W i m σ H ->
  ((u0 lo c n).stop i H/\D.nx σ H)\/((u0 lo c n).go i H/\∃N:St->Hp->Prop,(∀σ' H',N σ' H'->∃m',m'<m/\W (i+1) m' σ' H')/\∀x H',(u0 lo c n).yld i H x H'->g x σ H' fun σ2 H2=>tb { D with nx:=N,ct:=N,bk:=D.nx } σ2 H2):=by
 refine⟨fun i m σ H=>m=n-i/\i<=n/\Pv i σ H,⟨n,by simp,xm _,h0⟩,?_⟩;rintro i m σ H ⟨rfl,hi,p⟩;by_cases hlt:i<n
 ·refine .inr ⟨hlt,Pv (i+1),fun σ' H' p'=>⟨n-(i+1),by lia,rfl,hlt,p'⟩,fun x H' y=>?_⟩
  obtain⟨e,y⟩:=y;subst e y;exact hs i σ _ hlt p
 ·have e:i=n:=by lia
  subst e;exact .inl ⟨z5 _,hd σ H p⟩
end
end L2
namespace L2
theorem ex1(hl:us.length=1):∃a0,us=[a0]:=by
 match us,hl with
 | [a0],_=>exact⟨a0,rfl⟩
theorem ex2(hl:us.length=2):∃a0 a1,us=[a0,a1]:=by
 match us,hl with
 | [a0,a1],_=>exact⟨a0,a1,rfl⟩
theorem ex3(hl:us.length=3):∃a0 a1 a2,us=[a0,a1,a2]:=by
 match us,hl with
 | [a0,a1,a2],_=>exact⟨a0,a1,a2,rfl⟩
theorem ex4(hl:us.length=4):∃a0 a1 a2 a3,us=[a0,a1,a2,a3]:=by
 match us,hl with
 | [a0,a1,a2,a3],_=>exact⟨a0,a1,a2,a3,rfl⟩
theorem ex5(hl:us.length=5):∃a0 a1 a2 a3 a4,us=[a0,a1,a2,a3,a4]:=by
 match us,hl with
 | [a0,a1,a2,a3,a4],_=>exact⟨a0,a1,a2,a3,a4,rfl⟩
theorem ex6(hl:us.length=6):∃a0 a1 a2 a3 a4 a5,us=[a0,a1,a2,a3,a4,a5]:=by
 match us,hl with
 | [a0,a1,a2,a3,a4,a5],_=>exact⟨a0,a1,a2,a3,a4,a5,rfl⟩
end L2
namespace L2
open Lean Meta Simp
def EL:List Name:=[`L2.ED,`L2.tC,`L2.tOp,`L2.tUn,`L2.gEqN,`L2.lT,`L2.uD,`L2.HF,`L2.fOr,`L2.Hw,`L2.A3,`L2.fPickT,`L2.Gp,`L2.HC,`L2.Hd,`L2.tRetN,`L2.DA,`L2.DE,`L2.vA,`L2.iq,`L2.tIf,`L2.E1,`L2.tOr,`L2.Hh,`L2.cx,`L2.kH,`L2.tCB,`L2.qR,`L2.Gx,`L2.Hl,`L2.Hm,`L2.Ed,`L2.GY,`L2.D7,`L2.wZ,`L2.tSl,`L2.cs,`L2.Gg,`L2.CMul,`L2.E3,`L2.vT,`L2.tTry,`L2.gcE,`L2.GS,`L2.tGc,`L2.tBM,`L2.DY,`L2.fJoinRev,`L2.CDivB,`L2.wT,`L2.FH,`L2.D3,`L2.GD,`L2.G8,`L2.DW,`L2.DQ,`L2.DL,`L2.nR,`L2.nM,`L2.Ah,`L2.A0,`L2.DK,`L2.tBM0,`L2.rClear]
def FO:List Name:=[`L2.yf,`L2.gI,`L2.gIC,`L2.E9,`L2.gLe,`L2.gLt,`L2.eqS,`L2.kB,`L2.HJ,`L2.Ge,`L2.Fm,`L2.Dt,`L2.Dr,`L2.gInt,`L2.gIx,`L2.sp0,`L2.sp1,`L2.sp2,`L2.sp3,`L2.sp4,`L2.asI,`L2.asT,`L2.asB,`L2.asR,`L2.tyV,`L2.gSt,`L2.gEn,`L2.gZf,`L2.gStr,`L2.AR,`L2.gIn,`L2.gSl,`L2.Ia,`L2.gMulS,`L2.Fa,`L2.gRep,`L2.gRepT,`L2.gIsiT,`L2.A_,`L2.uN,`L2.EH,`L2.FQ,`L2.EK,`L2.Bw,`L2.tT,`L2.Gb,`L2.gMulT]
def rdI:=yh @L2.Cj (yh @L2.HM (yh @L2.V.bl.injEq (yh @L2.V.str.injEq (yh @L2.xP (yh @L2.He (yh @L2.F8 (yh @L2.EX (yh @L2.EN (yh @L2.ER (yh @L2.mi (yh @L2.tJ (yh @L2.vB (yh @L2.vC (yh @L2.rY (yh @L2.rD (yh @L2.sL (yh @L2.C_ (yh @L2.lz (yh @L2.rq (yh @L2.r9 (yh @L2.su (yh @L2.rl (yh @L2.oK (yh @L2.rC (yh @L2.Fp (yh @L2.mh (yh @L2.tZ (yh @L2.vH (yh @L2.vQ (yh @L2.tG (yh @L2.rn (yh @L2.tE (yh @L2.BL (yh @L2.lH (yh @L2.ra (yh @L2.tD (yh @L2.uh (yh @L2.qS (yh @L2.oO (yh @L2.qj (yh @L2.zW (yh @L2.kq (yh @L2.oH (yh @L2.rH (yh @L2.qe (yh @L2.oP (yh @L2.mW (yh @L2.oN (yh @L2.BQ (yh @L2.lE (yh @L2.rM (yh @L2.rN (yh @L2.sY (yh @L2.qN (yh @L2.oX (yh @L2.q_ (yh @L2.Hz (yh @L2.Fy (yh @L2.F1 (yh @L2.Fs (yh @L2.Cz (yh @L2.E8 (yh @L2.Ch (yh @L2.BZ (yh @L2.De (yh @L2.CO (yh @L2.E2 (yh @L2.BY (yh @L2.BW (yh @L2.CK (yh @true_and (yh @and_true (yh @and_self (yh @true_or (yh @or_true (yh @decide_eq_true_eq (yh @Bool.true_eq_false (yh @Bool.false_xor (yh @Bool.true_xor (yh @Bool.not_true (yh @Bool.not_false (yh @sC (yh @Bool.not_eq_true' (yh @decide_eq_false_iff_not @Classical.not_not))))))))))))))))))))))))))))))))))))))))))))))))))))))))))))))))))))))))))))))))))))
end L2
namespace L2
namespace Srt
open PySem PyProof.Rows
def kv(κ:Keyed->Int)(xs:Array Keyed)(i:Nat):Int:=(xs[i]?.map κ).getD 0
def Up(κ:Keyed->Int)(xs:Array Keyed)(k:Nat):Prop:=∀i j,i<=j->j<k->kv κ xs i<=kv κ xs j
def Dn(κ:Keyed->Int)(xs:Array Keyed)(k:Nat):Prop:=∀i j,i<=j->j<k->kv κ xs j<=kv κ xs i
structure SB(kd:SortKind)(z:Array Keyed)(t:SortSt):Prop where
 pm:(arrOf t).Perm z
 kn:kindOf t=kd
 fl:failedOf t=none
 pn:pendingOf t = #[]
theorem SB.sz(b:SB kd z t):(arrOf t).size=z.size:=b.pm.size_eq
theorem SB.put(b:SB kd z t)(p:xs.Perm (arrOf t)):SB kd z (setArr t xs):=
 ⟨p.trans b.pm,b.kn,b.fl,b.pn⟩
theorem pW(h:i<xs.size):kv κ xs i=κ xs[i]:=by
 unfold kv;rw[Array.getElem?_eq_getElem h];rfl
theorem wu(h:xs[i]? = ys[j]?):kv κ xs i=kv κ ys j:=by unfold kv;rw[h]
theorem As(hs:u<xs.size)(hd:d<=u)(k:Nat) :
 kv κ (bubble xs u d) k=if k=u-d then kv κ xs u else if u-d<k/\k<=u then kv κ xs (k-1) else kv κ xs k:=by
 have e:=getElem?_bubble hs d hd k;by_cases h1:k=u-d
 ·rw[if_pos h1]at e |-
  exact wu e
 ·rw[if_neg h1]at e |-
  by_cases h2:u-d<k/\k<=u
  ·rw[if_pos h2]at e |-
   exact wu e
  ·rw[if_neg h2]at e |-
   exact wu e
theorem AX(hj:n<=xs.size)(hk:k<n) :
 kv κ (mirror xs 0 n ((n-0) / 2)) k=kv κ xs (n-1-k):=by
 have e:=getElem?_mirror_all (i:=0) hj k;rw[if_pos ⟨xm _,hk⟩,Nat.zero_add]at e;exact wu e
section
variable{prog:Program}{w:World}{A:Around}{E:Value->Shared->Prop}{s:Shared}{z:Array Keyed}{κ:Keyed->Int}{kd:SortKind}{t:SortSt}
def Lts(prog:Program)(w:World)(A:Around)(s:Shared)(kd:SortKind)(κ:Keyed->Int)(z:Array Keyed):Prop:=
 ∀(E:Value->Shared->Prop) (p q:Keyed) (Q:Bool->Shared->Prop),p∈z.toList->q∈z.toList->Q (decide (κ p<κ q)) s->wpAny (model prog w) A (keyLt' kd p.1 q.1) Q E s
theorem SB.mem(b:SB kd z t)(h:i<(arrOf t).size):(arrOf t)[i]∈z.toList:=
 (YJ.mp b.pm).mem_iff.mp (by simp)
theorem tf(L:Lts prog w A s kd κ z)(b:SB kd z t)(hi:i<z.size)(hj:j<z.size)
 (h:Q (some (decide (kv κ (arrOf t) i<kv κ (arrOf t) j))) t):wpS (model prog w) A E s (ltAt' i j) Q t:=by
 have i':i<(arrOf t).size:=b.sz ▸ hi;have j':j<(arrOf t).size:=b.sz ▸ hj;rw[pW i',pW j']at h;rw[ltAt'_eq];refine wpS_bind (wpS_get ?_);show wpS (model prog w) A E s (elem' (arrOf t) i >>= fun p=>elem' (arrOf t) j >>= fun q=>lt' p q) Q t;rw[elem'_eq,elem'_eq,Array.getElem?_eq_getElem i',Array.getElem?_eq_getElem j'];refine wpS_bind (wpS_pure (wpS_bind (wpS_pure ?_)));rw[lt'_eq];refine wpS_bind (wpS_get ?_);rw[b.kn];exact wpS_bind (wpS_lift (wpAny_attempt (L _ _ _ _ (b.mem i') (b.mem j') ⟨rfl,wpS_pure h⟩)))
def m7(κ:Keyed->Int)(z:Array Keyed):Prop:=(z.toList.map κ).Nodup
theorem apart(b:SB kd z t)(D:m7 κ z)(hj:j<z.size)(h:i<j):kv κ (arrOf t) i≠kv κ (arrOf t) j:=by
 have j':j<(arrOf t).size:=b.sz ▸ hj;have i':i<(arrOf t).size:=Nat.lt_trans h j';have d:((arrOf t).toList.map κ).Nodup:=((YJ.mp b.pm).map κ).nodup_iff.mpr D;rw[pW i',pW j'];intro e;have:=Zd.mp d i j (by simpa using i') (by simpa using j') h;simp at this;exact this e
theorem Dd(u:Up κ xs n)(h:n=0\/kv κ xs (n-1)<=kv κ xs n):Up κ xs (n+1):=by
 intro i j a c;by_cases e:j<n
 ·exact u i j a e
 ·have:j=n:=by lia
  subst this;by_cases e2:i=j
  ·subst e2;exact Ye _
  ·exact Int.le_trans (u i (j-1) (by lia) (by lia)) (h.resolve_left (by lia))
theorem wV(u:Dn κ xs n)(h:n=0\/kv κ xs n<=kv κ xs (n-1)):Dn κ xs (n+1):=by
 intro i j a c;by_cases e:j<n
 ·exact u i j a e
 ·have:j=n:=by lia
  subst this;by_cases e2:i=j
  ·subst e2;exact Ye _
  ·exact Int.le_trans (h.resolve_left (by lia)) (u i (j-1) (by lia) (by lia))
theorem asc(L:Lts prog w A s kd κ z)(hr:r<=z.size)(ha:1<=a)(har:a<=r)(b:SB kd z t)(u:Up κ (arrOf t) a)
 (h:∀n,a<=n->n<=r->Up κ (arrOf t) n->(n=r\/kv κ (arrOf t) n<kv κ (arrOf t) (n-1))->Q (none,n) t):wpS (model prog w) A E s (ascLoop a r) Q t:=by
 unfold ascLoop;refine wpS_forRange (fun x c t'=>t'=t/\c=(none,x)/\Up κ (arrOf t) x) ?_ ?_ ⟨rfl,rfl,u⟩
 ·rintro x c t' x1 x2 ⟨rfl,rfl,u'⟩
  refine wpS_bind (tf L b (by lia) (by lia) ?_);by_cases l:kv κ (arrOf t') x<kv κ (arrOf t') (x-1)
  ·simp only[decide_eq_true l,if_true]
   exact wpS_pure (h x x1 (by lia) u' (.inr l))
  ·simp only[decide_eq_false l,sC,if_false]
   exact wpS_pure ⟨rfl,rfl,Dd u' (.inr (by lia))⟩
 ·rintro c t' ⟨rfl,rfl,u'⟩
  rw[Nat.max_eq_right har]at u' |-
  exact h r har (z5 _) u' (.inl rfl)
theorem t3(L:Lts prog w A s kd κ z)(hr:r<=z.size)(h1:1<=n)(hn:n<=r)(b:SB kd z t)(u:Dn κ (arrOf t) n)
 (h:∀m t',SB kd z t'->1<=m->m<=r->Up κ (arrOf t') m->Q (some m) t'):wpS (model prog w) A E s (tail3 n r) Q t:=by
 unfold tail3;refine wpS_bind (wpS_reverse ?_);have b':=b.put (mirror_perm (arrOf t) 0 n ((n-0) / 2));refine wpS_bind (asc L hr h1 hn b' ?_ fun m m1 m2 u' _=>wpS_pure (h m _ b' (by lia) m2 u'));intro i j a c;have g:n<=(arrOf t).size:=by rw[b.sz];lia
 show kv κ (mirror (arrOf t) 0 n ((n-0) / 2)) i<=kv κ (mirror (arrOf t) 0 n ((n-0) / 2)) j;rw[AX g (by lia),AX g c];exact u _ _ (by lia) (by lia)
theorem HL(L:Lts prog w A s kd κ z)(D:m7 κ z)(hr:r<=z.size)(h1:1<=n)(hn:n<=r)(b:SB kd z t)(u:Dn κ (arrOf t) n)
 (h:∀m,n<=m->m<=r->Dn κ (arrOf t) m->Q (none,m,0) t):wpS (model prog w) A E s (descLoop n r) Q t:=by
 unfold descLoop;refine wpS_forRange (fun x c t'=>t'=t/\c=(none,x,0)/\Dn κ (arrOf t) x) ?_ ?_ ⟨rfl,rfl,u⟩
 ·rintro x c t' x1 x2 ⟨rfl,rfl,u'⟩
  dsimp only;refine wpS_bind (tf L b (by lia) (by lia) ?_);by_cases l:kv κ (arrOf t') x<kv κ (arrOf t') (x-1)
  ·simp only[decide_eq_true l,if_true]
   rw[if_neg (ZZ 0)];exact wpS_pure ⟨rfl,rfl,wV u' (.inr (Int.le_of_lt l))⟩
  ·simp only[decide_eq_false l,sC,if_false]
   refine wpS_bind (tf L b (by lia) (by lia) ?_);have d:=apart b D (i:=x-1) (j:=x) (by lia) (by lia);simp only[decide_eq_true (show kv κ (arrOf t') (x-1)<kv κ (arrOf t') x by lia),if_true];exact wpS_pure (h x x1 (by lia) u')
 ·rintro c t' ⟨rfl,rfl,u'⟩
  rw[Nat.max_eq_right hn]at u' |-
  exact h r hn (z5 _) u'
theorem count(L:Lts prog w A s kd κ z)(D:m7 κ z)(hr:r<=z.size)(h1:1<=r)(b:SB kd z t)
 (h:∀m t',SB kd z t'->1<=m->m<=r->Up κ (arrOf t') m->Q (some m) t'):wpS (model prog w) A E s (countRun' 0 r) Q t:=by
 rw[countRun0_eq];refine wpS_bind (asc L hr (z5 1) h1 b (fun i j a c=>by have:i=j:=(by lia);subst this;exact Ye _) fun n n1 n2 u o=>?_);dsimp only;by_cases e:n=r
 ·rw[if_pos (by simpa using e)]
  exact wpS_pure (h n t b n1 n2 u)
 rw[if_neg (by simpa using e)];by_cases g:n > 1
 ·rw[if_pos g]
  refine wpS_bind (tf L b (by lia) (by lia) ?_);have d:=apart b D (i:=0) (j:=n-1) (by lia) (by lia);have l:=u 0 (n-1) (by lia) (by lia);simp only[decide_eq_true (show kv κ (arrOf t) 0<kv κ (arrOf t) (n-1) by lia),if_true];exact wpS_pure (h n t b n1 n2 u)
 ·rw[if_neg g]
  have:n=1:=by lia
  subst this;unfold descPart;refine wpS_bind (wpS_lift (wpAny_rule ⟨rfl,?_⟩));refine wpS_bind (HL L D hr (by lia) (by lia) b ?_ fun m m1 m2 u'=>?_)
  ·refine wV (fun i j a c=>by have:i=j:=(by lia);subst this;exact Ye _) (.inr ?_)
   have:=o.resolve_left e;lia
  ·dsimp only
   rw[if_neg (ZZ 0)];exact t3 L hr (by lia) m2 b u' h
theorem Es(L:Lts prog w A s kd κ z)(hn:n<=z.size)(hk:k₀<=n)(h0:1<=k₀)(b:SB kd z t)(u:Up κ (arrOf t) k₀)
 (h:∀t',SB kd z t'->Up κ (arrOf t') n->Q true t'):wpS (model prog w) A E s (binarySort' 0 n k₀) Q t:=by
 rw[binarySort'_eq];simp only[Nat.zero_add];rw[Nat.max_eq_left h0];refine wpS_bind (wpS_mono (wpS_forRange (fun k c t'=>c=(none,())/\SB kd z t'/\Up κ (arrOf t') k) (Q:=fun c t'=>c=(none,())/\SB kd z t'/\Up κ (arrOf t') n) ?_ ?_ ⟨rfl,b,u⟩) ?_)
 ·rintro k c t' k1 k2 ⟨rfl,b',u'⟩
  refine wpS_bind (wpS_mono (wpS_forRange (fun x c t2=>t2=t'/\∃l r,c=(none,l,r)/\l<=r/\r<=k/\r-l<=k-x /\
   (∀i,i<l->kv κ (arrOf t') i<=kv κ (arrOf t') k)/\∀i,r<=i->i<k->kv κ (arrOf t') k<=kv κ (arrOf t') i)
   (Q:=fun c t2=>t2=t'/\∃l r,c=(none,l,r)/\l<=k/\(∀i,i<l->kv κ (arrOf t') i<=kv κ (arrOf t') k)/\∀i,l<=i->i<k->kv κ (arrOf t') k<=kv κ (arrOf t') i) ?_ ?_
    ⟨rfl,0,k,rfl,xm _,z5 _,z5 _,fun i q=>absurd q (Nat.not_lt_zero _),fun i q q'=>absurd q' (Nat.not_lt.mpr q)⟩) ?_)
  ·rintro x c t2 _ x2 ⟨rfl,l,r,rfl,lr,rk,m,lo,hi⟩
   dsimp only;by_cases g:l ≥ r
   ·rw[if_pos g]
    have:l=r:=by lia
    subst this;exact wpS_pure ⟨rfl,l,l,rfl,rk,lo,hi⟩
   rw[if_neg g];refine wpS_bind (tf L b' (by lia) (by lia) ?_);by_cases q:kv κ (arrOf t2) k<kv κ (arrOf t2) ((l+r) / 2)
   ·simp only[decide_eq_true q,if_true]
    exact wpS_pure ⟨rfl,l,(l+r) / 2,rfl,by lia,by lia,by lia,lo,fun i a c=>Int.le_trans (Int.le_of_lt q) (u' _ _ a c)⟩
   ·simp only[decide_eq_false q,sC,if_false]
    exact wpS_pure ⟨rfl,(l+r) / 2+1,r,rfl,by lia,by lia,by lia,fun i a=>Int.le_trans (u' i ((l+r) / 2) (by lia) (by lia)) (by lia),hi⟩
  ·rintro c t2 ⟨rfl,l,r,rfl,lr,rk,m,lo,hi⟩
   have:l=r:=by lia
   subst this;exact⟨rfl,l,l,rfl,rk,lo,hi⟩
  ·rintro c t2 ⟨rfl,l,r,rfl,lk,lo,hi⟩
   show wpS (model prog w) A E s (moveDown' k l >>= fun _=>pure (ForInStep.yield (none,()))) _ t2;rw[moveDown'_eq];refine wpS_bind (wpS_modify (wpS_pure ⟨rfl,b'.put (bubble_perm _ _ _),?_⟩));have g:k<(arrOf t2).size:=by rw[b'.sz];lia
   intro i j a c;show kv κ (bubble (arrOf t2) k (k-l)) i<=kv κ (bubble (arrOf t2) k (k-l)) j;rw[As g (by lia),As g (by lia),Nat.sub_sub_self lk];by_cases e1:i=l
   ·rw[if_pos e1]
    by_cases e2:j=l
    ·rw[if_pos e2];exact Ye _
    ·rw[if_neg e2,if_pos (by lia)];exact hi _ (by lia) (by lia)
   ·rw[if_neg e1]
    by_cases e3:l<i/\i<=k
    ·rw[if_pos e3,if_neg (by lia),if_pos (by lia)];exact u' _ _ (by lia) (by lia)
    ·rw[if_neg e3]
     by_cases e2:j=l
     ·rw[if_pos e2];exact lo _ (by lia)
     ·rw[if_neg e2]
      by_cases e4:l<j/\j<=k
      ·rw[if_pos e4];exact u' _ _ (by lia) (by lia)
      ·rw[if_neg e4];exact u' _ _ a (by lia)
 ·rintro c t' ⟨e,b',u'⟩
  rw[Nat.max_eq_right hk]at u';exact⟨e,b',u'⟩
 ·rintro c t' ⟨rfl,b',u'⟩
  exact wpS_pure (h t' b' u')
theorem HK(L:Lts prog w A s kd κ z)(D:m7 κ z)(b:SB kd z t)(h2:2<=z.size)(h64:z.size<64)
 (h:∀t',(arrOf t').Perm z->failedOf t'=none->Up κ (arrOf t') z.size->Q () t'):wpS (model prog w) A E s sortRuns' Q t:=by
 rw[sortRuns'_eq];refine wpS_bind (wpS_get ?_);dsimp only;have mr:minRun' z.size z.size 0=z.size:=by
  obtain⟨f,e⟩:∃f,z.size=f+1:=⟨z.size-1,by lia⟩;rw[e,minRun'_succ,if_pos (by lia),Nat.add_zero]
 simp only[b.sz,mr];refine wpS_bind (wpS_mono (wpS_forRange
  (fun x c t'=>(x=0/\c=(none,0)/\SB kd z t')\/(1<=x/\c=(none,z.size)/\(arrOf t').Perm z/\failedOf t'=none/\pendingOf t' = #[(0,z.size,0)]/\Up κ (arrOf t') z.size))
  (Q:=fun c t'=>c=(none,z.size)/\(arrOf t').Perm z/\failedOf t'=none/\pendingOf t' = #[(0,z.size,0)]/\Up κ (arrOf t') z.size) ?_ ?_ (.inl ⟨rfl,rfl,b⟩)) ?_)
 ·rintro x c t' _ x2 (⟨rfl,rfl,b'⟩|⟨x1,rfl,d⟩)
  ·dsimp only
   rw[if_neg (by lia)];simp only[Nat.sub_zero,Nat.min_self,Nat.zero_add];refine wpS_bind (count L D (z5 _) (by lia) b' fun m t2 b2 m1 m2 u2=>?_);dsimp only;by_cases g:m<z.size
   ·rw[if_pos g]
    refine wpS_bind (wpS_lift (wpAny_rule ⟨rfl,?_⟩));refine wpS_bind (Es L (z5 _) m2 m1 b2 u2 fun t3 b3 u3=>?_);simp only[Bool.not_true,sC,if_false];refine wpS_bind (wpS_get ?_);rw[show(pendingOf t3).back? = none by rw[b3.pn];rfl];exact wpS_bind (wpS_modify (wpS_pure (.inr ⟨by lia,rfl,b3.pm,b3.fl,by show(pendingOf t3).push _=_;rw[b3.pn];rfl,u3⟩)))
   ·rw[if_neg g]
    have:m=z.size:=by lia
    subst this;refine wpS_bind (wpS_get ?_);rw[show(pendingOf t2).back? = none by rw[b2.pn];rfl];exact wpS_bind (wpS_modify (wpS_pure (.inr ⟨by lia,rfl,b2.pm,b2.fl,by show(pendingOf t2).push _=_;rw[b2.pn];rfl,u2⟩)))
  ·dsimp only
   rw[if_pos (z5 _)];exact wpS_pure ⟨rfl,d⟩
 ·rintro c t' (⟨x,_,_⟩|⟨_,e,d⟩)
  ·lia
  ·exact⟨e,d⟩
 ·rintro c t' ⟨rfl,p1,p2,p3,p4⟩
  dsimp only;refine wpS_bind (wpS_mono (wpS_forRange (fun _ c t2=>t2=t'/\c=(none,())) (Q:=fun c t2=>t2=t'/\c=(none,())) ?_ (fun _ _ q=>q) ⟨rfl,rfl⟩) ?_)
  ·rintro x c t2 _ _ ⟨rfl,rfl⟩
   refine wpS_bind (wpS_get ?_);rw[if_pos (by rw[p3];exact z5 1)];exact wpS_pure ⟨rfl,rfl⟩
  ·rintro c t2 ⟨rfl,rfl⟩
   exact wpS_pure (h _ p1 p2 p4)
end
section
variable{prog:Program}{w:World}{A:Around}{E:Value->Shared->Prop}{s:Shared}
structure Cmp(prog:Program)(w:World)(A:Around)(h:Heap)(os:OsState)(kd:SortKind)(κ:Value->Int)(vs:List Value):Prop where
 kind:∀(E:Value->Shared->Prop) (s:Shared) (Q:SortKind->Shared->Prop),s.heap=h->Q kd s->wpAny (model prog w) A (keyKind' vs.toArray) Q E s
 lt:∀(E:Value->Shared->Prop) (s:Shared) (p q:Value) (Q:Bool->Shared->Prop),s.heap=h->p∈vs->q∈vs->Q (decide (κ p<κ q)) s->wpAny (model prog w) A (keyLt' kd p q) Q E s
theorem lq{vs:List Value}(h:p∈(vs.toArray.zip vs.toArray).toList):p.1∈vs/\p.2=p.1:=by
 rw[Array.toList_zip]at h;simp at h;rw[List.zip_eq_zipWith,List.zipWith_self]at h;obtain⟨a,ha,e⟩:=yb.mp h;subst e;exact⟨ha,rfl⟩
theorem pF(vs:List Value):(vs.toArray.zip vs.toArray).toList.map (·.1)=vs:=by
 rw[Array.toList_zip];exact List.map_fst_zip (z5 _)
theorem sort_by{vs:List Value}(ho:s.heap.get? a=some (seqObj "list" vs.toArray n))(h64:vs.length<64)(hd:(vs.map κ).Nodup)
 (hC:2<=vs.length->Cmp prog w A (((s.heap.update a (Z3 fun _=>#[])).push (seqObj "tuple" vs.toArray 0)).push (seqObj "list" #[] 0)) s.os kd κ vs)
 (h:∀out:List Value,out.Perm vs->out.Pairwise (fun x y=>κ x<κ y)->P (.done (.ret .none)) { s with heap:=sortedHeap s.heap a vs out.toArray }) :
 wpAny (model prog w) A (Builtin.«list.sort» ⟨[.ref a],[]⟩) P E s:=by
 rw[list_sort_plain];have la:a<s.heap.objs.size:=y3 ho;refine zw (listItems_at ho rfl (zw (listUpdate_at ho rfl ?_ (hsz:=by rw[yp,xM];lia))));obtain⟨e1,ho1⟩:∃e,(s.heap.update a (Z3 fun _=>#[])).get? a=some (seqObj "list" #[] e):=⟨_,get?_update_seq ho fun _=>#[]⟩;refine zw (seqEpoch_at ho1 rfl (zw (wpAny_newTuple (zw (wpAny_newList (ZT ?_))) (by show vs.length<=_;rw[xM];lia))));have ho3:(((s.heap.update a (Z3 fun _=>#[])).push (seqObj "tuple" vs.toArray 0)).push (seqObj "list" #[] 0)).get? a=some (seqObj "list" #[] e1):=
  Heap.get?_push_of_some _ (Heap.get?_push_of_some _ ho1)
 show wpAny (model prog w) A _ P E { s with heap:=((s.heap.update a (Z3 fun _=>#[])).push (seqObj "tuple" vs.toArray 0)).push (seqObj "list" #[] 0) };dsimp only;have fin:∀t:SortSt,(arrOf t).Perm (vs.toArray.zip vs.toArray)->failedOf t=none->Up (fun p=>κ p.1) (arrOf t) (vs.toArray.zip vs.toArray).size ->
  (((arrOf t).map (·.2)).toList.Perm vs/\((arrOf t).map (·.2)).toList.Pairwise fun x y=>κ x<κ y):=fun t pm _ u=>by
  have pl:=YJ.mp pm;have e2:((arrOf t).map (·.2)).toList=(arrOf t).toList.map (·.1):=by
   rw[Array.toList_map];exact r6 fun p hp=>(lq (pl.mem_iff.mp hp)).2
  have p1:((arrOf t).map (·.2)).toList.Perm vs:=by
   rw[e2];have:=pl.map (·.1)
   rwa [pF]at this
  refine⟨p1,?_⟩;have nd:(((arrOf t).map (·.2)).toList.map κ).Nodup:=(p1.map κ).nodup_iff.mpr hd;rw[e2]at nd |-
  have sz:(arrOf t).size=(vs.toArray.zip vs.toArray).size:=pm.size_eq;refine Zd.mpr fun i j hi hj hij=>?_;have hi':i<(arrOf t).size:=by simpa using hi
  have hj':j<(arrOf t).size:=by simpa using hj
  have l:=u i j (Yw hij) (by lia);rw[pW hi',pW hj']at l;have d:=Zd.mp nd i j (by simpa using hi) (by simpa using hj) hij;simp at d l |-
  lia
 by_cases c2:vs.toArray.size<2
 ·rw[if_pos c2,if_pos c2]
  refine zw (yt ?_);rw[StateT.run_pure];refine zw (yt ?_);dsimp only;refine zw (seqEpoch_at ho3 rfl ?_);obtain⟨f1,f2⟩:=fin (SortSt.mk' general' (vs.toArray.zip vs.toArray) #[] 7 none) (Array.Perm.refl _) rfl fun i j hij hj=>by
   have:i=j:=by simp at hj c2;lia
   subst this;exact Ye _
  have sz2:((vs.toArray.zip vs.toArray).map (·.2)).size<=sizeLine+1:=by simp;rw[xM];lia
  refine zw (listUpdate_at ho3 rfl ?_ (hsz:=by rw[xM];decide) (hsz2:=sz2));simp only[bne_self_eq_false,sC,if_false];exact yt (h _ f1 f2)
 ·rw[if_neg c2,if_neg c2]
  have C:=hC (by simp at c2;lia);refine zw (C.kind _ _ _ rfl ?_);have zs:(vs.toArray.zip vs.toArray).size=vs.length:=by simp
  have L:Lts prog w A { s with heap:=((s.heap.update a (Z3 fun _=>#[])).push (seqObj "tuple" vs.toArray 0)).push (seqObj "list" #[] 0) } kd (fun p=>κ p.1) (vs.toArray.zip vs.toArray):=
   fun E p q Q hp hq k=>C.lt _ _ _ _ _ rfl (lq hp).1 (lq hq).1 k
  have D:m7 (fun p=>κ p.1) (vs.toArray.zip vs.toArray):=by
   unfold m7;rw[show(vs.toArray.zip vs.toArray).toList.map (fun p=>κ p.1)=((vs.toArray.zip vs.toArray).toList.map (·.1)).map κ by rw[uR];rfl,pF];exact hd
  refine zw (uY (HK (z:=vs.toArray.zip vs.toArray) (t:=SortSt.mk' kd (vs.toArray.zip vs.toArray) #[] 7 none) (Q:=fun _ t'=>(arrOf t').Perm (vs.toArray.zip vs.toArray)/\failedOf t'=none/\Up (fun p=>κ p.1) (arrOf t') (vs.toArray.zip vs.toArray).size)
   L D ⟨Array.Perm.refl _,rfl,rfl,rfl⟩ (by rw[zs];simp at c2;lia) (by lia) fun t' a1 a2 a3=>⟨a1,a2,a3⟩) ?_ fun _ _ e=>e)
  rintro⟨⟨⟩,t'⟩ s' ⟨rfl,a1,a2,a3⟩;dsimp only;refine zw (seqEpoch_at ho3 rfl ?_);obtain⟨f1,f2⟩:=fin t' a1 a2 a3;have sz2:((arrOf t').map (·.2)).size<=sizeLine+1:=by
   have:=f1.length_eq;rw[ZN]at this;rw[this,xM];lia
  refine zw (listUpdate_at ho3 rfl ?_ (hsz:=by rw[xM];decide) (hsz2:=sz2));rw[a2];simp only[bne_self_eq_false,sC,if_false];exact yt (h _ f1 f2)
end
end Srt
namespace Srt
open PySem PyProof.Rows
def Two(h:Heap)(p:Addr)(x y:Int):Prop:=∃(o:Obj) (t u:Tok) (n:Nat),h.get? p=some o/\o.cls = .type "tuple" /\ o.data = .seq #[.int x t,.int y u] n
section
variable{prog:Program}{w:World}{A:Around}{E:Value->Shared->Prop}{s:Shared}
end
end Srt
namespace Srt
open PySem PyProof.Rows
section
variable{prog:Program}{w:World}{A:Around}{E:Value->Shared->Prop}{R:Result->Shared->Prop}{s:Shared}{I S ax:Addr}{items:Array Value}{h₀:Heap}{κ:Value->Int}
def Prs(h:Heap)(κ:Value->Int)(lo:Int)(v:Value):Prop:=∃p x y,v = .ref p/\Two h p x y/\κ v=x*64+y/\lo<=y/\y<lo+64
end
end Srt
end L2
namespace L2
open PySem PyProof.Rows
section
variable{X:Cx}{pins:List (Addr × Obj)}{σ:St}{H:Hp}{s:Shared}
end
section
variable{X:Cx}{pins:List (Addr × Obj)}{σ:St}{H:Hp}{s:Shared}
def Cs:Value->List Nat
 | .str x _=>x.cps.toList
 |_=>[]
def IsS(v:Value):Prop:=∃x t,v = .str x t
abbrev InO(ls:List (List Nat)):Prop:=ls.Pairwise fun a b=>¬ b<a
def Ev(K:W.Frag):List V->Hp->VK->Prop
 | [.ref p],H,Q=>∃ls:List (List Nat),SqL K H p (ls.map T)/\ls.length<64/\∀out:List (List Nat),out.Perm ls->InO out->∀l,H l=none->Q (.ref l) (upd H l (.lst (out.map T)))
 |_,_,_=>False
def vd:List V->Hp->VK->Prop
 | [.ref d],H,Q=>∃kvs:List (Key × V),H d=some (.dK kvs)/\∀l,H l=none->Q (.ref l) (upd H l (.lst (kvs.map fun e=>kV e.1)))
 |_,_,_=>False
theorem pU:∀ {vs:List (Key × Value)} {us:List Value},us.length=vs.length->(∀(j:Nat) (v:Value),us[j]? = some v->∃k x,vs[j]? = some (k,x)/\(bC P w).is k v=true)->Vals (vs.map fun e=>kV e.1) us
 | [],[],_,_=>.nil
 |e::vs,u::us,hl,h=>by
  obtain⟨k,x,e1,r⟩:=h 0 u rfl;simp at e1;subst e1;refine .cons ?_ (pU (by simpa using hl) fun j v q=>by simpa using h (j+1) v (by simpa using q));cases k with
  |inl i=>obtain⟨t,z⟩:=Value.isInt_shape r;exact⟨t,z⟩
  |inr x=>obtain⟨t,z⟩:=Value.isStrOf_shape r;exact⟨t,z⟩
 | [],_::_,hl,_=>by simp at hl
 |_::_,[],hl,_=>by simp at hl
theorem nz(hc:X.calm=true):CallR X (.type "list") vd:=by
 intro pins s σ H xs us Q I r h;unfold vd at h;split at h
 ·rename_i d
  obtain⟨kvs,hd,q⟩:=h;obtain⟨u,rfl,rx⟩:=eS r;cases (show u=yX d from rx);obtain⟨z,lo,vs,kv,D⟩:=AV I.hok hd;obtain⟨ep,hat⟩:=D.dictAt;have len:vs.length=kvs.length:=(KV.length kv).symm;refine PySem.W.kdl_call (PySem.W.kdl_dict (knd:=bC X.prog X.w) (kvs:=vs) (ep:=ep) lo) (I.ok.hd hc) hat (by lia) fun h' tk acc c kp ea it=>?_;have ek:kvs.map (fun e=>kV e.1)=vs.map fun e=>kV e.1:=by
   have:=congrArg (List.map kV) (KV.keys kv)
   simpa [uR,Function.comp_def] using this
  refine⟨.ref s.heap.objs.size,_,I.laid (t':=tk) kp (z5 _) (show ObjOk X.prog X.w _ h' _ (.lst (kvs.map fun e=>kV e.1)) from⟨by rw[zB];exact z,acc.toList,c,?_,by rw[Array.toArray_toList];exact ea⟩),rfl,q _ (I.hok.fresh (z5 _))⟩;rw[ek];exact pU (P:=X.prog) (w:=X.w) (by rw[ZN];exact it.1) fun j v e=>it.2 j v (by rw[<- Array.getElem?_toList];exact e)
 ·exact h.elim
def F7(K:W.Frag):List V->Hp->VK->Prop
 | [.ref p],H,Q=>∃bs:List Bool,SqL K H p (bs.map V.bl)/\Q (.bl (bs.any id)) H
 |_,_,_=>False
theorem xa(K:W.Frag)(hc:X.calm=true)(hK:X.K=K:=by rfl):CallR X (.builtin "any") (F7 K):=by
 subst hK;intro pins s σ H xs us Q I r h;unfold F7 at h;split at h
 ·rename_i p
  obtain⟨bs,hq,q⟩:=h;obtain⟨u,rfl,rx⟩:=eS r;cases (show u=yX p from rx);obtain⟨its,rv,pl,hz⟩:=I.list hq;have hne:p≠s.heap.objs.size:=ui (by obtain⟨_,e,_⟩:=pl.isList;exact y3 e);have hb:LSm.BoolsAre its bs:=m6 rv;refine call_any_walk (YV pl.isList ?_);refine⟨s.heap.objs.size,[s.heap.objs.size,p],[s.heap.objs.size],its.toArray.size,_,_,fun i=>(bs[i]?).getD false,rfl,Walks.list (A:=X.A.in1) (I.ok.hd hc) _ p hne its.toArray,
   ⟨⟨_,Heap.get?_push_size _ rfl,rfl,rfl⟩,pl.isList.push _⟩,fun i v s' Q' E' hP hQ=>?_,fun h' tk hk=>?_⟩
  ·obtain⟨b,e,rfl⟩:=hb.get i v (by simpa using hP)
   simp only[e,Option.getD_some]at hQ;exact sS hQ
  ·have e:((Zi its.toArray.size).any fun i=>(bs[i]?).getD false)=bs.any id:=by
    rw[yp,hb.length];exact LSm.range_any bs
   rw[e];exact⟨.bl (bs.any id),H,I.kept (LSm.kept_iter hk),rfl,q⟩
 ·exact h.elim
end
def Dz(K:W.Frag)(CH:Addr)(tb:XKs->TS)(th:TS):TS:=fun D σ H=>
 tb (fun σ' C _ H'=>∃Ce,C = .ref Ce/\qE K (.ref Ce) (.ref CH)=some true/\th D σ' H') D σ H
theorem BO
 (hg:Gl X x) (hm:X.mg x=some (.ref CH))
 (hex:X.ex=[]) (hst:X.stack=X.env::X.outer) (hfr:X.env.frame=some X.env.locals)
 (hb:∀(pn:List (Addr × Obj)) (Ee:Value->Shared->Prop) (Ex:XKs),bO (XE X.prog X.w) { X with pn:=pn,xe:=Ee } Ex->PSs { X with pn:=pn,xe:=Ee } body (tb Ex))
 (hh:∀e:Addr,PSs (X.caught e) (b₀::suite) th) (hdb:(x==("__debug__":Str))=false:=by decide) :
 PS X (.Try body [.ExceptHandler (some (.Name x np)) none (b₀::suite) hpos] [] [] pos) (Dz X.K CH tb th):=by
 intro pins s σ H D I h;refine wpAny_Try_except ?_;have ok:=I.ok;refine uY (hb (X.pn++pins) _ _ ?hP [] s σ H D (I.toPn _) h) (fun f s1 hf=>?_) (fun _ _ z=>z)
 case hP=>
  intro pins' σ' H1 s1 ev s1' I1 hq;obtain⟨e,C,rs,H',rfl,os,bare,un,hok,hrs,⟨her,a0,fl,g0⟩,⟨Ce,rfl,hmro,hth⟩⟩:=hq;have J1:=I1.call' os un hok bare (fun b z=>nomatch z);have J:Inv X pins σ' H' s1':=J1.ofPn ok;have I0:Inv X pins σ' H1 s1:=I1.ofPn ok;have hn0:∀b∈rs,X.s₀.heap.get? b=none/\H' b=none:=fun b hb=>by
   refine⟨?_,(hrs b hb).2⟩;cases q:X.s₀.heap.get? b with
   |none=>rfl
   |some o=>
    obtain⟨o',z⟩:=I0.base.there b o q (by rw[hex];simp);rw[(hrs b hb).1]at z;cases z
  have hpin:∀p∈X.pn++pins,p.1∉rs:=fun p hp z=>by
   have:=(I0.pin p hp).1;rw[(hrs _ z).1]at this;cases this
  have hstk:s1'.heap.FunFrames X.base (X.env::X.outer):=by rw[<- hst];exact J.stack
  rw[show X.stack=X.env::X.outer from hst]at fl;have hfrm:X.A.frames=some (X.env::X.outer):=by rw[<- hst];exact ok.frames
  show wpAny (model X.prog X.w) X.A (noteFrame (.ref e) X.env) _ _ s1';refine dM (e:=e) (w_ _ _) g0 (wpAny_looks_onW (base:=hid s1'.heap (X.env::X.outer) rs) hfrm hfr fl fun h₄ held up4 g4=>?_);refine dM (e:=e) (k7 _ _) g4 (wpAny_landsW held fun h₅ fl5 up5 g5=>?_);have nin:∀b,b∉frs X.stack->b∉frs (X.env::X.outer):=fun b hb=>by rw[<- hst];exact hb
  have stay5:∀b o,s1'.heap.get? b=some o->b∉frs X.stack->b∉rs->h₅.get? b=some o:=fun b o z hb hr=>fl5.1 b o (iU z (nin b hb) hr);have I5:Inv X pins σ' H' { s1' with heap:=h₅,toks:=s1'.toks }:=J.noted hn0 hpin stay5 (up4.trans up5);obtain⟨ob,hob,hobc⟩:=fl5.there;refine wpAny_handleBy_cons (codeAny_handlers_test (ie (X:=X.caught e) (I5.toCaught e) hg hm (qx I5.kIn hob hobc hmro ?_) hdb)) (by intro q;cases q);refine codeAny_handlers_suite (dM (e:=e) (k7 _ _) g5 (lands_againW fl5 fun h₆ fl6 up6 g6=>?_));have stay6:∀b o,s1'.heap.get? b=some o->b∉frs X.stack->b∉rs->h₆.get? b=some o:=fun b o z hb hr=>fl6.1 b o (iU z (nin b hb) hr);have I6:Inv X pins σ' H' { s1' with heap:=h₆,toks:=s1'.toks }:=J.noted hn0 hpin stay6 ((up4.trans up5).trans up6);refine uY (hh e pins _ _ _ _ (I6.toCaught e) hth) (fun f s8 hf=>?_) (fun _ _ z=>z.elim);cases f with
  |next=>
   obtain⟨σ2,H2,J2,q⟩:=hf;exact⟨_,_,J2.ofCaught ok,q⟩
  |brk=>
   obtain⟨σ2,H2,J2,q⟩:=hf;exact⟨_,_,J2.ofCaught ok,q⟩
  |cont=>
   obtain⟨σ2,H2,J2,q⟩:=hf;exact⟨_,_,J2.ofCaught ok,q⟩
  |ret u=>
   obtain⟨v,σ2,H2,J2,r,q⟩:=hf;exact⟨v,_,_,J2.ofCaught ok,r,q⟩
 cases f with
 |next=>
  obtain⟨σ',H',J,q⟩:=hf;exact YB ⟨σ',H',J.ofPn ok,q⟩
 |brk=>
  obtain⟨σ',H',J,q⟩:=hf;exact⟨σ',H',J.ofPn ok,q⟩
 |cont=>
  obtain⟨σ',H',J,q⟩:=hf;exact⟨σ',H',J.ofPn ok,q⟩
 |ret u=>
  obtain⟨v,σ',H',J,r,q⟩:=hf;exact⟨v,σ',H',J.ofPn ok,r,q⟩
section
variable{X:Cx}{tg:Expr}
theorem u_{pins:List (Addr × Obj)}{σ:St}{H:Hp}{s:Shared}{R:It->Hp->Prop}{E:Value->Shared->Prop}{lo hi c:Int}{t u v:Tok}{tk:Nat}(I:Inv X pins σ H s)(h1:0<=lo)(h2:lo<1000000)(h3:-1000000<=hi)(h4:hi<1000000)(h5:1<=c)(h6:c<1000000)
 (q:R (u0 lo c (rsz lo hi c)) H):wpAny (model X.prog X.w) X.A (pyIter (.ref s.heap.objs.size)) (PIE X pins σ tg R) E { s with heap:=s.heap.push { cls:=.type "range",data:=.fields #[.int lo t,.int hi u,.int c v] },toks:=tk }:=by
 have hd:0<=(hi-lo-1) / c \/ ¬ lo<hi:=by
  by_cases h:lo<hi
  ·exact .inl (Int.ediv_nonneg (by lia) (by lia))
  ·exact .inr h
 have hd2:lo<hi->(hi-lo-1) / c<1000000:=fun h=>by
  have:=Int.ediv_le_self c (show 0<=hi-lo-1 by lia);lia
 have e2:((rsz lo hi c:Nat):Int)-((0:Nat):Int)=Y9 lo hi c:=by
  unfold rsz Y9;rw[if_pos (show c > 0 by lia)];split <;> lia
 refine wpAny_pyIter_range (IsRange.new ..) ?_ ?_
 ·have fits:∀z:Int,-(2 ^ 62)<=z->z<2 ^ 62->Builtin.Range.rangeFitsLong z=true:=fun z z1 z2=>by
   simp only[Builtin.Range.rangeFitsLong,sT,decide_eq_true_eq];lia
  have hr:0<=((rsz lo hi c:Nat):Int)/\((rsz lo hi c:Nat):Int)<=1000000:=by
   unfold rsz;split
   ·rename_i h;have:=hd2 h;lia
   ·lia
  unfold Builtin.Range.small;rw[<- e2,fits lo (by lia) (by lia),fits hi (by lia) (by lia),fits c (by lia) (by lia),fits _ (by lia) (by lia),if_pos (show c > 0 by lia),fits (hi+(c-1)) (by lia) (by lia),Bool.or_true]
  rfl
 have I1:Inv X pins σ H { s with heap:=s.heap.push { cls:=.type "range",data:=.fields #[.int lo t,.int hi u,.int c v] },toks:=tk }:=I.kept fun b o e=>Heap.get?_push_of_some _ e;refine⟨(s.heap.push { cls:=.type "range",data:=.fields #[.int lo t,.int hi u,.int c v] }).objs.size,[(s.heap.push { cls:=.type "range",data:=.fields #[.int lo t,.int hi u,.int c v] }).objs.size],_,_,H,rfl,
  I1.kept (t':=tk) fun b o e=>Heap.get?_push_of_some _ e,rX _ lo c (rsz lo hi c),?_,fun b hb=>?_,q⟩
 ·have e1:lo+((0:Nat):Int)*c=lo:=by simp
  show IsRangeIter _ _ (lo+((0:Nat):Int)*c) (((rsz lo hi c:Nat):Int)-((0:Nat):Int)) c;rw[e1,e2];exact Heap.get?_push_size _ rfl
 ·have e:b=(s.heap.push { cls:=.type "range",data:=.fields #[.int lo t,.int hi u,.int c v] }).objs.size:=by simpa using hb
  subst e;exact I1.fpOk (z5 _) (I1.hok.fresh (z5 _))
def Bu(ta:TA):TI:=fun σ H R=>ta σ H fun vs H1=>∃i j c:Int,vs=[.int i,.int j,.int c]/\(0<=i/\i<1000000 /\ -1000000<=j/\j<1000000/\1<=c/\c<1000000)/\R (u0 i c (rsz i j c)) H1
theorem vU(hg:Gl X "range")(hm:X.mg "range" = none)(ha:PA X [a,b,c] ta)(hs:starEach [a,b,c] X.env=[(false,eval a X.env),(false,eval b X.env),(false,eval c X.env)]:=by rfl)(hs2:starEach [b,c] X.env=[(false,eval b X.env),(false,eval c X.env)]:=by rfl) :
 PI X tg (.Call (.Name "range" p) [a,b,c] [] pos) (Bu ta):=by
 intro pins s σ H R I h;refine Call_ (lI I hg hm boot_range (ZA (thn (ha pos pins s σ H _ I h) fun us s1 ⟨vs,H1,I1,r1,q1⟩=>?_) (by rw[hs,hs2]) (by rw[hs2];rfl)));obtain⟨i,j,k,e,⟨q1,q2,q3,q4,q5,q6⟩,q⟩:=q1;subst e;cases r1 with
 |cons r rr=>
  cases rr with
  |cons r' rr=>
   cases rr with
   |cons r'' rr=>
    cases rr;obtain⟨t,rfl⟩:=r;obtain⟨t',rfl⟩:=r';obtain⟨t'',rfl⟩:=r'';exact call_range_3 (by lia) (u_ I1 q1 q2 q3 q4 q5 q6 q) (Or.inl (PyProof.noPylong_small (by lia)))
end
open Lean Meta Simp
def Cr:List Name:=EL++[`L2.HD,`L2.wz,`L2.DN,`L2.Dz]
def B2:List Name:=FO++[`L2.Ev,`L2.gSortD,`L2.vd,`L2.F7,`L2.zc,`L2.ET]
end L2
namespace L2
open PySem PyProof.Rows
section
variable{X:Cx}{pins:List (Addr × Obj)}{σ:St}{H:Hp}{s:Shared}
end
namespace Srt
def Ik(h:Heap)(p:Addr)(x y z:Int):Prop:=∃(o:Obj) (t u r:Tok) (n:Nat),h.get? p=some o/\o.cls = .type "tuple" /\ o.data = .seq #[.int x t,.int y u,.int z r] n
section
variable{prog:Program}{w:World}{A:Around}{E:Value->Shared->Prop}{s:Shared}
end
end Srt
section
variable{X:Cx}{pins:List (Addr × Obj)}{σ:St}{H:Hp}{s:Shared}
end
end L2
namespace L2
namespace Rv
open PySem PyProof.Rows
section
variable{prog:Program}{w:World}{A:Around}{E:Value->Shared->Prop}{s:Shared}
end
end Rv
open PySem PyProof.Rows
section
variable{X:Cx}{pins:List (Addr × Obj)}{σ:St}{H:Hp}{s:Shared}
end
def FE(J:It)(g:TG)(tb:TS)(D:fF)(σ:St)(H:Hp):Prop:=∃W:Nat->Nat->St->Hp->Prop,(∃m,W 0 m σ H)/\∀i m σ H,W i m σ H ->
 (J.stop i H/\D.nx σ H)\/(J.go i H/\∃N:St->Hp->Prop,(∀σ' H',N σ' H'->∃m',m'<m/\W (i+1) m' σ' H')/\∀x H',J.yld i H x H'->g x σ H' fun σ2 H2=>tb { D with nx:=N,ct:=N,bk:=D.nx } σ2 H2)
theorem k_{J:It}{H1:Hp}{D:Addr}{Q:VK}{σr:St}{tt:TT}{te:TE}(h:∃W:Nat->Nat->List V->Hp->Prop,(∃m,W 0 m [] (upd H1 D (.lst []))) /\
 ∀i m ys H2,W i m ys H2->H2 D=some (.lst ys)/\((J.stop i H2/\Q (.ref D) H2)\/(J.go i H2/\∀x H3,J.yld i H2 x H3 ->
  tt (some x::σr) H3 fun b H4=>if b=true then te (some x::σr) H4 fun y H5=>H5 D=some (.lst ys)/\ys.length<sizeLine/\∃m',m'<m/\W (i+1) m' (ys++[y]) (upd H5 D (.lst (ys++[y])))
   else ∃m',m'<m/\W (i+1) m' ys H4))) :
 ∃W:Nat->Nat->List V->Hp->Prop,(∃m,W 0 m [] (upd H1 D (.lst []))) /\
  ∀i m ys H2,W i m ys H2->H2 D=some (.lst ys)/\((J.stop i H2/\Q (.ref D) H2)\/(J.go i H2/\∀x H3,J.yld i H2 x H3->∀zs:St,zs.length=1 ->
   iq 0 x (zs++σr) H3 fun σ4 H4=>(∃zs4:St,zs4.length=1/\σ4=zs4++σr) /\
    tt σ4 H4 fun b H5=>if b=true then te σ4 H5 fun y H6=>H6 D=some (.lst ys)/\ys.length<sizeLine/\∃m',m'<m/\W (i+1) m' (ys++[y]) (upd H6 D (.lst (ys++[y])))
     else ∃m',m'<m/\W (i+1) m' ys H5)):=by
 obtain⟨W,h0,h⟩:=h;refine⟨W,h0,fun i m ys H2 w=>?_⟩;obtain⟨h1,h2⟩:=h i m ys H2 w;refine⟨h1,h2.imp id fun⟨g1,g2⟩=>⟨g1,fun x H3 y zs hz=>?_⟩⟩;obtain⟨z,rfl⟩:=ex1 hz;exact⟨⟨[some x],rfl,rfl⟩,g2 x H3 y⟩
theorem cmS{ks:List Nat}(C:Hp->Prop)(hC:∀D ys,H D=none->C (upd H D (.lst ys)))(l:List Nat)(p:Nat->Bool)(f:Nat->V)(hl:∀R:VK,R (T l) H->tl σ H R)(ha:∀c∈l,c<128)(hz:l.length<=sizeLine)
 (hp:∀c∈l,∀H (R:Bool->Hp->Prop),C H->R (p c) H->tt (some (T [c])::ks.map fun k=>(σ[k]?).join) H R) (hf:∀c∈l,p c=true->∀H (R:VK),C H->R (f c) H->te (some (T [c])::ks.map fun k=>(σ[k]?).join) H R)
 (q:∀D,H D=none->Q (.ref D) (upd H D (.lst ((l.filter p).map f)))):c6 (Hj tl) 1 (iq 0) ks tt te σ H Q:=by
 refine hl _ ⟨by simpa [cs] using ha,fun D hD=>?_⟩;have P:∀x∈l.map fun c=>T [c],∃c∈l,x=T [c]:=fun x hx=>by
  obtain⟨c,hc,rfl⟩:=yb.mp hx;exact⟨c,hc,rfl⟩
 let hd:V->Nat:=fun v=>match v with | .str y=>(cs y).headD 0|_=>0
 have hhd:∀c,hd (T [c])=c:=fun c=>rfl;refine k_ (p8 (AM l) C (fun v=>p (hd v)) (fun v=>f (hd v)) (by simpa using hz) (fun x hx H R c r=>?_) (fun x hx hb H R c r=>?_) D hD (fun ys=>hC D ys hD) ?_)
 ·obtain⟨y,hy,rfl⟩:=P x hx
  exact hp y hy H R c r
 ·obtain⟨y,hy,rfl⟩:=P x hx
  exact hf y hy hb H R c r
 ·have e:((l.map fun c=>T [c]).filter fun v=>p (hd v)).map (fun v=>f (hd v))=(l.filter p).map f:=by
   rw[List.filter_map,uR]
   rfl
  rw[e];exact q D hD
theorem cmL{K:W.Frag}{tl:TE}{ks:List Nat}{σ:St}{H H1:Hp}{Q:VK}{tt:TT}{te:TE}(a:Addr)(vs:List V)(C:Hp->Prop)(hC:∀D ys,H1 D=none->C (upd H1 D (.lst ys)))(hT:∀H,C H->SqL K H a vs)(p:V->Bool)(f:V->V)
 (hl:∀R:VK,R (.ref a) H1->tl σ H R) (h1:SqL K H1 a vs) (hz:vs.length<=sizeLine)
 (hp:∀x∈vs,∀H (R:Bool->Hp->Prop),C H->R (p x) H->tt (some x::ks.map fun k=>(σ[k]?).join) H R) (hf:∀x∈vs,p x=true->∀H (R:VK),C H->R (f x) H->te (some x::ks.map fun k=>(σ[k]?).join) H R)
 (q:∀D,H1 D=none->Q (.ref D) (upd H1 D (.lst ((vs.filter p).map f)))):c6 (nZ K tl) 1 (iq 0) ks tt te σ H Q:=
 hl _ ⟨a,rfl,⟨vs,h1⟩,fun D hD=>k_ (uI C (zX hT) p f hz hp hf D hD (fun ys=>hC D ys hD) (q D hD))⟩
theorem Ib{ks:List Nat}(C:Hp->Prop)(hC:∀D ys,H D=none->C (upd H D (.lst ys)))(lo hi:Int)(n:Nat)(hn:(hi-lo).toNat=n)(p:V->Bool)(f:V->V)(hl:∀R:List V->Hp->Prop,R [.int lo,.int hi] H->ta σ H R)(hb:-(2 ^ 62)<=lo/\lo<2 ^ 62 /\ -(2 ^ 62)<=hi/\hi<2 ^ 62)(hz:n<=sizeLine)
 (hp:∀k:Nat,k<n->∀H (R:Bool->Hp->Prop),C H->R (p (.int (lo+k))) H->tt (some (.int (lo+k))::ks.map fun k=>(σ[k]?).join) H R) (hf:∀k:Nat,k<n->p (.int (lo+k))=true->∀H (R:VK),C H->R (f (.int (lo+k))) H->te (some (.int (lo+k))::ks.map fun k=>(σ[k]?).join) H R)
 (q:∀D,H D=none->Q (.ref D) (upd H D (.lst ((((Zi n).map fun k:Nat=>V.int (lo+k)).filter p).map f)))):c6 (Eh ta) 1 (iq 0) ks tt te σ H Q:=by
 refine hl _ ⟨lo,hi,rfl,hb,?_⟩;rw[hn];intro D hD;have P:∀x∈(Zi n).map fun k:Nat=>V.int (lo+k),∃k:Nat,k<n/\x = .int (lo+k):=fun x hx=>by
  obtain⟨c,hc,rfl⟩:=yb.mp hx;exact⟨c,by simpa using hc,rfl⟩
 refine k_ (p8 (xT lo n) C p f (by simpa using hz) (fun x hx H R c' r=>?_) (fun x hx hb H R c' r=>?_) D hD (fun ys=>hC D ys hD) (q D hD))
 ·obtain⟨c,hc,rfl⟩:=P x hx
  exact hp c hc H R c' r
 ·obtain⟨c,hc,rfl⟩:=P x hx
  exact hf c hc hb H R c' r
inductive A2 {α β:Type} (R:α->β->Prop):List α->List β->Prop
 |nil:A2 R [] []
 |cons {a:α} {b:β} {as:List α} {bs:List β}:R a b->A2 R as bs->A2 R (a::as) (b::bs)
namespace A2
variable{α β:Type}{R S:α->β->Prop}
theorem len(h:A2 R as bs):as.length=bs.length:=by
 induction h with
 |nil=>rfl
 |cons _ _ ih=>simp[ih]
theorem imp(h:A2 R as bs)(f:∀a b,a∈as->b∈bs->R a b->S a b):A2 S as bs:=by
 induction h with
 |nil=>exact .nil
 |cons r _ ih=>exact .cons (f _ _ (.head _) (.head _) r) (ih fun a b ha hb=>f a b (.tail _ ha) (.tail _ hb))
theorem at_(h:A2 R as bs):∀ {i:Nat} {a:α},as[i]? = some a->∃b,bs[i]? = some b/\R a b:=by
 induction h with
 |nil=>intro i a e;simp at e
 |cons r _ ih=>
  intro i a e;cases i with
  |zero=>cases e;exact⟨_,rfl,r⟩
  |succ i=>exact ih (i:=i) (by simpa using e)
theorem app{as:List α}{bs:List β}(h:A2 R as bs){cs:List α}{ds:List β}(g:A2 R cs ds):A2 R (as++cs) (bs++ds):=by
 induction h with
 |nil=>exact g
 |cons r _ ih=>exact .cons r ih
theorem snoc(h:A2 R as bs)(r:R a b):A2 R (as++[a]) (bs++[b]):=h.app (.cons r .nil)
end A2
def sp6(f:V->V->V->V->V->V->Hp->VK->XK->Prop):Sp:=fun vs H Q E=>match vs with
 | [x,y,z,u,v,a]=>f x y z u v a H Q E
 |_=>False
theorem sp6.inv{f}(h:sp6 f vs H Q E):∃x y z u v a,vs=[x,y,z,u,v,a]/\f x y z u v a H Q E:=by
 unfold sp6 at h;split at h
 ·exact⟨_,_,_,_,_,_,rfl,h⟩
 ·exact h.elim
theorem sp6.len{f}(h:sp6 f vs H Q E):vs.length=6:=by obtain⟨_,_,_,_,_,_,rfl,_⟩:=sp6.inv h;rfl
def sp7(f:V->V->V->V->V->V->V->Hp->VK->XK->Prop):Sp:=fun vs H Q E=>match vs with
 | [x,y,z,u,v,a,b]=>f x y z u v a b H Q E
 |_=>False
open Lean Meta Simp
def BU:List Name:=Cr++[`L2.eZ,`Option.join]
def Df:List Name:=B2++[`L2.gCnt,`L2.gSortT,`L2.sp5,`L2.sp6,`L2.sp7]
def E7:Name->Bool
 | .str _ s=>s.startsWith "sp_"
 |_=>false
end L2
namespace L2
open PySem PyProof.Rows Builtin Builtin.Str
section
variable{X:Cx}
end
end L2
namespace L2
open PySem PyProof.Rows
section
variable{prog:Program}{w:World}{A:Around}{E:Value->Shared->Prop}{s:Shared}{it d:Addr}{i ep:Nat}{od:Obj}{es:Array Y6}
theorem wP(lo:(d==ZW)=false)(ho:s.heap.get? d=some od)(ex:od.ExactDict)(hd:od.data = .dict es ep)
 (q:Q (.ref s.heap.objs.size) { s with heap:=s.heap.push { cls:=.type "dict_keyiterator",data:=.fields #[.ref d,.int 0 0,.int es.size 0,.int ep 0] } }):wpAny (model prog w) A (pyIter (.ref d)) Q E s:=by
 have ty:s.TypeIs (.ref d) "dict":=⟨od,ho,ex.1⟩;refine wpAny_pyIter_slot ty F.slot_dict_iter (Yi F.slot_dict_iter ty F.entry_dict_iter ?_ (F.args_dict_iter_1 _));unfold Builtin.«dict.__iter__» Builtin.Dict.dictSlotNone;refine zw (zw (wpAny_notOrdered_dict ty ?_));show wpAny _ _ (pure (yX d)) _ _ s;refine yt ?_;show wpAny _ _ (Builtin.Dict.showsAll d >>= _) _ _ s;unfold Builtin.Dict.showsAll;rw[if_neg (by rw[lo];exact y9)];refine zw (yt (zw (wpAny_dictEntries ho hd (zw (wpAny_dictEpoch ho hd ?_)))));refine zw (ZR (yt ⟨_,rfl,"dict_keyiterator",_,⟨_,Heap.get?_push_size _ rfl,rfl⟩,ZD.lookup,by simpa [rawInt] using q⟩))
theorem wG(hi:s.heap.IsKeyIter it d i es.size ep)(hod:s.heap.get? d=some od)(hdd:od.data = .dict es ep)(hx:es[i]? = some e)
 (q:∀h',h'.IsKeyIter it d (i+1) es.size ep->Heap.SameBut it s.heap h'->Q (some e.key) { s with heap:=h' }):wpAny (model prog w) A (pyNext (.ref it)) Q E s:=by
 obtain⟨o,ho,hc,hd⟩:=id hi;have ty:=hi.typeIs;unfold pyNext;refine zw (wpAny_attempt (wpAny_callSpecial?_slot (name:=zI "__next__") ty ZD (Yi ZD ty F.entry_dict_keyiterator_next ?_ (F.args_dict_keyiterator_next_1 _))));refine zw (yt (zw (zw ?_)))
 first|refine zw (ZI ty (yt (zw (wpAny_fieldsOf ho hd ?_))))|refine zw (Ym ty (yt (zw (wpAny_fieldsOf ho hd ?_))))
 simp only[show Builtin.Dict_items.ownsTuple "dict_keyiterator" = false by decide,sC,if_false];show wpAny _ _ (if (yX d==Zc)=true then _ else _) _ _ s;rw[if_neg (show ¬ ((yX d==Zc)=true) from y9)];refine zw (yt (zw (wpAny_dictEntries hod hdd ?_)));rw[if_neg (by simp)];refine zw (yt (zw (wpAny_dictEpoch hod hdd ?_)));rw[if_neg (by simp)];refine yt ?_;have lt:i<es.size:=(Array.getElem?_eq_some_iff.mp hx).1;have ee:es[i]=e:=(Array.getElem?_eq_some_iff.mp hx).2;simp only[show ¬ ((i:Int)<0) from by lia,if_false,YQ,Array.getElem?_eq_getElem lt];refine zw ?_
 first|refine zw (ZI ty (yt (zw (wpAny_isOneOf_keyiter ty ?_))))|refine zw (Ym ty (yt (zw (wpAny_isOneOf_keyiter ty ?_))))
 show wpAny _ _ (setField (.ref it) 1 (rawInt ((i:Int)+1)) >>= _) _ _ s;refine zw (wpAny_setField ho hd (by simp) ?_);have hi':(s.heap.update it (Obj.mapFields (·.setIfInBounds 1 (rawInt ((i:Int)+1))))).IsKeyIter it d (i+1) es.size ep:=⟨_,Heap.get?_update_self _ ho (Obj.isFreed_of_fields (Obj.data_mapFields hd _)),(Obj.cls_mapFields ..).trans hc,by rw[Obj.data_mapFields hd];simp[rawInt]⟩;refine zw (ZT (zw (wpAny_isOneOf_keyiter (s:={ s with heap:=s.heap.update it (Obj.mapFields (·.setIfInBounds 1 (rawInt ((i:Int)+1)))) }) hi'.typeIs ?_)));show wpAny _ _ (pure es[i].key) _ _ _;rw[ee];exact yt (yt ⟨_,rfl,yt (q _ hi' (Heap.SameBut.update ..))⟩)
theorem zA(hh:A.handled=none)(hi:s.heap.IsKeyIter it d i es.size ep)(hod:s.heap.get? d=some od)(hdd:od.data = .dict es ep)(hx:es.size<=i)
 (q:∀h',Heap.ExtBut it s.heap h'->Q none { s with heap:=h' }):wpAny (model prog w) A (pyNext (.ref it)) Q E s:=by
 obtain⟨o,ho,hc,hd⟩:=id hi;have ty:=hi.typeIs;unfold pyNext;refine zw (wpAny_attempt (wpAny_callSpecial?_slot (name:=zI "__next__") ty ZD (Yi ZD ty F.entry_dict_keyiterator_next ?_ (F.args_dict_keyiterator_next_1 _))));refine zw (yt (zw (zw ?_)))
 first|refine zw (ZI ty (yt (zw (wpAny_fieldsOf ho hd ?_))))|refine zw (Ym ty (yt (zw (wpAny_fieldsOf ho hd ?_))))
 simp only[show Builtin.Dict_items.ownsTuple "dict_keyiterator" = false by decide,sC,if_false];show wpAny _ _ (if (yX d==Zc)=true then _ else _) _ _ s;rw[if_neg (show ¬ ((yX d==Zc)=true) from y9)];refine zw (yt (zw (wpAny_dictEntries hod hdd ?_)));rw[if_neg (by simp)];refine zw (yt (zw (wpAny_dictEpoch hod hdd ?_)));rw[if_neg (by simp)];refine yt ?_;simp only[show ¬ ((i:Int)<0) from by lia,if_false,YQ,Array.getElem?_eq_none hx];refine zw ?_
 first|refine zw (ZI ty (yt ?_))|refine zw (Ym ty (yt ?_))
 show wpAny _ _ (setField (.ref it) 0 .none >>= _) _ _ s;refine zw (wpAny_setField ho hd (by simp) ?_);show wpAny _ _ (newExc (.type "StopIteration") [] >>= _) _ _ _;refine zw ?_;simp only[newExc,newTuple];refine zw (ZR ?_ (by size_fits));refine zw (m:=firstArgMember _ _) (wpAny_of_eq (a:=Zc) (by first|rfl|(simp only[firstArgMember];rfl)) (ZR ?_ (by size_fits)));simp only[raiseNew];refine zw (wpAny_handled ?_);rw[show A.in1.handled=none from hh];refine zw (yt (wpAny_throw ?_));refine zw (wpAny_isInstance (T:="StopIteration") (b:=true) ⟨_,Heap.get?_push_size _ rfl,rfl⟩ isSubtype_stop (yt (q _ (((Heap.SameBut.update ..).extBut.push _).push _))))
theorem zQ(hh:A.handled=none)(I d:Addr)(ne:d≠I)(od:Obj)(es:Array Y6)(ep:Nat)(hdd:od.data = .dict es ep) :
 Walks prog w A I [I,d] [I] es.size (fun i v=>∃e,es[i]? = some e/\v=e.key) (fun i h=>h.IsKeyIter I d i es.size ep/\h.get? d=some od) where
 sub:=fun b hb=>by rw[zv.mp hb];exact .head _
 frame:=fun _ _ _ st hk=>⟨st.1.at fun o e=>hk I (.head _) o e,hk d (.tail _ (.head _)) _ st.2⟩
 item:=fun i s Q E hi st q=>by
  have hx:es[i]? = some es[i]:=by simp[hi]
  exact wG st.1 st.2 hdd hx fun h' a b=>q _ h' s.toks ⟨_,hx,rfl⟩ ⟨a,(b.2 d ne).trans st.2⟩ fun c o hc z=>(b.2 c fun y=>hc (by rw[y];exact .head _)).trans z
 done:=fun s Q E st q=>zA hh st.1 st.2 hdd (z5 _) fun h' b=>q h' s.toks fun c o hc z=>b c o (fun y=>hc (by rw[y];exact .head _)) z
 self:=fun _ _ _ _ st q=>wpAny_pyIter_keyiter st.1 q
theorem Fw(lo:(d==ZW)=false)(ex:od.ExactDict)(hd:od.data = .dict es ep):PySem.W.KdlSrc prog w "dict" d d es.size (fun i v=>∃e,es[i]? = some e/\v=e.key) (fun h=>h.get? d=some od) where
 type:=fun _ h=>⟨od,h,ex.1⟩
 there:=fun _ h=>⟨y3 h,y3 h⟩
 keep:=fun _ _ h k=>k d (.inl rfl) _ h
 notList:=by decide
 notTuple:=by decide
 hint:=fun _ _ _ _ h q=>PySem.W.kdl_hint_dict ⟨od,h,ex.1⟩ q
 iter:=fun _ _ hh h=>⟨_,_,(fun _ _ q=>wP lo h ex hd q),zQ hh _ d (ui (y3 h)) od es ep hd,⟨⟨_,Heap.get?_push_size _ rfl,rfl,rfl⟩,Heap.get?_push_of_some _ h⟩⟩
end
theorem AO{α:Type}{p q:α->Bool}(h:∀e,p e=true->q e=true):∀ {l:List α} {u:α},u∈l->q u=true->p u=false->l.countP p<l.countP q
 |x::r,u,m,hq,hp=>by
  rw[List.countP_cons,List.countP_cons];have le:r.countP p<=r.countP q:=List.countP_mono_left fun e _=>h e;rcases z6.mp m with rfl|m
  ·rw[if_pos hq,if_neg (by rw[hp];decide)];lia
  ·have:=AO h m hq hp
   by_cases c:p x=true
   ·rw[if_pos c,if_pos (h x c)];lia
   ·rw[if_neg c];split <;> lia
abbrev Pt:=List Nat × List Nat
def ltP(a b:Pt):Prop:=a.1<b.1\/(a.1=b.1/\a.2<b.2)
instance (a b:Pt):Decidable (ltP a b):=by unfold ltP;infer_instance
theorem vM(a:Pt):¬ ltP a a:=fun h=>h.elim (List.lt_irrefl _) fun h=>List.lt_irrefl _ h.2
theorem yW(h:ltP a b)(g:ltP b c):ltP a c:=by
 unfold ltP at *;rcases h with h|⟨h1,h2⟩
 ·rcases g with g|⟨g1,g2⟩
  ·exact .inl (List.lt_trans h g)
  ·exact .inl (g1 ▸ h)
 ·rcases g with g|⟨g1,g2⟩
  ·exact .inl (h1 ▸ g)
  ·exact .inr ⟨h1.trans g1,List.lt_trans h2 g2⟩
theorem wm(a b:List Nat):a<b\/a=b\/b<a:=by
 by_cases h:a<b
 ·exact .inl h
 ·by_cases g:b<a
  ·exact .inr (.inr g)
  ·exact .inr (.inl (List.le_antisymm (List.not_lt.mp g) (List.not_lt.mp h)))
theorem wQ(a b:Pt):ltP a b\/a=b\/ltP b a:=by
 obtain⟨a1,a2⟩:=a;obtain⟨b1,b2⟩:=b;rcases wm a1 b1 with h|rfl|h
 ·exact .inl (.inl h)
 ·rcases wm a2 b2 with h|rfl|h
  ·exact .inl (.inr ⟨rfl,h⟩)
  ·exact .inr (.inl rfl)
  ·exact .inr (.inr (.inr ⟨rfl,h⟩))
 ·exact .inr (.inr (.inl h))
def rnk(l:List Pt)(u:Pt):Nat:=l.countP fun e=>decide (ltP e u)
theorem y4{l:List Pt}{u v:Pt}(mu:u∈l)(h:ltP u v):rnk l u<rnk l v:=
 AO (fun e he=>decide_eq_true (yW (of_decide_eq_true he) h)) mu (decide_eq_true h) (decide_eq_false (vM u))
theorem mQ(mu:u∈l)(mv:v∈l):ltP u v↔(rnk l u:Int)<rnk l v:=by
 refine⟨fun h=>by have:=y4 mu h;lia,fun h=>?_⟩;rcases wQ u v with g|rfl|g
 ·exact g
 ·exact absurd h (Int.lt_irrefl _)
 ·have:=y4 mv g;lia
abbrev mS(l:List Pt):Prop:=l.Pairwise ltP
theorem pX:∀ {a b:List Pt},a.Perm b->mS a->mS b->a=b
 | [],_,p,_,_=>p.nil_eq
 |x::r,b,p,ha,hb=>by
  cases b with
  |nil=>exact absurd p.length_eq (by simp)
  |cons y t=>
   have e:x=y:=by
    rcases z6.mp (p.mem_iff.mp (.head _)) with h|h
    ·exact h
    ·rcases z6.mp (p.mem_iff.mpr (.head _)) with h'|h'
     ·exact h'.symm
     ·exact absurd (yW ((Y2.mp ha).1 y h') ((Y2.mp hb).1 x h)) (vM x)
   subst e;rw[pX (List.Perm.cons_inv p) (Y2.mp ha).2 (Y2.mp hb).2]
namespace Srt
def TwoS(h:Heap)(p:Addr)(e:Pt):Prop:=∃(o:Obj) (t u:Tok) (n:Nat),h.get? p=some o/\o.cls = .type "tuple" /\ o.data = .seq #[.str ⟨⟨e.1⟩⟩ t,.str ⟨⟨e.2⟩⟩ u] n
section
variable{prog:Program}{w:World}{A:Around}{E:Value->Shared->Prop}{s:Shared}
theorem sX:∀(vs:List Value),(∀v∈vs,∃p e,v = .ref p/\TwoS s.heap p e)->∀ {Q:List (Option Value)->Shared->Prop},(∀fs ns,StrsAre fs ns->fs.length=vs.length->Q (fs.map some) s) ->
 wpAny (model prog w) A (vs.mapM firstOfTuple') Q E s
 | [],_,Q,h=>by rw[List.mapM_nil];exact yt (h [] [] .nil rfl)
 |v::vs,hv,Q,h=>by
  obtain⟨p,e,rfl,o,t,u,n,ho,hc,hd⟩:=hv v (Z6 ..);rw[List.mapM_cons];refine zw ?_;show wpAny _ _ (typeOf (.ref p) >>= _) _ _ s;refine zw (wpAny_typeOf (⟨o,ho,hc⟩:s.TypeIs (.ref p) "tuple") ?_);rw[if_neg (by decide)];refine zw (listItems_at ho hd (yt ?_));show wpAny _ _ (vs.mapM firstOfTuple' >>= fun bs=>pure (some (YY ⟨⟨e.1⟩⟩ t)::bs)) Q E s;exact zw (sX vs (fun v hv'=>hv v (xC _ hv')) fun fs ns hI hl=>yt (h (.str ⟨⟨e.1⟩⟩ t::fs) (⟨⟨e.1⟩⟩::ns) (.cons _ t hI) (by simp[hl])))
theorem F9{vs:List Value}(hv:∀v∈vs,∃p e,v = .ref p/\TwoS s.heap p e)(h2:2<=vs.length)(h:Q (tuples' true) s):wpAny (model prog w) A (keyKind' vs.toArray) Q E s:=by
 rw[keyKind'_eq,List.mapM_toArray,map_eq_pure_bind];refine zw (zw (sX vs hv fun fs ns hI hl=>yt ?_));rw[if_pos (by simp)];refine zw (wpAny_rule ?_);have e:(fs.map some).toArray.filterMap id=fs.toArray:=by simp
 rw[e,oneTypeOnly'_eq,List.mapM_toArray,mapM_typeOf_strs hI];simp only[map_pure,pure_bind];have all:((fs.map fun _=>Z2 "str").toArray.all fun x=>x==Z2 "str")=true:=by
  simp only[List.all_toArray,List.all_map,Zj];exact fun _ _=>rfl
 have at0:(fs.map fun _=>Z2 "str").toArray[0]? = some (Z2 "str"):=by
  have:0<fs.length:=by lia
  simp[this]
 rw[at0];simp only[all,if_true,pure_bind];exact yt h
theorem Ax(h:x≠y):decide ((⟨⟨x⟩⟩:Str)=⟨⟨y⟩⟩)=false:=decide_eq_false fun z=>h (by injection z with z;injection z)
theorem Ic(hp:TwoS s.heap p a)(hq:TwoS s.heap q b)(h:Q (decide (ltP a b)) s) :
 wpAny (model prog w) A (keyLt' (tuples' true) (.ref p) (.ref q)) Q E s:=by
 obtain⟨x,y⟩:=a;obtain⟨x',y'⟩:=b;obtain⟨o,t,u,n,ho,hc,hd⟩:=hp;obtain⟨o',t',u',n',ho',hc',hd'⟩:=hq;show wpAny _ _ (Builtin.List.listItems (.ref p) >>= fun xs=>Builtin.List.listItems (.ref q) >>= fun ys=>_) _ _ s;refine zw (listItems_at ho hd (zw (listItems_at ho' hd' ?_)));show wpAny _ _ (forIn [((YY ⟨⟨x⟩⟩ t,YY ⟨⟨x'⟩⟩ t'),0),((YY ⟨⟨y⟩⟩ u,YY ⟨⟨y'⟩⟩ u'),1)] (none,()) _ >>= _) _ _ s;rw[List.forIn_cons];refine zw (zw (zw (wpAny_eqBool_str ?_)));by_cases e:x=x'
 ·subst e
  simp only[decide_true,Bool.not_true,sC,if_false];refine yt ?_;simp only[List.forIn_cons];refine zw (zw (wpAny_eqBool_str ?_));by_cases e2:y=y'
  ·subst e2
   simp only[decide_true,Bool.not_true,sC,if_false];refine yt ?_;simp only[List.forIn_nil];refine yt (yt ?_);rw[decide_eq_false (vM _)]at h;exact h
  ·simp only[Ax e2,Bool.not_false,if_true]
   refine zw ?_;show wpAny _ _ (oneLt' false (.str ⟨⟨y⟩⟩ u) (.str ⟨⟨y'⟩⟩ u')) _ _ s;rw[oneLt'_eq];simp only[sC,if_false];refine zw (PySem.P.lt_str (sS (yt (yt (yt ?_)))));rw[show decide (ltP (x,y) (x,y'))=decide (y<y') from decide_eq_decide.mpr ⟨fun z=>z.elim (fun z=>absurd z (List.lt_irrefl _)) (·.2),fun z=>.inr ⟨rfl,z⟩⟩]at h;exact h
 ·simp only[Ax e,Bool.not_false,if_true]
  refine zw ?_;show wpAny _ _ (oneLt' true (.str ⟨⟨x⟩⟩ t) (.str ⟨⟨x'⟩⟩ t')) _ _ s;refine oneLt_str (yt (yt (yt ?_)));rw[show decide (ltP (x,y) (x',y'))=decide (x<x') from decide_eq_decide.mpr ⟨fun z=>z.elim id fun z=>absurd z.1 e,.inl⟩]at h;exact h
theorem cmp_S{h:Heap}{os:OsState}{vs:List Value}{κ:Value->Int}{f:Value->Pt}(h2:2<=vs.length)(hv:∀v∈vs,∃p,v = .ref p/\TwoS h p (f v))(hk:∀u∈vs,∀v∈vs,(ltP (f u) (f v)↔κ u<κ v)):Cmp prog w A h os (tuples' true) κ vs where
 kind E s Q e q:=by
  subst e;exact F9 (fun v m=>let ⟨p,a,b⟩:=hv v m;⟨p,_,a,b⟩) h2 q
 lt E s u v Q e mu mv q:=by
  subst e;obtain⟨p,rfl,b⟩:=hv u mu;obtain⟨p',rfl,b'⟩:=hv v mv;refine Ic b b' ?_
  rwa [decide_eq_decide.mpr (hk _ mu _ mv)]
end
end Srt
section
variable{X:Cx}{pins:List (Addr × Obj)}{σ:St}{H:Hp}{s:Shared}
abbrev tP(e:Pt):List V:=[T e.1,T e.2]
abbrev kP(e:Pt):List Key:=[.inr ⟨⟨e.1⟩⟩,.inr ⟨⟨e.2⟩⟩]
theorem GV(e:Pt):(kP e).map kV=tP e:=rfl
theorem nH(h:kP a=kP b):a=b:=by
 obtain⟨a1,a2⟩:=a;obtain⟨b1,b2⟩:=b;simp only[kP,List.cons.injEq,and_true]at h;obtain⟨h1,h2⟩:=h;injection h1 with h1;injection h1 with h1;injection h1 with h1
 injection h2 with h2;injection h2 with h2;injection h2 with h2
 rw[h1,h2]
theorem Fq(h:tP a=tP b):a=b:=nH (wL (by rw[GV,GV,h]))
abbrev KAt(H:Hp)(a:Addr)(e:Pt):Prop:=H a=some (.tup (tP e))
theorem Hx(r:KT H kvs xs):∀ {ks:List Pt},kvs.map (·.1)=ks.map kP ->
 ∃ps:List (Addr × Pt),ps.map (·.2)=ks/\xs.map (fun x=>yX x.2.1)=ps.map (fun e=>yX e.1)/\(xs.map (·.1)=ks.map kP)/\∀e∈ps,KAt H e.1 e.2:=by
 induction r with
 |nil=>
  intro ks h;cases ks with
  |nil=>exact⟨[],rfl,rfl,rfl,fun _ m=>nomatch m⟩
  |cons=>simp at h
 | @cons p q ps qs h t ih=>
  intro ks e;cases ks with
  |nil=>simp at e
  |cons k ks=>
   rw[yF,yF]at e;injection e with e1 e2
   obtain⟨l,a1,a2,a3,a4⟩:=ih e2;obtain⟨h1,h2,_⟩:=h;rw[e1]at h1 h2;refine⟨(q.2.1,k)::l,by rw[yF,a1],by rw[yF,yF,a2],by rw[yF,yF,a3,h1],fun z m=>?_⟩;rcases z6.mp m with rfl|m
   ·exact h2
   ·exact a4 z m
def fOf(ps:List (Addr × Pt)):Value->Pt
 | .ref a=>((ps.find? fun e=>e.1==a).map (·.2)).getD ([],[])
 |_=>([],[])
theorem Bf(hp:∀e∈ps,KAt H e.1 e.2)(m:e∈ps):fOf ps (.ref e.1)=e.2:=by
 show((ps.find? fun z=>z.1==e.1).map (·.2)).getD ([],[])=e.2;cases f:ps.find? fun z=>z.1==e.1 with
 |none=>exact absurd (List.find?_eq_none.mp f e m) (by simp)
 |some z=>
  have e1:z.1=e.1:=by simpa using List.find?_some f
  have t1:=hp z (List.mem_of_find?_eq_some f);have t2:=hp e m;rw[e1]at t1;have t3:=t1.symm.trans t2;injection t3 with t3;injection t3 with t3
  exact Fq t3
theorem DV(hp:∀e∈ps,KAt H e.1 e.2):∀ {out:List Value},(∀v∈out,v∈ps.map fun e=>yX e.1)->∃as:List Addr,Vals (as.map V.ref) out/\A2 (KAt H) as (out.map (fOf ps))
 | [],_=>⟨[],.nil,.nil⟩
 |v::out,h=>by
  obtain⟨as,a1,a2⟩:=DV hp fun u m=>h u (xC _ m);obtain⟨e,m,rfl⟩:=yb.mp (h v (Z6 ..));refine⟨e.1::as,.cons rfl a1,?_⟩;rw[yF,Bf hp m];exact .cons (hp e m) a2
theorem Inv.twoS(I:Inv X pins σ H s)(h:KAt H p e):Srt.TwoS s.heap p e:=by
 obtain⟨_,its,r0,o,ho,hc,n,hd⟩:=(show ObjOk X.prog X.w H s.heap p (.tup (tP e)) from I.hok p _ h);have r:Vals [T e.1,T e.2] its:=r0;clear r0;cases r with
 |cons r1 r=>
  cases r with
  |cons r2 r=>
   cases r;obtain⟨t,rfl⟩:=r1;obtain⟨u,rfl⟩:=r2;exact⟨o,t,u,n,ho,hc,hd⟩
theorem Srt.TwoS.keep(x:Srt.TwoS h p e)(k:∀b o,h.get? b=some o->h'.get? b=some o):Srt.TwoS h' p e:=by
 obtain⟨o,t,u,n,ho,r⟩:=x;exact⟨o,t,u,n,k _ _ ho,r⟩
def rG:List V->Hp->VK->Prop
 | [.ref d],H,Q=>∃(kvs:List (List Key × V)) (ks:List Pt),H d=some (.dT kvs)/\kvs.map (·.1)=ks.map kP/\ks.length<64 /\
  ∀(out:List Pt) (as:List Addr),out.Perm ks->mS out->A2 (KAt H) as out->∀l,H l=none->Q (.ref l) (upd H l (.lst (as.map V.ref)))
 |_,_,_=>False
theorem pM(hc:X.calm=true):CallR X (.builtin "sorted") rG:=by
 intro pins s σ H xs us Q I r h;unfold rG at h;split at h
 ·rename_i d
  obtain⟨kvs,ks,hd,hks,h64,q⟩:=h;obtain⟨u,rfl,rx⟩:=eS r;cases (show u=yX d from rx);obtain⟨z,lo,xs,rel,o,es,ep,ho,ex,hdat,he,_,hn⟩:=Ea I.hok hd;obtain⟨ps,p1,p2,p3,p4⟩:=Hx rel hks;have ndk:ks.Nodup:=by
   rw[p3]at hn;exact(YS.mp hn).imp fun h e=>h (by rw[e])
  have len:es.size=ks.length:=by
   rw[<- ZN,he,zB,<- zB (f:=fun x=>yX x.2.1),p2,zB,<- zB (f:=(·.2)),p1]
  refine Calls.call_function_entry kind_sorted plain_sorted entry_sorted (args_sorted1 _) ?_;unfold Builtin.«sorted»;refine zw (m:=checkCount "sorted" 1 1 _) (yt ?_);refine zw (PySem.W.kdu_collect (Fw lo ex hdat) (I.ok.hd hc) ho (by rw[len,xM];lia) fun h' tk acc kp it=>?_);have ea:acc.toList=ps.map fun e=>yX e.1:=by
   rw[<- p2];have ek:xs.map (fun x=>yX x.2.1)=es.toList.map (·.key):=by rw[he,uR];rfl
   rw[ek];refine List.ext_getElem? fun j=>?_;rw[List.getElem?_map,Array.getElem?_toList,Array.getElem?_toList];cases ej:acc[j]? with
   |none=>
    have:acc.size<=j:=Array.getElem?_eq_none_iff.mp ej;rw[it.1]at this;rw[Array.getElem?_eq_none this];rfl
   |some v=>
    obtain⟨e,g1,g2⟩:=it.2 j v ej;rw[g1,g2];rfl
  have inv:∀e∈ps,fOf ps (.ref e.1)=e.2:=fun e m=>Bf p4 m;have em:(ps.map fun e=>yX e.1).map (fOf ps)=ks:=by
   rw[uR,<- p1];exact r6 fun e m=>inv e m
  have mk:∀v∈ps.map (fun e=>yX e.1),fOf ps v∈ks:=fun v m=>by rw[<- em];exact xp m
  have nd:((ps.map fun e=>yX e.1).map fun v=>(rnk ks (fOf ps v):Int)).Nodup:=by
   rw[show(ps.map fun e=>yX e.1).map (fun v=>(rnk ks (fOf ps v):Int))=((ps.map fun e=>yX e.1).map (fOf ps)).map (fun e=>(rnk ks e:Int)) by simp only[uR];rfl,em];refine YS.mpr (List.Pairwise.imp_of_mem (fun {a b} ma mb ne e=>?_) ndk);rcases wQ a b with g|g|g
   ·have:=(mQ ma mb).mp g;lia
   ·exact ne g
   ·have:=(mQ mb ma).mp g;lia
  have lv:(ps.map fun e=>yX e.1).length<64:=by rw[zB,<- zB (f:=(·.2)),p1];exact h64
  rw[ea];refine zw (wpAny_newList ?_ (by rw[xM];lia));have hoL:(h'.push (seqObj "list" (ps.map fun e=>yX e.1).toArray 0)).get? h'.objs.size=some (seqObj "list" (ps.map fun e=>yX e.1).toArray 0):=Heap.get?_push_size _ rfl;have kL:∀b ob,s.heap.get? b=some ob->(((h'.push (seqObj "list" (ps.map fun e=>yX e.1).toArray 0)).update h'.objs.size (Z3 fun _=>#[])).push (seqObj "tuple" (ps.map fun e=>yX e.1).toArray 0) |>.push (seqObj "list" #[] 0)).get? b=some ob:=fun b ob e=>by
   have l1:=y3 (kp _ _ e);refine Heap.get?_push_of_some _ (Heap.get?_push_of_some _ ?_);rw[Heap.get?_update_ne _ _ _ _ (ui l1)];exact Heap.get?_push_of_some _ (kp _ _ e)
  refine zw (ZT (Yi slot_list_sort ⟨_,hoL,rfl⟩ entry_list_sort (Srt.sort_by (kd:=tuples' true) (κ:=fun v=>(rnk ks (fOf ps v):Int)) hoL lv nd (fun h2=>Srt.cmp_S (f:=fOf ps) h2 (fun v m=>?_) fun u mu v mv=>mQ (mk u mu) (mk v mv)) fun out pm sr=>⟨_,rfl,?_⟩) (args_list_sort _)))
  ·obtain⟨e,me,rfl⟩:=yb.mp m
   refine⟨e.1,rfl,?_⟩;rw[inv e me];exact(I.twoS (p4 e me)).keep kL
  ·refine yt ⟨_,rfl,?_⟩
   obtain⟨c,el⟩:=sortedHeap_at (out:=out.toArray) hoL;have I1:Inv X pins σ H { s with heap:=h',toks:=tk }:=I.kept kp;have kp2:∀b o,h'.get? b=some o->(sortedHeap (h'.push (seqObj "list" (ps.map fun e=>yX e.1).toArray 0)) h'.objs.size (ps.map fun e=>yX e.1) out.toArray).get? b=some o:=fun b o e=>by
    have l1:=y3 e;rw[sortedHeap_old (ui l1) (by rw[size_push'];exact Nat.lt_succ_of_lt l1),Heap.get?_push_ne _ _ _ (ui l1)];exact e
   obtain⟨as,a1,a2⟩:=DV p4 (out:=out) fun v m=>pm.mem_iff.mp m;have po:(out.map (fOf ps)).Perm ks:=by have:=pm.map (fOf ps);rwa [em]at this
   have so:mS (out.map (fOf ps)):=YS.mpr (List.Pairwise.imp_of_mem (fun {a b} ma mb l=>(mQ (mk a (pm.mem_iff.mp ma)) (mk b (pm.mem_iff.mp mb))).mpr l) sr);refine⟨.ref h'.objs.size,_,I1.laid (t':=tk) (a:=h'.objs.size) kp2 (z5 _) (show ObjOk X.prog X.w _ _ _ (.lst (as.map V.ref)) from⟨?_,out,c,a1,el⟩),rfl,q _ as po so a2 _ (I1.hok.fresh (z5 _))⟩;have:=a1.length;have:=pm.length_eq;rw[xM];lia
 ·exact h.elim
def DD:V->List V->Hp->VK->Prop:=fun x vs H Q=>∃l b xs zs,x = .ref l/\vs=[.ref b]/\H l=some (.lst xs)/\H b=some (.tup zs)/\xs.length+zs.length<=sizeLine/\Q .non (upd H l (.lst (xs++zs)))
theorem Cg:MtM X "list.extend" DD:=by
 intro pins s σ H x vs v us Q I rx rv h;obtain⟨l,b,xs,zs,rfl,rfl,hH,hB,hz,q⟩:=h;cases rx;obtain⟨u,rfl,ru⟩:=rv.one;cases ru;obtain⟨z,its,n,r,hl,e⟩:=I.lstM hH;obtain⟨z2,its2,r2,⟨ob,eb,cb,n2,db⟩⟩:=(show ObjOk X.prog X.w H s.heap b (.tup zs) from I.hok b _ hB);have hl2:=r2.length;have fin:Inv X pins σ (upd H l (.lst (xs++zs))) { s with heap:=s.heap.update l (Z3 (· ++ its2.toArray)) }:=I.lset (its':=its++its2) hH e (by simp) (r.append r2) (by rw[yk];lia);refine Yi F.slot_list_extend ⟨_,e,rfl⟩ F.entry_list_extend ?_ (F.args_list_extend_2 _ _);show wpAny _ _ (Builtin.List.listExtendWith (.ref l) (.ref b) .none) _ _ s;unfold Builtin.List.listExtendWith;refine zw (wpAny_typeOf ⟨ob,eb,cb⟩ ?_);rw[if_pos (by rw[show(Z2 "tuple" == Z2 "tuple")=true by decide,Bool.or_true])];refine zw (listItems_at eb db (zw (listItems_at e rfl ?_)));have hsz:its.toArray.size+its2.toArray.size<=sizeLine:=by rw[yp,yp];lia
 rw[if_neg (by rw[tm hsz,Bool.and_false];exact y9)];refine zw (listUpdate_at e rfl ?_ (hsz:=by rw[yp];lia) (hsz2:=by rw[Array.size_append];lia));exact yt ⟨_,rfl,.non,_,fin,rfl,q⟩
end
def CEl(J:It)(n:Nat)(g:TG)(ks:List Nat)(tt:TT)(te:TE)(σ:St)(H1:Hp)(Q:VK):Prop:=∀D,H1 D=none->∃W:Nat->Nat->List V->Hp->Prop,(∃m,W 0 m [] (upd H1 D (.lst []))) /\
 ∀i m ys H2,W i m ys H2->H2 D=some (.lst ys)/\((J.stop i H2/\Q (.ref D) H2)\/(J.go i H2/\∀x H3,J.yld i H2 x H3->∀zs:St,zs.length=n ->
  g x (zs++ks.map fun k=>(σ[k]?).join) H3 fun σ4 H4=>(∃zs4:St,zs4.length=n/\σ4=zs4++ks.map fun k=>(σ[k]?).join) /\
   tt σ4 H4 fun b H5=>if b=true then te σ4 H5 fun y H6=>H6 D=some (.lst ys)/\ys.length<sizeLine/\∃m',m'<m/\W (i+1) m' (ys++[y]) (upd H6 D (.lst (ys++[y])))
    else ∃m',m'<m/\W (i+1) m' ys H5))
theorem jn{K:W.Frag}{tl:TE}{n:Nat}{g:TG}{ks:List Nat}{tt:TT}{te:TE}{σ:St}{H:Hp}{Q:VK}(h:tl σ H fun x H1=>∃a,x = .ref a/\(∃xs,SqL K H1 a xs)/\CEl (Itl K a) n g ks tt te σ H1 Q):c6 (nZ K tl) n g ks tt te σ H Q:=h
theorem wN{K:W.Frag}{n:Nat}{g:TG}{ks:List Nat}{tt:TT}{te:TE}{σ:St}{H1:Hp}{Q:VK}(a:Addr)(xs:List V)(P:Addr->Nat->List V->Hp->Prop)(hz:xs.length<sizeLine)
 (h0:∀D,H1 D=none->P D 0 [] (upd H1 D (.lst []))) (hD:∀D i ys H',P D i ys H'->H' D=some (.lst ys)/\SqL K H' a xs/\ys.length<=i)
 (hs:∀D i y ys H' (zs:St) (N1:VK) (N0:Hp->Prop),xs[i]? = some y->P D i ys H'->zs.length=n->(∀v H6,H6 D=some (.lst ys)->P D (i+1) (ys++[v]) (upd H6 D (.lst (ys++[v])))->N1 v H6)->(∀H6,P D (i+1) ys H6->N0 H6) ->
  g y (zs++ks.map fun k=>(σ[k]?).join) H' fun σ4 H4=>(∃zs4:St,zs4.length=n/\σ4=zs4++ks.map fun k=>(σ[k]?).join)/\tt σ4 H4 fun b H5=>if b=true then te σ4 H5 N1 else N0 H5)
 (hd:∀D ys H',P D xs.length ys H'->Q (.ref D) H'):CEl (Itl K a) n g ks tt te σ H1 Q:=by
 intro D hDn;refine⟨fun i m ys H'=>m=xs.length-i/\i<=xs.length/\P D i ys H',⟨_,rfl,xm _,h0 D hDn⟩,?_⟩;rintro i m ys H' ⟨rfl,hi,p⟩;obtain⟨d1,d2,d3⟩:=hD D i ys H' p;refine⟨d1,?_⟩;rcases Nat.lt_or_ge i xs.length with lt|ge
 ·refine .inr ⟨⟨xs,xs[i],d2,by simp[lt]⟩,?_⟩
  rintro x H3 ⟨rfl,hx⟩ zs hzs;exact hs D i x ys _ zs _ _ (hx xs d2) p hzs (fun v H6 h6 p6=>⟨h6,by lia,_,by lia,rfl,lt,p6⟩) fun H6 p6=>⟨_,by lia,rfl,lt,p6⟩
 ·obtain rfl:i=xs.length:=Nat.le_antisymm hi ge
  exact .inl ⟨⟨xs,d2,z5 _⟩,hd D ys H' p⟩
section
variable{X:Cx}{pos:Pos}
end
open Lean Meta Simp
def Cv:List Name:=BU++[`L2.Ay,`L2.DD,`L2.tPar3]
def Dj:List Name:=Df++[`L2.rG,`L2.gRp]
def Ds(e:Lean.Expr):MetaM (Option Lean.Expr):=do
 let .const n us:=e.getAppFn|return none
 let fr:=E7 n || Cv.contains n
 unless fr || Dj.contains n do return none
 let some (.defnInfo d):=(<- getEnv).find? n|return none
 let v:=d.value.instantiateLevelParams d.levelParams us
 if e.getAppNumArgs<v.getNumHeadLambdas then return none
 let b:=v.beta e.getAppArgs
 if fr then return some b
 match <- reduceMatcher? b with
 | .reduced r=>return some r
 | .notMatcher=>return some b
 |_=>return none
dsimproc_decl Bq (_):=fun e=>do
 match <- Ds e with
 |some r=>return .visit r
 |none=>return .continue
end L2
namespace K19
open PySem L2
structure Row where
 pa:List Nat
 cu:List Nat
 am:Int
structure Bk where
 k:Int
 d:Int
 rs:List Row
def sg(a s:Int)(k:Nat):Nat:=97+((a+s*k) % 26).toNat
def wd(a s:Int)(n:Nat):List Nat:=(Zi n).map fun k=>sg a s k
def yi(d:List (Pt × Int))(k:Pt)(v:Int):List (Pt × Int):=if (d.any fun e=>decide (e.1=k))=true then d.map (fun e=>if e.1=k then (e.1,v) else e) else d++[(k,v)]
def oG(d:List (Pt × Int))(k:Pt):Option Int:=(d.find? fun e=>decide (e.1=k)).map (·.2)
def jj(e:Pt × Int):List Key × V:=(kP e.1,.int e.2)
theorem Cf(e:Pt × Int)(k:Pt):decide ((jj e).1=kP k)=decide (e.1=k):=decide_eq_decide.mpr ⟨fun h=>nH h,fun h=>by show kP e.1=kP k;rw[h]⟩
theorem nv(d:List (Pt × Int))(k:Pt)(v:Int):e9 (d.map jj) (kP k) (.int v)=(yi d k v).map jj:=by
 unfold e9 yi;have e1:((d.map jj).any fun kv=>decide (kv.1=kP k))=d.any fun e=>decide (e.1=k):=by
  rw[List.any_map];exact congrArg (d.any ·) (funext fun e=>Cf e k)
 rw[e1];split
 ·rw[uR,uR]
  apply r6;intro e _;show(if (jj e).1=kP k then ((jj e).1,V.int v) else jj e)=jj (if e.1=k then (e.1,v) else e);by_cases h:e.1=k
  ·rw[if_pos h,if_pos (by show kP e.1=kP k;rw[h])];rfl
  ·rw[if_neg h];exact if_neg fun z=>h (nH z)
 ·rw[vx];rfl
theorem fN(k:Pt):∀d:List (Pt × Int),dR (d.map jj) (kP k)=(oG d k).map V.int
 | []=>rfl
 |e::r=>by
  have ih:=fN k r;by_cases h:e.1=k
  ·rw[yF,bQ (by show kP e.1=kP k;rw[h])]
   simp[oG,h,jj]
  ·rw[yF,bH (fun z=>h (nH z)),ih]
   simp[oG,h]
def stp(d:List (Pt × Int))(r:Row):List (Pt × Int):=yi d (r.pa,r.cu) ((oG d (r.pa,r.cu)).getD 0+r.am)
def dk(rs:List Row):List (Pt × Int):=rs.foldl stp []
theorem mK(rs:List Row)(r:Row):dk (rs++[r])=stp (dk rs) r:=by unfold dk;rw[List.foldl_append];rfl
theorem yG(d:List (Pt × Int))(k:Pt)(v:Int):(yi d k v).map (·.1)=if k∈d.map (·.1) then d.map (·.1) else d.map (·.1)++[k]:=by
 unfold yi;have e:((d.any fun e=>decide (e.1=k))=true)↔k∈d.map (·.1):=by
  rw[List.any_eq_true];constructor
  ·rintro⟨x,hx,h⟩;exact yb.mpr ⟨x,hx,of_decide_eq_true h⟩
  ·intro h
   obtain⟨x,hx,h⟩:=yb.mp h;exact⟨x,hx,decide_eq_true h⟩
 by_cases h:k∈d.map (·.1)
 ·rw[if_pos (e.mpr h),if_pos h,uR]
  apply r6;intro x _;show(if x.1=k then (x.1,v) else x).1=x.1;split <;> rfl
 ·rw[if_neg fun z=>h (e.mp z),if_neg h,vx];rfl
theorem xg:(dk (rs++[r])).map (·.1)=if (r.pa,r.cu)∈(dk rs).map (·.1) then (dk rs).map (·.1) else (dk rs).map (·.1)++[(r.pa,r.cu)]:=by
 rw[mK];exact yG _ _ _
theorem m_{α:Type}{P:List α->Prop}(h0:P [])(h1:∀l x,P l->P (l++[x]))(l:List α):P l:=by
 have:∀r:List α,P r.reverse:=by
  intro r
  induction r with
  |nil=>exact h0
  |cons x r ih=>rw[List.reverse_cons];exact h1 _ _ ih
 have h:=this l.reverse
 rwa [List.reverse_reverse]at h
theorem iG(rs:List Row):((dk rs).map (·.1)).Nodup/\(∀e∈(dk rs).map (·.1),∃r∈rs,e=(r.pa,r.cu))/\(dk rs).length<=rs.length:=by
 induction rs using m_ with
 |h0=>exact⟨.nil,(fun _ m=>nomatch m),z5 _⟩
 |h1 l x ih=>
  obtain⟨i1,i2,i3⟩:=ih;rw[<- zB (f:=(·.1)) (as:=dk (l++[x])),xg];rw[<- zB (f:=(·.1))]at i3;by_cases h:(x.pa,x.cu)∈(dk l).map (·.1)
  ·rw[if_pos h]
   refine⟨i1,fun e m=>?_,by rw[yk];lia⟩;obtain⟨r,hr,g⟩:=i2 e m;exact⟨r,vJ _ hr,g⟩
  ·rw[if_neg h]
   refine⟨List.nodup_append.mpr ⟨i1,qI.mpr ⟨yj,List.nodup_nil⟩,fun a ha b hb=>by rw[zv.mp hb];rintro rfl;exact h ha⟩,fun e m=>?_,by rw[yk,yk,si,si];lia⟩;rcases yI.mp m with m|m
   ·obtain⟨r,hr,g⟩:=i2 e m
    exact⟨r,vJ _ hr,g⟩
   ·exact⟨x,by simp,zv.mp m⟩
theorem pG{α:Type}[DecidableEq α]:∀ {l m:List α},l.Nodup->(∀x∈l,x∈m)->l.length<=m.length
 | [],m,_,_=>xm _
 |x::r,m,h,s=>by
  obtain⟨h1,h2⟩:=qI.mp h;have hx:=s x (.head _);have:=pG (l:=r) (m:=m.erase x) h2 fun y hy=>(List.mem_erase_of_ne (by rintro rfl;exact h1 hy)).mpr (s y (.tail _ hy));rw[List.length_erase_of_mem hx]at this;have:0<m.length:=YZ hx;rw[vq];lia
theorem tO(cu:List (List Nat)):∀ps:List (List Nat),(ps.flatMap fun p=>cu.map fun c=>(p,c)).length=ps.length*cu.length
 | []=>by simp
 |p::r=>by rw[Yu,yk,zB,tO cu r,vq,Nat.succ_mul,Nat.add_comm]
theorem zn{ps cu:List (List Nat)}(h:∀r∈rs,r.pa∈ps/\r.cu∈cu):(dk rs).length<=ps.length*cu.length:=by
 obtain⟨h1,h2,_⟩:=iG rs;rw[<- tO,<- zB (f:=(·.1))];refine pG h1 fun e m=>?_;obtain⟨r,hr,rfl⟩:=h2 e m;exact List.mem_flatMap.mpr ⟨r.pa,(h r hr).1,yb.mpr ⟨r.cu,(h r hr).2,rfl⟩⟩
theorem Bm(h:k∈d.map (·.1)):∃n,oG d k=some n:=by
 obtain⟨e,he,rfl⟩:=yb.mp h;unfold oG;cases f:d.find? fun x=>decide (x.1=e.1) with
 |none=>exact absurd (List.find?_eq_none.mp f e he) (by simp)
 |some z=>exact⟨z.2,rfl⟩
def val(rs:List Row)(k:Pt):Int:=(oG (dk rs) k).getD 0
def res(rs:List Row)(out:List Pt):List Row:=(out.filter fun k=>decide (val rs k≠0)).map fun k=>⟨k.1,k.2,val rs k⟩
theorem kK(rs:List Row)(out:List Pt):(res rs out).length<=out.length:=by unfold res;rw[zB];exact qZ _ _
theorem Bl(h:k∈(dk rs).map (·.1)):oG (dk rs) k=some (val rs k):=by
 obtain⟨n,e⟩:=Bm h;unfold val;rw[e];rfl
theorem tw(rs:List Row)(out:List Pt)(k:Pt):res rs (out++[k])=res rs out++if val rs k≠0 then [⟨k.1,k.2,val rs k⟩] else []:=by
 unfold res;rw[Zm,vx]
 congr 1
 by_cases h:val rs k≠0
 ·rw[if_pos h];simp[h]
 ·rw[if_neg h];simp at h;simp[h]
def rsd(t:Int)(bs:List Bk):List Row:=bs.flatMap fun b=>if b.d<=t then b.rs else []
theorem nX(t:Int)(bs:List Bk)(b:Bk):rsd t (bs++[b])=rsd t bs++if b.d<=t then b.rs else []:=by
 unfold rsd;rw[List.flatMap_append];simp
theorem nU(t:Int):∀bs:List Bk,(bs.filter fun b=>decide (b.d<=t)).flatMap (·.rs)=rsd t bs
 | []=>rfl
 |b::r=>by
  have ih:=nU t r;unfold rsd at ih |-
  rw[Yu];by_cases h:b.d<=t
  ·rw[if_pos h,Zg (by simpa using h),Yu,ih]
  ·rw[if_neg h,Zo (by simpa using h),ih];rfl
theorem Dg(h:r∈rsd t bs):∃b∈bs,r∈b.rs:=by
 obtain⟨b,hb,hr⟩:=List.mem_flatMap.mp h;refine⟨b,hb,?_⟩;split at hr
 ·exact hr
 ·exact nomatch hr
end K19
namespace K3
def S(a:Int):Int:=
 if a<=0 then 0 else if a=1 then 31 else if a=2 then 59 else if a=3 then 90 else if a=4 then 120
 else if a=5 then 151 else if a=6 then 181 else if a=7 then 212 else if a=8 then 243 else if a=9 then 273
 else if a=10 then 304 else 334
def LD(y:Int):Int:=(y+3) / 4-(y+99) / 100+(y+399) / 400
def FD(m:Int):Int:=365*(m / 12)+(if m % 12 > 1 then LD (m / 12+1) else LD (m / 12))+S (m % 12)
def LG(y m:Int):Int:=
 if m=2 then (if (y % 4=0/\y % 100≠0)\/y % 400=0 then 29 else 28)
 else if m=4\/m=6\/m=9\/m=11 then 30 else 31
theorem wC(h:m=12*y+a)(h0:0<=a)(h1:a<12) :
 FD m=365*y+(if a > 1 then LD (y+1) else LD y)+S a:=by
 have e1:m / 12=y:=by lia
 have e2:m % 12=a:=by lia
 unfold FD;rw[e1,e2]
theorem q4(y:Int):(y+4) / 4=(y+3) / 4+if y % 4=0 then 1 else 0:=by split <;> lia
theorem Ii(y:Int):(y+100) / 100=(y+99) / 100+if y % 100=0 then 1 else 0:=by split <;> lia
theorem HV(y:Int):(y+400) / 400=(y+399) / 400+if y % 400=0 then 1 else 0:=by split <;> lia
theorem wv(y:Int):LD (y+1)=LD y+(if (y % 4=0/\y % 100≠0)\/y % 400=0 then 1 else 0):=by
 unfold LD;rw[Int.add_assoc,Int.add_assoc,Int.add_assoc];show(y+4) / 4-(y+100) / 100+(y+400) / 400=_;rw[q4,Ii,HV];generalize (y+3) / 4=A;generalize (y+99) / 100=B;generalize (y+399) / 400=C;by_cases a:y % 400=0
 ·have b:y % 100=0:=by lia
  have c:y % 4=0:=by clear b;lia
  rw[if_pos a,if_pos b,if_pos c,if_pos (.inr a)];clear a b c;lia
 ·by_cases b:y % 100=0
  ·have c:y % 4=0:=by clear a;lia
   rw[if_neg a,if_pos b,if_pos c,if_neg (fun z=>z.elim (fun w=>w.2 b) a)];clear a b c;lia
  ·by_cases c:y % 4=0
   ·rw[if_neg a,if_neg b,if_pos c,if_pos (.inl ⟨c,b⟩)]
    clear a b c;lia
   ·rw[if_neg a,if_neg b,if_neg c,if_neg (fun z=>z.elim (fun w=>c w.1) a)]
    clear a b c;lia
theorem Eu:∀a:Nat,a<11->a≠1->S (a+1)=S a+LG 1 (1+a):=by decide
theorem Aw(y z m:Int)(h:m≠2):LG y m=LG z m:=by unfold LG;rw[if_neg h,if_neg h]
theorem Bd(y:Int):LG (2000+y) 2=28+(LD (y+1)-LD y):=by
 have h:(((2000+y) % 4=0/\(2000+y) % 100≠0)\/(2000+y) % 400=0)↔((y % 4=0/\y % 100≠0)\/y % 400=0):=by
  have e (k:Int) (d:2000=k*(2000 / k)):(2000+y) % k=y % k:=by rw[Int.add_comm,d,Int.add_mul_emod_self_left]
  rw[e 4 rfl,e 100 rfl,e 400 rfl]
 rw[wv,LG,if_pos rfl];by_cases c:(y % 4=0/\y % 100≠0)\/y % 400=0
 ·rw[if_pos c,if_pos (h.mpr c)];lia
 ·rw[if_neg c,if_neg (fun q=>c (h.mp q))];lia
theorem wB(m:Int):FD (m+1)=FD m+LG (2000+m / 12) (1+m % 12):=by
 have b0:0<=m % 12:=Ze _ (by decide);have b1:m % 12<12:=Zl _ (by decide);have e:m=12*(m / 12)+m % 12:=(Int.mul_ediv_add_emod m 12).symm;have a1:=wC e b0 b1;generalize m / 12=y at *;generalize m % 12=z at *;obtain⟨a,rfl⟩:=Zn b0;by_cases c:a=11
 ·subst c
  rw[a1,wC (m:=m+1) (y:=y+1) (a:=0) (by lia) (by decide) (by decide)];show _+LD (y+1)+0=_+LD (y+1)+334+31;lia
 ·have a2:=wC (m:=m+1) (y:=y) (a:=a+1) (by lia) (by lia) (by lia)
  by_cases c1:a=1
  ·subst c1
   rw[a1,a2];show _+LD (y+1)+59=_+LD y+31+LG (2000+y) 2;rw[Bd];lia
  ·have s:=Eu a (by lia) c1
   rw[a1,a2,Aw _ 1 _ (by lia),s];by_cases c2:a=0
   ·subst c2;exact(Int.add_assoc _ _ _).symm
   ·rw[if_pos (by lia),if_pos (by lia)];lia
theorem G7(y m:Int):28<=LG y m/\LG y m<=31:=by
 unfold LG;repeat' split
 all_goals lia
theorem Eg(m:Int):FD m+28<=FD (m+1)/\FD (m+1)<=FD m+31:=by
 have h:=wB m;have g:=G7 (2000+m / 12) (1+m % 12);lia
theorem rT(m:Int)(k:Nat):FD m+28*k<=FD (m+k):=by
 induction k with
 |zero=>simp
 |succ k ih=>
  have h:=Eg (m+k);have e:m+((k+1:Nat):Int)=m+k+1:=by lia
  rw[e];lia
theorem jR(h:m<=n):FD m+28*(n-m)<=FD n:=by
 have g:=rT m (n-m).toNat;have e:m+((n-m).toNat:Int)=n:=by lia
 rw[e]at g;lia
theorem Gz:FD 0=0:=by decide
theorem Bb:FD 4800=146097:=by decide
open Classical in
noncomputable def MO(d:Int):Int:=if h:∃m,FD m<=d/\d<FD (m+1) then Classical.choose h else 0
theorem GM(h1:FD m<=d)(h2:d<FD (m+1)):m=MO d:=by
 have h:∃m,FD m<=d/\d<FD (m+1):=⟨m,h1,h2⟩;have g:=Classical.choose_spec h;unfold MO;rw[dif_pos h];generalize Classical.choose h=n at g;obtain⟨g1,g2⟩:=g;by_cases c:m+1<=n
 ·have:=jR c;lia
 ·by_cases c2:n+1<=m
  ·have:=jR c2;lia
  ·lia
theorem A9(h1:FD m<=d)(h2:d<FD (m+1)):MO d=m:=(GM h1 h2).symm
theorem wl(h0:0<=d)(h1:d<=146096):0<=MO d/\MO d<=4799/\FD (MO d)<=d/\d<FD (MO d+1):=by
 have ex:∀(n:Nat),FD n<=d\/∃k:Nat,k<n/\FD k<=d/\d<FD (k+1):=by
  intro n
  induction n with
  |zero=>left;show FD 0<=d;rw[Gz];exact h0
  |succ n ih=>
   rcases ih with h|⟨k,hk,h⟩
   ·by_cases c:FD ((n:Int)+1)<=d
    ·left;exact c
    ·right;exact⟨n,by lia,h,by lia⟩
   ·right;exact⟨k,by lia,h⟩
 rcases ex 4800 with h|⟨k,hk,h2,h3⟩
 ·have e:FD ((4800:Nat):Int)=146097:=Bb
  rw[e]at h;lia
 ·have e:=A9 h2 h3
  rw[e];exact⟨by lia,by lia,h2,h3⟩
def R10:List Int:=[31,30,31,30,31,31,30,31,30,31]
theorem B5:∀a:Nat,a<10->(R10.take a).sum+59=S ((a:Int)+2):=by decide
theorem FW:∀a:Nat,a<10->R10.getD a 0=LG 1 (1+((a:Int)+2)):=by decide
theorem GJ(m:Int):365*(m / 12)+LD (m / 12)+((31::(28+(LD (m / 12+1)-LD (m / 12)))::R10).take (m % 12).toNat).sum=FD m:=by
 have b0:0<=m % 12:=Ze _ (by decide);have b1:m % 12<12:=Zl _ (by decide);have a1:=wC (Int.mul_ediv_add_emod m 12).symm b0 b1;generalize m / 12=y at *;generalize m % 12=z at *;obtain⟨a,rfl⟩:=Zn b0;rw[a1]
 match a,b1 with
 |0,_=>rfl
 |1,_=>rfl
 |a+2,b1=>
  have s:=B5 a (by lia);rw[if_pos (by lia)];show _+_+(31+(_+(R10.take a).sum))=_+S ((a:Int)+2);rw[<- s];lia
theorem HQ(m:Int):(31::(28+(LD (m / 12+1)-LD (m / 12)))::R10).getD (m % 12).toNat 0=LG (2000+m / 12) (1+m % 12):=by
 have b0:0<=m % 12:=Ze _ (by decide);have b1:m % 12<12:=Zl _ (by decide);generalize m / 12=y at *;generalize m % 12=z at *;obtain⟨a,rfl⟩:=Zn b0
 match a,b1 with
 |0,_=>rfl
 |1,_=>exact(Bd y).symm
 |a+2,b1=>
  rw[Aw _ 1 _ (by lia)];exact FW a (by lia)
end K3
namespace K22
open PySem L2 K19
theorem nQ:∀ {bs:List Bk},(∀b∈bs,b.rs.length<=N)->(rsd t bs).length<=N*bs.length
 | [],_=>z5 _
 |b::r,h=>by
  have ih:=nQ (t:=t) (bs:=r) fun x m=>h x (.tail _ m);have hb:=h b (.head _);unfold rsd at ih |-
  rw[Yu,yk,vq,Nat.mul_add,Nat.mul_one];split
  ·lia
  ·rw[Z9];lia
def sm(rs:List Row)(k:Pt):Int:=match rs with
 | []=>0
 |r::q=>(if (r.pa,r.cu)=k then r.am else 0)+sm q k
theorem m9(k:Pt)(y:List Row):∀x:List Row,sm (x++y) k=sm x k+sm y k
 | []=>by rw[List.nil_append];simp[sm]
 |r::q=>by rw[ZU,sm,sm,m9 k y q];lia
theorem zz(k:Pt)(v:Int)(k':Pt)(d:List (Pt × Int)):oG (yi d k v) k'=if k'=k then some v else oG d k':=by
 have inj:∀ {x y:Option Int},x.map V.int=y.map V.int->x=y:=fun {x y} h=>by
  cases x <;> cases y <;> first|rfl|cases h
  rfl
 refine inj ?_;rw[<- fN,<- nv,zg];by_cases c:k'=k
 ·rw[if_pos c,if_pos (by rw[c])];rfl
 ·rw[if_neg c,if_neg (fun z=>c (nH z)),fN]
theorem qo(rs:List Row)(k:Pt):val rs k=sm rs k:=by
 unfold val
 induction rs using m_ with
 |h0=>rfl
 |h1 l x ih=>
  rw[mK,m9];unfold stp;rw[zz];by_cases c:k=(x.pa,x.cu)
  ·rw[if_pos c,<- c,<- ih];simp[sm,c]
  ·rw[if_neg c,ih,show sm [x] k=0 by simp only[sm];rw[if_neg fun z=>c z.symm];rfl];lia
theorem mF(h:∀r∈rs,(r.pa,r.cu)≠k):sm rs k=0:=by
 induction rs with
 |nil=>rfl
 |cons r q ih=>rw[sm,if_neg (h r (.head _)),ih fun x m=>h x (.tail _ m)];rfl
theorem AS:∀r∈rs,(r.pa,r.cu)∈(dk rs).map (·.1):=by
 induction rs using m_ with
 |h0=>exact fun _ m=>nomatch m
 |h1 l x ih=>
  intro r m;rw[xg];rcases yI.mp m with m|m
  ·split
   ·exact ih r m
   ·exact vJ _ (ih r m)
  ·rw[zv.mp m]
   split
   ·assumption
   ·exact xU _ (zv.mpr rfl)
theorem Fd{out:List Pt}(po:out.Perm ((dk rs).map (·.1)))(h:k∉out):sm rs k=0:=
 mF fun r m e=>h (po.mem_iff.mpr (e ▸ AS r m))
theorem Cp(rs:List Row):res rs []=[]:=rfl
theorem Bh(rs:List Row)(k:Pt)(out:List Pt):res rs (k::out)=(if val rs k≠0 then [⟨k.1,k.2,val rs k⟩] else [])++res rs out:=by
 unfold res;by_cases h:val rs k≠0
 ·rw[if_pos h,Zg (by exact decide_eq_true h)];rfl
 ·rw[if_neg h,Zo (by simpa using h)];rfl
theorem hZ(h:r∈res rs out):(r.pa,r.cu)∈out/\r.am=val rs (r.pa,r.cu)/\r.am≠0:=by
 unfold res at h;obtain⟨k,mk,rfl⟩:=yb.mp h;obtain⟨m1,m2⟩:=qh.mp mk;exact⟨m1,rfl,of_decide_eq_true m2⟩
theorem wc:∀ {out:List Pt},out.Nodup->sm (res rs out) k=if k∈out then val rs k else 0
 | [],_=>by rw[Cp];simp[sm]
 |x::out,nd=>by
  obtain⟨n1,n2⟩:=qI.mp nd;rw[Bh,m9,wc n2];by_cases c:k=x
  ·subst c
   rw[if_neg n1,if_pos (show k∈k::out from Z6 ..)];by_cases h:val rs k≠0
   ·rw[if_pos h];simp[sm]
   ·rw[if_neg h];simp[sm];lia
  ·have e:sm (if val rs x≠0 then [(⟨x.1,x.2,val rs x⟩:Row)] else []) k=0:=by
    split
    ·exact mF fun r m=>by rw[zv.mp m];exact fun z=>c z.symm
    ·rfl
   rw[e];by_cases h:k∈out
   ·rw[if_pos h,if_pos (.tail _ h)];lia
   ·rw[if_neg h,if_neg (fun z=>(z6.mp z).elim c h)];lia
theorem Ga{rs:List Row}{out:List Pt}(po:out.Perm ((dk rs).map (·.1)))(k:Pt):sm (res rs out) k=sm rs k:=by
 rw[wc (po.nodup_iff.mpr (iG rs).1)];split
 ·exact qo _ _
 ·rename_i h;exact(Fd po h).symm
def trn(rs:List Row):List Row:=rs.map fun r=>⟨r.pa,r.cu,-r.am⟩
def mvd(p:List Nat)(rs:List Row):List Row:=rs.map fun r=>⟨p,r.cu,r.am⟩
theorem AJ(k:Pt):∀rs:List Row,sm (trn rs) k = - sm rs k
 | []=>rfl
 |r::q=>by
  have ih:=AJ k q;unfold trn at ih |-
  rw[yF,sm,sm,ih];dsimp only;by_cases c:(r.pa,r.cu)=k
  ·rw[if_pos c,if_pos c];lia
  ·rw[if_neg c,if_neg c];lia
theorem E0:∀r∈mvd p rs,r.pa=p:=fun r m=>by
 obtain⟨x,_,rfl⟩:=yb.mp m;rfl
theorem Ez(po:out.Perm ((dk (mvd p rs)).map (·.1))):∀r∈res (mvd p rs) out,r.pa=p:=fun r m=>by
 obtain⟨x,mx,e⟩:=(iG (mvd p rs)).2.1 _ (po.mem_iff.mp (hZ m).1);exact(Prod.mk.inj e).1.trans (E0 x mx)
def ir(g:List Nat->Bool)(rs:List Row)(out:List Pt):List Row:=(res rs out).filter fun r=>g r.pa
def due(g:List Nat->Bool)(p:List Nat)(rs:List Row)(out out2:List Pt):List Row:=trn (ir g rs out)++res (mvd p (ir g rs out)) out2
theorem pp{g:List Nat->Bool}{k:Pt}(hk:g k.1=true):∀rs:List Row,sm (rs.filter fun r=>g r.pa) k=sm rs k
 | []=>rfl
 |r::q=>by
  have ih:=pp hk q;by_cases c:g r.pa=true
  ·rw[Zg (by exact c),sm,sm,ih]
  ·rw[Zo (by exact c),sm,ih,if_neg fun z=>c (by rw[show r.pa=k.1 from congrArg (·.1) z];exact hk)];lia
theorem uy{g:List Nat->Bool}{p:List Nat}(hp:g p=false){rs:List Row}{out out2 out3:List Pt}(p1:out.Perm ((dk rs).map (·.1)))(p2:out2.Perm ((dk (mvd p (ir g rs out))).map (·.1))):ir g (rs++due g p rs out out2) out3=[]:=by
 refine ZB.mpr fun r m gr=>(hZ m).2.2 ?_;rw[(hZ m).2.1,qo,m9];have e0:sm (res (mvd p (ir g rs out)) out2) (r.pa,r.cu)=0:=mF fun x mx e=>by
  have e1:x.pa=r.pa:=(Prod.mk.inj e).1;rw[Ez p2 x mx]at e1;rw[e1,gr]at hp;cases hp
 unfold due;rw[m9,AJ,e0];unfold ir;rw[pp (k:=(r.pa,r.cu)) gr,Ga p1];lia
theorem ceA{K:W.Frag}{β γ:Type}{n:Nat}{g:TG}{ks:List Nat}{tt:TT}{te:TE}{σ:St}{H:Hp}{Q:VK}{S:Hp->V->γ->Prop}(hS:∀(G G':Hp) (v:V) (c:γ),(∀t l,G t=some (.tup l)->G' t=some (.tup l))->S G v c->S G' v c)
 (a:Addr) (vs:List V) (R:List β) (Rel:V->β->Prop) (p:β->Bool) (f:β->γ) (ha:H a=some (.lst vs)) (hN:NoT H) (hR:A2 Rel vs R) (hz:vs.length<sizeLine)
 (hs:∀v b,b∈R->Rel v b->∀G (zs:St) (N1:VK) (N0:Hp->Prop),Same H G->NoT G->zs.length=n->(p b=true->∀u G',Same G G'->NoT G'->S G' u (f b)->N1 u G')->(p b=false->∀G',Same G G'->NoT G'->N0 G') ->
  g v (zs++ks.map fun k=>(σ[k]?).join) G fun σ4 H4=>(∃zs4:St,zs4.length=n/\σ4=zs4++ks.map fun k=>(σ[k]?).join)/\tt σ4 H4 fun b H5=>if b=true then te σ4 H5 N1 else N0 H5)
 (q:∀D ws G,H D=none->Same H G->NoT G->G D=some (.lst ws)->A2 (S G) ws ((R.filter p).map f)->Q (.ref D) G):CEl (Itl K a) n g ks tt te σ H Q:=by
 refine wN a vs (fun D i ys G=>H D=none/\Same H G/\NoT G/\G D=some (.lst ys)/\ys.length<=i/\A2 (S G) ys (((R.take i).filter p).map f)) hz ?_ ?_ ?_ ?_
 ·exact fun D hD=>⟨hD,aj _ hD,az hN rfl,ad,z5 _,.nil⟩
 ·rintro D i ys G ⟨hD,sm,_,gd,ly,_⟩
  exact⟨gd,SqL.of (sm _ _ ha),ly⟩
 ·rintro D i y ys G zs N1 N0 hy ⟨hD,sm,nG,gd,ly,A⟩ hzs n1 n0
  obtain⟨b,hb,rb⟩:=hR.at_ hy;have mb:=yO hb;have et:R.take (i+1)=R.take i++[b]:=by rw[Z4,hb];rfl
  rw[et,Zm,vx]at n1 n0;refine hs y b mb rb G zs N1 N0 sm nG hzs (fun pb u G' s' nG' hu=>?_) fun pb G' s' nG'=>n0 G' ⟨hD,sm.trans s',nG',s' _ _ gd,Nat.le_succ_of_le ly,?_⟩
  ·have gd':=s' _ _ gd
   have kt:∀t l,G' t=some (.tup l)->upd G' D (.lst (ys++[u])) t=some (.tup l):=fun t l e=>by
    rw[ah fun z=>by rw[z,gd']at e;cases e];exact e
   refine n1 _ _ gd' ⟨hD,fun c o e=>?_,az nG' rfl,ad,by rw[yk];exact YH ly,?_⟩
   ·rw[ah (aC e hD)];exact s' _ _ (sm _ _ e)
   ·rw[Zg pb,Yz]
    exact(A.imp fun _ _ _ _ h=>hS _ _ _ _ kt (hS _ _ _ _ (fun t l e=>s' _ _ e) h)).snoc (hS _ _ _ _ kt hu)
  ·rw[Zo (by rw[pb];decide),Yz,Yd,u6]
   exact A.imp fun _ _ _ _ h=>hS _ _ _ _ (fun t l e=>s' _ _ e) h
 ·rintro D ys G ⟨hD,sm,nG,gd,_,A⟩
  rw[hR.len,sf]at A;exact q D ys G hD sm nG gd A
end K22
namespace L2
open PySem PyProof.Rows
theorem tH(h:H a=some o):upd H a o=H:=by
 funext b;by_cases e:b=a
 ·subst e;rw[ad,h]
 ·rw[ah e]
def isD:HO->Bool
 | .dK _=>true
 | .dT _=>true
 |_=>false
def gG:HO->Nat
 | .dK kvs=>kvs.length
 | .dT kvs=>kvs.length
 |_=>0
def pe(H:Hp)(u:HO)(i:Nat)(x v:V):Prop:=match u with
 | .dK kvs=>∃k,kvs[i]? = some (k,v)/\x=kV k
 | .dT kvs=>∃k q,kvs[i]? = some (k,v)/\x = .ref q/\H q=some (.tup (k.map kV))
 |_=>False
theorem CJ(h:(bC P w).is k u=true):RelV (kV k) u:=by
 cases k with
 |inl i=>obtain⟨t,z⟩:=Value.isInt_shape h;exact⟨t,z⟩
 |inr x=>obtain⟨t,z⟩:=Value.isStrOf_shape h;exact⟨t,z⟩
theorem D_{α β:Type}{R:α->β->Prop}{xs:List α}{ys:List β}(h:Paired R xs ys):∀ {i:Nat} {y:β},ys[i]? = some y->∃x,xs[i]? = some x/\R x y:=by
 induction h with
 |nil=>intro i y e;simp at e
 |cons r _ ih=>
  intro i y e;cases i with
  |zero=>cases e;exact⟨_,rfl,r⟩
  |succ i=>exact ih (i:=i) (by simpa using e)
section
variable{X:Cx}{pins:List (Addr × Obj)}{σ:St}{H:Hp}{s:Shared}{a:Addr}
theorem xb(I:Inv X pins σ H s){u:HO}(hu:isD u=true)(x:ObjOk X.prog X.w H s.heap a u):∃(o:Obj) (es:Array Y6) (ep:Nat),s.heap.get? a=some o/\o.ExactDict/\o.data = .dict es ep/\(a==ZW)=false/\es.size=gG u /\
 ∀i e,es[i]? = some e->∃x v,pe H u i x v/\RelV x e.key/\RelV v e.val:=by
 cases u with
 |dK kvs=>
  obtain⟨z,lo,vs,rel,o,es,ep,ho,ex,hd,hk,hp,hn⟩:=x;have hl:es.size=vs.length:=by rw[<- hp.length];simp
  refine⟨o,es,ep,ho,ex,hd,lo,by rw[hl];exact rel.length.symm,fun i e he=>?_⟩;have hi:i<vs.length:=by rw[<- hl];exact(Array.getElem?_eq_some_iff.mp he).1
  obtain⟨p1,p2⟩:=hp.get? (e:=e) (k:=vs[i].1) (v:=vs[i].2) (by rw[Array.getElem?_toList];exact he) (by simp[hi]);obtain⟨⟨k,v⟩,hx,e1,e2⟩:=D_ rel (y:=vs[i]) (List.getElem?_eq_getElem hi);have e1':k=vs[i].1:=e1;refine⟨kV k,v,⟨k,hx,rfl⟩,by rw[e1'];exact CJ p1,by rw[p2];exact e2⟩
 |dT kvs=>
  obtain⟨z,lo,xs,rel,o,es,ep,ho,ex,hd,he,hn⟩:=x;have hl:es.size=xs.length:=size_of_entries he;refine⟨o,es,ep,ho,ex,hd,lo,by rw[hl];exact(Paired.length rel).symm,fun i e h=>?_⟩;rw[entry_at he i]at h;obtain⟨q,hq,rfl⟩:=u8.mp h;obtain⟨⟨k,v⟩,hx,e1,e2,e3⟩:=D_ rel hq;exact⟨.ref q.2.1,v,⟨k,q.2.1,hx,rfl,e2⟩,rfl,e3⟩
 |_=>cases hu
theorem Inv.freeze(I:Inv X pins σ H s)(hu:isD u=true)(e:Rd H a u):∃(o:Obj) (es:Array Y6) (ep:Nat),s.heap.get? a=some o/\o.ExactDict/\o.data = .dict es ep/\(a==ZW)=false/\es.size=gG u/\(H a=some u\/H a=some (.frz o u))/\Inv X pins σ (upd H a (.frz o u)) s:=by
 have x:=zq I.hok e;obtain⟨o,es,ep,ho,ex,hd,lo,hz,_⟩:=xb I hu x;rcases e with e|⟨o',e⟩
 ·refine⟨o,es,ep,ho,ex,hd,lo,hz,.inl e,?_⟩
  have no:∀b w,H b=some w->isD w=false->b≠a:=fun b w q n z=>by rw[z,e]at q;cases q;rw[hu]at n;cases n
  exact I.write (x:=a) (e:=a) (t':=s.toks) (h':=s.heap) (by rw[e];cases u <;> first|exact ZG|cases hu) (.inl rfl) (fun _ _ _ q=>q) ⟨o,ho⟩ ⟨ho,x.stay (fun _ _ _ q=>q) (fun c z=>by rw[ah (no c _ z rfl)];exact z) fun c xs z=>by rw[ah (no c _ z rfl)];exact z⟩
 ·have h1:=(show ObjOk X.prog X.w H s.heap a (.frz o' u) from I.hok a _ e).1
  rw[ho]at h1;cases h1;refine⟨o,es,ep,ho,ex,hd,lo,hz,.inr e,?_⟩;rw[tH e];exact I
theorem Inv.thaw(I:Inv X pins σ H s)(e:H a=some (.frz o u))(nf:∀o' u',X.H₀ a≠some (.frz o' u')):Inv X pins σ (upd H a u) s:=by
 have na:∀b,H b=none->b≠a:=fun b n z=>by rw[z,e]at n;cases n
 have no:∀b w,H b=some w->(∀o x,w ≠ .frz o x)->b≠a:=fun b w q n z=>by rw[z,e]at q;cases q;exact n _ _ rfl
 have own:∀ {d:Addr} c,H c=some (.own d)->upd H a u c=some (.own d):=fun c z=>by rw[ah (no c _ z (by intro _ _ y;cases y))];exact z
 have tup:∀c xs,H c=some (.tup xs)->upd H a u c=some (.tup xs):=fun c xs z=>by rw[ah (no c _ z (by intro _ _ y;cases y))];exact z
 refine⟨I.ok,I.os,I.bare,⟨I.base.keep,I.base.slot,fun b ob q n hx=>?_,I.base.there,fun b xs q=>tup b xs (I.base.tups b xs q),fun b ob x q=>?_,fun b ps q=>?_⟩,I.loc,I.cell,?_,fun x c ec=>?_,fun p hp=>?_,fun b ob q=>?_,I.len⟩
 ·have h:=I.base.free b ob q n hx
  rw[ah (na b h)];exact h
 ·have h:=I.base.frzs b ob x q
  by_cases eb:b=a
  ·subst eb;exact absurd q (nf _ _)
  ·rw[ah eb];exact h
 ·obtain⟨m,h⟩:=I.base.tbls b ps q
  exact⟨m,by rw[ah (no b _ h (by intro _ _ z;cases z))];exact h⟩
 ·rw[ah (na _ I.free)];exact I.free
 ·have h:=I.freeC x c ec
  rw[ah (na _ h)];exact h
 ·obtain⟨p1,p2,p3⟩:=I.pin p hp
  exact⟨p1,by rw[ah (na _ p2)];exact p2,p3⟩
 ·by_cases eb:b=a
  ·subst eb
   rw[ad]at q;cases q;exact(show ObjOk X.prog X.w H s.heap b (.frz o u) from I.hok _ _ e).2.stay (fun _ _ _ z=>z) own tup
  ·rw[ah eb]at q
   exact(I.hok b ob q).stay (fun _ _ _ z=>z) own tup
def Th(H H1:Hp)(P:Hp->Prop):Prop:=∃a o u,H1 a=some (.frz o u)/\((H a=some u/\isD u=true/\P (upd H1 a u))\/(H a=some (.frz o u)/\P H1))
theorem Inv.th(I:Inv X pins σ H s)(I1:Inv X pins σ1 H1 s1)(h:Th H H1 P):∃H2,Inv X pins σ1 H2 s1/\P H2:=by
 obtain⟨a,o,u,e1,⟨e2,hu,q⟩|⟨e2,q⟩⟩:=h
 ·exact⟨_,I1.thaw e1 (fun o' u' z=>by rw[I.base.frzs _ _ _ z]at e2;cases e2;cases hu),q⟩
 ·exact⟨_,I1,q⟩
def we(te:TE):TE:=fun σ H Q=>te σ H fun v H1=>Th H H1 (Q v)
theorem Da(he:PE X e te):PE X e (we te):=by
 intro pins s σ H Q I h;refine thn (he pins s σ H _ I h) fun u s1 ⟨v,H1,I1,r,q⟩=>?_;obtain⟨H2,I2,q2⟩:=I.th I1 q;exact⟨v,H2,I2,r,q2⟩
def Bv(ts:TS):TS:=fun D σ H=>ts { nx:=fun σ' H1=>Th H H1 (D.nx σ'),rt:=fun v H1=>Th H H1 (D.rt v),bk:=fun σ' H1=>Th H H1 (D.bk σ'),ct:=fun σ' H1=>Th H H1 (D.ct σ') } σ H
theorem jJ{st:Stmt}{ts:TS}(h:PS X st ts):PS X st (Bv ts):=by
 intro pins s σ H D I q;refine thn (h pins s σ H _ I q) fun f s1 hf=>?_;cases f with
 |next=>
  obtain⟨σ',H',I',z⟩:=hf;obtain⟨H2,I2,q2⟩:=I.th I' z;exact⟨σ',H2,I2,q2⟩
 |brk=>
  obtain⟨σ',H',I',z⟩:=hf;obtain⟨H2,I2,q2⟩:=I.th I' z;exact⟨σ',H2,I2,q2⟩
 |cont=>
  obtain⟨σ',H',I',z⟩:=hf;obtain⟨H2,I2,q2⟩:=I.th I' z;exact⟨σ',H2,I2,q2⟩
 |ret u=>
  obtain⟨v,σ',H',I',r,z⟩:=hf;obtain⟨H2,I2,q2⟩:=I.th I' z;exact⟨v,σ',H2,I2,r,q2⟩
def Itk(a:Addr)(o:Obj)(u:HO):It:=
 ⟨fun i H=>i<gG u/\H a=some (.frz o u),fun i H x H'=>H'=H/\∃v,pe H u i x v,fun i H=>gG u<=i/\H a=some (.frz o u)⟩
theorem zJ(I:Inv X pins σ H s)(hu:isD u=true)(hd:o.data = .dict es ep)(e:H a=some (.frz o u)):s.heap.get? a=some o/\es.size=gG u/\∀i e,es[i]? = some e->∃x v,pe H u i x v/\RelV x e.key/\RelV v e.val:=by
 obtain⟨ho,x⟩:=(show ObjOk X.prog X.w H s.heap a (.frz o u) from I.hok a _ e);obtain⟨o',es',ep',ho',ex,hd',lo,hz,h⟩:=xb I hu x;rw[ho]at ho';cases ho';rw[hd]at hd';injection hd' with h2 h3
 subst h2;exact⟨ho,hz,h⟩
theorem yP{P:Program}{w:World}{K:W.Frag}{tg:Expr}(a it:Addr)(o:Obj)(es:Array Y6)(ep:Nat)(u:HO)(hu:isD u=true)(hd:o.data = .dict es ep):uH P w K tg (Itk a o u) [it] it (fun i h=>h.IsKeyIter it a i es.size ep) where
 mem:=by simp
 obj:=fun i h st b hb=>by
  have e:b=it:=by simpa using hb
  subst e;obtain⟨o,e,c,d⟩:=st;exact⟨o,e,fun v z=>by rw[d]at z;cases z⟩
 keep:=fun i h h' st k=>st.at fun o e=>k it (by simp) o e
 item:=by
  intro X hP hw hK hc i pins s σ H E I hf st hg;subst hP hw hK;obtain⟨hi,hq⟩:=hg;obtain⟨ho,hz,hen⟩:=zJ I hu hd hq;obtain⟨f0,f1,f2,f3,f4,f5⟩:=hf it (by simp);have hx:es[i]? = some es[i]:=by simp[show i<es.size by lia]
  obtain⟨x,v,en,rx,rv⟩:=hen i _ hx;refine wG st ho hd hx fun h' st' sb=>?_;have I1:Inv X pins σ H { s with heap:=h' }:=I.turned (t':=s.toks) (fun b o hb e=>(sb.2 b hb).trans e) f0 f1 f3 f4 f5;obtain⟨oi,e,c,d⟩:=id st';exact⟨_,rfl,lM (s:={ s with heap:=h' }) e c d (by decide) ⟨x,H,I1,rx,⟨rfl,v,en⟩,st',fun b hb=>(hf b hb).1⟩⟩
 done:=by
  intro X hP hw hK hc i pins s σ H E I hf st hg;subst hP hw hK;obtain⟨hi,hq⟩:=hg;obtain⟨ho,hz,hen⟩:=zJ I hu hd hq;obtain⟨f0,f1,f2,f3,f4,f5⟩:=hf it (by simp);exact zA (I.ok.hd hc) st ho hd (by lia) fun h' eb=>⟨rfl,I.turned (t':=s.toks) (fun b o hb e=>eb b o hb e) f0 f1 f3 f4 f5⟩
 self:=fun _ _ _ _ _ st h=>wpAny_pyIter_keyiter st h
def pV(td:TE):TI:=fun σ H R=>td σ H fun x H1=>∃b u,x = .ref b/\isD u=true/\Rd H1 b u/\∀o,(H1 b=some u\/H1 b=some (.frz o u))->R (Itk b o u) (upd H1 b (.frz o u))
theorem iV{tg l:Expr}{td:TE}(hl:PE X l td):PI X tg l (pV td):=by
 intro pins s σ H R I h;refine thn (hl pins s σ H _ I h) fun v s1 ⟨x,H1,I1,rx,b,u,ex,hu,hr,q⟩=>?_;subst ex;cases (show v=yX b from rx);obtain⟨o,es,ep,ho,ex,hd,lo,hz,hor,I2⟩:=I1.freeze hu hr;refine wP lo ho ex hd ?_;refine⟨s1.heap.objs.size,[s1.heap.objs.size],_,Itk b o u,_,rfl,I2.kept (t':=s1.toks) (fun c ob e=>Heap.get?_push_of_some _ e),yP b _ o es ep u hu hd,⟨_,Heap.get?_push_size _ rfl,rfl,rfl⟩,fun c hc=>?_,q o hor⟩;rw[zv.mp hc];exact I2.fpOk (z5 _) (I2.hok.fresh (z5 _))
end
theorem GX(h:td σ H fun x H1=>∃b u,x = .ref b/\isD u=true/\Rd H1 b u/\∀o,(H1 b=some u\/H1 b=some (.frz o u))->CEl (Itk b o u) n g ks tt te σ (upd H1 b (.frz o u)) fun v H2=>Th H H2 (Q v)):we (c6 (pV td) n g ks tt te) σ H Q:=h
theorem GQ(b:Addr)(o:Obj)(u:HO)(P:Addr->Nat->List V->Hp->Prop)(hz:gG u<sizeLine)
 (h0:∀D,H1 D=none->P D 0 [] (upd H1 D (.lst []))) (hD:∀D i ys H',P D i ys H'->H' D=some (.lst ys)/\H' b=some (.frz o u)/\ys.length<=i)
 (hs:∀D i y v ys H' (zs:St) (N1:VK) (N0:Hp->Prop),i<gG u->pe H' u i y v->P D i ys H'->zs.length=n->(∀v H6,H6 D=some (.lst ys)->P D (i+1) (ys++[v]) (upd H6 D (.lst (ys++[v])))->N1 v H6)->(∀H6,P D (i+1) ys H6->N0 H6) ->
  g y (zs++ks.map fun k=>(σ[k]?).join) H' fun σ4 H4=>(∃zs4:St,zs4.length=n/\σ4=zs4++ks.map fun k=>(σ[k]?).join)/\tt σ4 H4 fun b H5=>if b=true then te σ4 H5 N1 else N0 H5)
 (hd:∀D ys H',P D (gG u) ys H'->Q (.ref D) H'):CEl (Itk b o u) n g ks tt te σ H1 Q:=by
 intro D hDn;refine⟨fun i m ys H'=>m=gG u-i/\i<=gG u/\P D i ys H',⟨_,rfl,xm _,h0 D hDn⟩,?_⟩;rintro i m ys H' ⟨rfl,hi,p⟩;obtain⟨d1,d2,d3⟩:=hD D i ys H' p;refine⟨d1,?_⟩;rcases Nat.lt_or_ge i (gG u) with lt|ge
 ·refine .inr ⟨⟨lt,d2⟩,?_⟩
  rintro x H3 ⟨rfl,v,hx⟩ zs hzs;exact hs D i x v ys _ zs _ _ lt hx p hzs (fun v H6 h6 p6=>⟨h6,by lia,_,by lia,rfl,lt,p6⟩) fun H6 p6=>⟨_,by lia,rfl,lt,p6⟩
 ·obtain rfl:i=gG u:=Nat.le_antisymm hi ge
  exact .inl ⟨⟨z5 _,d2⟩,hd D ys H' p⟩
theorem cmK(b:Addr)(kvs:List (Key × V))(p:V->Bool)(f:V->V)(hl:∀R:VK,R (.ref b) H->td σ H R)(hr:Rd H b (.dK kvs))(hz:kvs.length<sizeLine)
 (hp:∀x∈kvs.map (fun e=>kV e.1),∀D ys o (R:Bool->Hp->Prop),H D=none->D≠b->R (p x) (upd (upd H b (.frz o (.dK kvs))) D (.lst ys))->tt (some x::ks.map fun k=>(σ[k]?).join) (upd (upd H b (.frz o (.dK kvs))) D (.lst ys)) R)
 (hf:∀x∈kvs.map (fun e=>kV e.1),p x=true->∀D ys o (R:VK),H D=none->D≠b->R (f x) (upd (upd H b (.frz o (.dK kvs))) D (.lst ys))->te (some x::ks.map fun k=>(σ[k]?).join) (upd (upd H b (.frz o (.dK kvs))) D (.lst ys)) R)
 (q:∀D,H D=none->Q (.ref D) (upd H D (.lst (((kvs.map fun e=>kV e.1).filter p).map f)))):we (c6 (pV td) 1 (iq 0) ks tt te) σ H Q:=by
 have hb:∃u,H b=some u:=by rcases hr with e|⟨o,e⟩ <;> exact⟨_,e⟩
 obtain⟨u,hb⟩:=hb;refine GX (hl _ ⟨b,.dK kvs,rfl,rfl,hr,fun o hor=>GQ b o (.dK kvs) (fun D i ys G=>G=upd (upd H b (.frz o (.dK kvs))) D (.lst ys)/\H D=none/\ys=(((kvs.map fun e=>kV e.1).take i).filter p).map f) hz (fun D hD=>⟨rfl,?_,by simp⟩) ?_ ?_ ?_⟩)
 ·have nb:D≠b:=fun z=>by rw[z,ad]at hD;cases hD
  rwa [ah nb]at hD
 ·rintro D i ys G ⟨rfl,hD,rfl⟩
  have nb:b≠D:=aC hb hD;refine⟨ad,(ah nb).trans ad,?_⟩;rw[zB];exact xx (qZ _ _) (by rw[vm];lia)
 ·rintro D i y vv ys G zs N1 N0 hi ⟨kk,hk,rfl⟩ ⟨rfl,hD,rfl⟩ hzs n1 n0
  have hy:(kvs.map fun e=>kV e.1)[i]? = some (kV kk):=by rw[List.getElem?_map,hk];rfl
  generalize kV kk=y at hy;obtain⟨z,rfl⟩:=ex1 hzs;have nb:D≠b:=Ne.symm (aC hb hD);have my:=yO hy;have et:(kvs.map fun e=>kV e.1).take (i+1)=(kvs.map fun e=>kV e.1).take i++[y]:=by rw[Z4,hy];rfl
  rw[et,Zm]at n1 n0;refine⟨⟨[some y],rfl,rfl⟩,hp y my D _ o _ hD nb ?_⟩;cases py:p y with
  |true=>
   rw[if_pos rfl];refine hf y my py D _ o _ hD nb (n1 _ _ ad ⟨j8,hD,?_⟩);rw[Zg py,vx];rfl
  |false=>
   rw[if_neg (by decide)];refine n0 _ ⟨rfl,hD,?_⟩;rw[Zo (by rw[py];decide),Yz,u6]
 ·rintro D ys G ⟨rfl,hD,rfl⟩
  rw[show gG (.dK kvs)=kvs.length from rfl,Zk (by rw[zB];exact z5 _)];have nb:b≠D:=aC hb hD;have q1:=q D hD;refine⟨b,o,.dK kvs,(ah nb).trans ad,?_⟩;have e1:∀w z,upd (upd (upd H b w) D z) b u=upd H D z:=fun w z=>by
   funext c;by_cases h1:c=b
   ·subst h1;rw[ad,ah nb,hb]
   ·rw[ah h1]
    by_cases h2:c=D
    ·subst h2;rw[ad,ad]
    ·rw[ah h2,ah h1,ah h2]
  rcases hor with e|e
  ·refine .inl ⟨e,rfl,?_⟩
   rw[hb]at e;cases e;rw[e1];exact q1
  ·refine .inr ⟨e,?_⟩
   rw[tH e];exact q1
section
variable{X:Cx}{pos:Pos}
def zy(K:W.Frag)(n:Nat)(t:TGs):TG:=fun v σ H Q=>∃a xs,v = .ref a/\SqL K H a xs/\xs.length=n/\t xs σ H Q
theorem wX(K:W.Frag)(hc:X.calm=true)(h:PGs X es t)(hK:X.K=K:=by rfl)
 (hn:(Yp es X.env).length=n:=by rfl) (hst:(Yp es X.env).findIdx? (·.1)=none:=by rfl):PG X (.Tuple es k pos) (zy K n t):=by
 subst hK;intro pins s σ H v u Q I r hw;obtain⟨a,xs,e1,hq,hl,hw⟩:=hw;subst e1;cases r;obtain⟨its,rv,pl,hz⟩:=I.list hq;have hl2:=rv.length;rw[PyProof.Rows.assign_Tuple];refine zw (YX ?_);have hs:(Yp es X.env).length=its.toArray.size:=by rw[hn,yp];lia
 unfold unpack;rw[hs,hst];refine zw (ZT (PySem.W.kun_itemsOf (I.ok.hd hc) pl.isList fun h' hx=>?_));exact h pins _ σ H xs _ Q (I.kept (t':=s.toks) fun b o e=>hx b o (ui (y3 e)) e) (by simpa using rv) hw
end
section
variable{X:Cx}
end
end L2
namespace L2
open PySem
theorem zd(h:td σ H fun x H1=>∃b u,x = .ref b/\isD u=true/\Rd H1 b u/\∀o,(H1 b=some u\/H1 b=some (.frz o u))->FE (Itk b o u) g tb { nx:=fun σ' H2=>Th H H2 (D.nx σ'),rt:=fun v H2=>Th H H2 (D.rt v),bk:=fun σ' H2=>Th H H2 (D.bk σ'),ct:=fun σ' H2=>Th H H2 (D.ct σ') } σ (upd H1 b (.frz o u))):Bv (o4 (pV td) g tb) D σ H:=h
theorem Br(Pv:Nat->St->Hp->Prop)(h0:Pv 0 σ H)(hl:∀i σ H,Pv i σ H->H b=some (.frz o u))
 (hs:∀i x v σ H,i<gG u->pe H u i x v->Pv i σ H->g x σ H fun σ2 H2=>tb { D with nx:=Pv (i+1),ct:=Pv (i+1),bk:=D.nx } σ2 H2) (hd:∀σ H,Pv (gG u) σ H->D.nx σ H):FE (Itk b o u) g tb D σ H:=by
 refine⟨fun i m σ H=>m=gG u-i/\i<=gG u/\Pv i σ H,⟨_,rfl,xm _,h0⟩,?_⟩;rintro i m σ H ⟨rfl,hi,p⟩;have q:=hl i σ H p;rcases Nat.lt_or_ge i (gG u) with lt|ge
 ·refine .inr ⟨⟨lt,q⟩,Pv (i+1),fun σ' H' p'=>⟨_,by lia,rfl,lt,p'⟩,?_⟩
  rintro y H' ⟨rfl,v,en⟩;exact hs i y v σ _ lt en p
 ·obtain rfl:i=gG u:=Nat.le_antisymm hi ge
  exact .inl ⟨⟨z5 _,q⟩,hd σ H p⟩
end L2
namespace L2
open PySem PySem.Spec PyProof.Rows
section
variable{prog:Program}{w:World}{A:Around}{E:Value->Shared->Prop}{s:Shared}
end
section
variable{X:Cx}{tg:Expr}
end
section
variable{X:Cx}{CX:CXT}{k:Nat}{f e:Addr}{fd:FuncData}{ps:List Str}{sp:Sp}{dvs:List V}{ds:List Value}{E:XKs}{x:Str}{p pos:Pos}{e1:Expr}{es:List Expr}{t:TA}
end
abbrev oC:List Value:=[.type "ValueError",.type "Exception",.type "BaseException",.type "object"]
def okTail:List Value->Bool
 | .ref _::r=>okTail r
 |l=>l==oC
theorem okTail.has:∀ {l:List Value},okTail l=true->l.contains (.type "object")=true/\l.isEmpty=false/\∀self:Value,refuseLoop self "__setattr__" l=pure ()
 | [],e=>by cases e
 | .ref c::r,e=>by
  obtain⟨h1,_,h3⟩:=okTail.has (l:=r) e;exact⟨by rw[List.contains_cons,h1,Bool.or_true],rfl,fun self=>(refuseLoop_ref self _ c r).trans (h3 self)⟩
 | .type n::r,e=>by
  have e2:Z2 n::r=oC:=beq_iff_eq.mp e;rw[e2];exact⟨by decide,rfl,fun self=>PySem.F.store_ValueError.passes self⟩
 | .none::r,e=>absurd (beq_iff_eq.mp (show(Zc::r==oC)=true from e)) (by simp)
 | .bool b::r,e=>absurd (beq_iff_eq.mp (show(YN b::r==oC)=true from e)) (by simp)
 | .int i t::r,e=>absurd (beq_iff_eq.mp (show(Value.int i t::r==oC)=true from e)) (by simp)
 | .str i t::r,e=>absurd (beq_iff_eq.mp (show(YY i t::r==oC)=true from e)) (by simp)
 | .builtin i::r,e=>absurd (beq_iff_eq.mp (show(YE i::r==oC)=true from e)) (by simp)
section
variable{prog:Program}{w:World}{A:Around}{E:Value->Shared->Prop}{s:Shared}{K:W.Frag}{x C:Addr}{name:Str}{v:Value}
def qO(K:W.Frag)(C:Addr):Bool:=(PySem.W.clsIn K C).any fun cd=>okTail cd.mro
open Builtin Builtin.ObjectAttr
theorem Cd(X:K.In s.heap)(J:PySem.W.InstAt s.heap x ox C none)(hp:qO K C=true)(ht:vj K (.ref C) name=some none)
 (h:wpAny (model prog w) A.in1 (storeInOwnDict (.ref x) (.ref C) (.str name tk) name v false)
  (fun fin s'=>match fin with | .done f=>R (.ok f) s' | .again c'=>c'.quiet=true/\codeAny (model prog w) A c' R s') (fun e s'=>R (.error e) s') s) :
 codeAny (model prog w) A (.call (.builtin "object.__setattr__") ⟨[.ref x,.str name tk,v],[]⟩) R s:=by
 obtain⟨cd,hc,ok⟩:=PySem.W.any_some hp;obtain⟨o1,o2,o3⟩:=okTail.has ok;have e1:Yo K C (.type "object")=some true:=by unfold Yo;rw[hc];show(if _ then _ else _)=_;rw[o2,o1];rfl
 have mro:PySem.W.Looks (model prog w) s.heap (mroOf (.ref C)) cd.mro:=(PySem.W.looks_clsIn X hc).andThen .now;have L3:PySem.W.Looks (model prog w) s.heap (storeTaker? none) none:=.now;have F:=PySem.F.store_object;refine codeAny_call_builtin F.slot.plain F.entry (@PySem.W.check_slot (model prog w) _ _ s _ _ _ (.ref x) [.str name tk,v] [] _ F.kind F.split (J.type.andThen (PySem.W.looks_mroIn X e1)) (F.args (.ref x) (.str name tk) v) ?_);rw[PySem.W.osa_eq,refuse_eq];refine zw (zw (J.type.here (zw (mro.here ?_))));rw[o3];exact yt (zw (J.type.here (zw ((PySem.W.looks_findIn X ht).here (zw (L3.here h))))))
theorem B0(X:K.In s.heap)(hx:s.heap.get? x=some ⟨.ref C,none,.fields vs,sl⟩)
 (hs:vj K (.ref C) "__setattr__" = some (some (.builtin "object.__setattr__"))) (hp:qO K C=true) (ht:vj K (.ref C) name=some none) (hh:YT K C=true)
 (h:∀h' d t',s.heap.get? d=none->h'.get? x=some ⟨.ref C,some d,.fields vs,sl⟩->(∀b o,b≠x->s.heap.get? b=some o->h'.get? b=some o)->Q () { s with heap:=h',toks:=t' }) :
 wpAny (model prog w) A (setAttr (.ref x) name v) Q E s:=by
 have J:PySem.W.InstAt s.heap x ⟨.ref C,none,.fields vs,sl⟩ C none:=⟨hx,rfl,rfl,trivial⟩;refine PySem.W.set_plain X J hs (Cd (s:={ s with toks:=s.toks+1 }) X J hp ht ?_);obtain⟨cd,hc,hd⟩:=PySem.W.any_some hh;refine zw (yt (zw (zw (wpAny_loadPart hx (zw (PySem.W.Looks.here (s:={ s with toks:=s.toks+1 }) (PySem.W.looks_clsIn X hc) ?_))))));rw[hd];have hx1:(s.heap.push { cls:=.type "dict",data:=.dict #[] }).get? x=some ⟨.ref C,none,.fields vs,sl⟩:=Heap.get?_push_of_some _ hx;have ne:x≠s.heap.objs.size:=ui (y3 hx);refine zw (wpAny_alloc' (zw (wpAny_update' hx1 (yt ?_))));obtain⟨G,eG⟩:∃G:Heap,G=(s.heap.push { cls:=.type "dict",data:=.dict #[] }).update x fun o=>{ cls:=o.cls,dict:=some s.heap.objs.size,data:=o.data,slots:=o.slots }:=⟨_,rfl⟩;have g1:G.get? s.heap.objs.size=some { cls:=.type "dict",data:=.dict #[] }:=by rw[eG];exact(Heap.get?_update_ne _ _ _ _ (Ne.symm ne)).trans (Heap.get?_push_at rfl rfl)
 have g2:G.get? x=some ⟨.ref C,some s.heap.objs.size,.fields vs,sl⟩:=by rw[eG];exact Heap.get?_update_self _ hx1 rfl
 have g3:∀b o,b≠x->s.heap.get? b=some o->G.get? b=some o:=fun b o hb e=>by rw[eG];exact(Heap.get?_update_ne _ _ _ _ hb).trans (Heap.get?_push_of_some _ e)
 have hn:G.Ns s.heap.objs.size fun _=>none:=⟨_,#[],_,g1,rfl,(fun e he=>absurd he (by simp)),fun _=>rfl⟩;rw[<- eG];clear eG;show wpAny _ _ (storeInDict s.heap.objs.size (.str name s.toks) name v) _ _ _;refine zw (yt (zw (wpAny_nsSet1 (Heap.Ns1.of_empty hn) fun h' n1 sb=>?_)));obtain⟨od,es,ep,e1,e2,e3⟩:=n1.count (Within.cons name v Within.nil);refine zw (wpAny_lookBehind e1 (by rw[e2];exact pastItsLine_dict (xx e3 (by rw[vq,Z9,xM];decide))) (yt ?_));exact h h' s.heap.objs.size _ (Heap.get?_none_of_le (z5 _)) ((sb.2 x ne).trans g2) fun b o hb e=>(sb.2 b (ui (y3 e))).trans (g3 b o hb e)
end
section
variable{K:W.Frag}{h:Heap}{C f:Addr}
theorem uZ(X:K.In h)(G:h.Ns N mg)(e:PySem.W.nsIn K N n=some (some v)):mg n=some v:=by
 obtain⟨o,es,ep,ho,hd,_,hf⟩:=G;unfold PySem.W.nsIn at e;split at e
 ·rename_i q
  have z:=X _ _ q;rw[ho]at z;cases z;cases hd;rw[<- hf];unfold nsFind findBy;rw[<- Array.find?_toList];split at e
  ·rename_i he
   rw[he];cases e;rfl
  ·split at e <;> cases e
 ·cases e
def jw(K:W.Frag)(C f:Addr):Bool:=match K.lookup C with
 |some ⟨.type "type",_,.cls cd,sl⟩=>(match cd.mro,sl.toList with
  | .ref C'::bm,[_,_,_,_,some (.builtin n),_]=>(C'==C&&n == "ValueError.__new__" && !cd.hasDel)&&(PySem.W.tailIn K oC bm&&PySem.W.nsOkIn K cd.ns&&PySem.W.nsIn K cd.ns "__init__" == some (some (.ref f)))
  |_,_=>false)
 |_=>false
theorem Ae(X:K.In h)(q:jw K C f=true) :
 ∃bm N nm qn bs hdct sn sub ab col dd k0 k1 k2 k3 k5 mN,h.get? C=some (YL nm qn C N bs bm hdct sn sub ab col dd k0 k1 k2 k3 k5 "ValueError.__new__")/\h.Ns N mN/\mN "__init__" = some (.ref f)/\OwnTail h oC bm:=by
 unfold jw at q;split at q
 ·rename_i dd cd sl ho
  split at q
  ·rename_i C' bm k0 k1 k2 k3 n k5 hm hs
   simp only[sT,beq_iff_eq,Bool.not_eq_true']at q;obtain⟨⟨⟨rfl,rfl⟩,hdel⟩,⟨ht,hok⟩,hni⟩:=q;obtain⟨nm,bs,mro,ns,qn,hd,sn,sub,ab,col,del⟩:=cd;dsimp only at hm hdel hok hni;subst hm hdel;obtain⟨l⟩:=sl;cases hs;have G:h.Ns ns _:=.of_isNs (PySem.W.isNs_of_in X hok);exact⟨bm,ns,nm,qn,bs,hd,sn,sub,ab,col,dd,k0,k1,k2,k3,k5,_,X _ _ ho,G,uZ X G hni,PySem.W.tail_of_in X ht⟩
  ·cases q
 ·cases q
end
section
variable{prog:Program}{w:World}{A:Around}{E:Value->Shared->Prop}{h:Heap}{g:Array GenState}{d:Drawn}{t:Nat}{os:OsState}
variable{nm q:Str}{C N:Addr}{bs bm bmB:List Value}{hdct:Bool}{sn:List Str}{sub:List Value}{ab:Bool}{col:Option Bool}{dd:Option Addr}{k0 k1 k2 k3 k5:Option Value}{B newId initId:String}
def nwEx(h:Heap)(C:Addr)(rest:List Value):Heap:=(h.push { cls:=.type "tuple",data:=.seq rest.toArray }).push { cls:=.ref C,data:=.fields #[.ref h.objs.size,.none,.none,.none,.bool false,.none] }
theorem nwEx.at_{rest:List Value}:(nwEx h C rest).get? (h.objs.size+1)=some { cls:=.ref C,data:=.fields #[.ref h.objs.size,.none,.none,.none,.bool false,.none] }:=by unfold nwEx;heap_get
theorem nwEx.keep{rest:List Value}{b:Addr}{o:Obj}(e:h.get? b=some o):(nwEx h C rest).get? b=some o:=Heap.get?_push_of_some _ (Heap.get?_push_of_some _ e)
theorem nS(F:ExcBaseFacts B newId initId bmB)(T:OwnTail h bmB bm){rest:List Value}{o:Obj}
 (hC:h.get? C=some (YL nm q C N bs bm hdct sn sub ab col dd k0 k1 k2 k3 k5 newId)) (hn:h.Ns N mN) (hi:mN "__init__" = some (.ref f)) (hf:h.get? f=some o) (ho:o.cls = .type "function")
 (hq:wpAny (model prog w) A (call (.ref f) (.ref (h.objs.size+1)::rest)) (fun r s'=>r = .none/\Q (.done (.ret (.ref (h.objs.size+1)))) s') E ⟨nwEx h C rest,g,d,t,os⟩) (hz:rest.length<=sizeLine) :
 wpAny (model prog w) A (Builtin.«type.__call__» ⟨.ref C::rest,[]⟩) Q E ⟨h,g,d,t,os⟩:=by
 have cC:(yX C::bm).contains (.ref C)=true:=by simp
 have cN:(nwEx h C rest).get? C=_:=nwEx.keep hC;have eN:=nwEx.at_ (h:=h) (C:=C) (rest:=rest);have nN:(nwEx h C rest).Ns N mN:=hn.keeps fun b o e=>nwEx.keep e;have tN:OwnTail (nwEx h C rest) bmB bm:=T.keeps fun b o e=>nwEx.keep e
 repeat (first|with_reducible refine YU hC ?_|with_reducible refine wpAny_madeBy_exc hC ?_|wp_step)
 refine codeAny_call_builtin_code (Code.quiet_builtin _ F.quiet) (wpAny_check_new_subT F T hC (codeAny_exc_new_subT F T hC ?_ hz));show wpAny _ _ _ _ _ ⟨nwEx h C rest,g,d,t,os⟩;unfold isInstance
 repeat (first|with_reducible refine YU eN ?_|(with_reducible refine wpAny_isSubtype_exc cN ?_;rw[cC])|wp_step)
 show wpAny _ _ (typeLookup (.ref C) _) _ _ _;refine wpAny_typeLookup_tail cN nN tN F.mroIs F.init.lookup ?_;rw[hi];refine ZT (zw ?_);unfold bindSpecial;refine zw (wpAny_typeOf (T:="function") ⟨_,nwEx.keep hf,ho⟩ ?_);rw[if_pos (by decide)];refine yt (zw (uY hq (fun r s' hr=>?_) fun _ _ x=>x));obtain⟨rfl,z⟩:=hr
 wp_walk
 exact z
end
section
variable{prog:Program}{w:World}{A:Around}{E:Value->Shared->Prop}{h:Heap}{g:Array GenState}{d:Drawn}{t:Nat}{os:OsState}
variable{nm q:Str}{C N:Addr}{bs bm bmB:List Value}{hdct:Bool}{sn:List Str}{sub:List Value}{ab:Bool}{col:Option Bool}{dd:Option Addr}{k0 k1 k2 k3 k5:Option Value}{B newId initId:String}
theorem xq(F:ExcBaseFacts B newId initId bmB)(T:OwnTail h bmB bm){rest:List Value}{o:Obj}
 (hC:h.get? C=some (YL nm q C N bs bm hdct sn sub ab col dd k0 k1 k2 k3 k5 newId)) (hn:h.Ns N mN) (hi:mN "__init__" = some (.ref f)) (hf:h.get? f=some o) (ho:o.cls = .type "function")
 (hq:wpAny (model prog w) (A.under (.builtin "type.__call__" ⟨.ref C::rest,[]⟩)) (call (.ref f) (.ref (h.objs.size+1)::rest)) (fun r s'=>r = .none/\Q (.ref (h.objs.size+1)) s') E ⟨nwEx h C rest,g,d,t,os⟩) (hz:rest.length<=sizeLine) :
 wpAny (model prog w) A (call (.ref C) rest) Q E ⟨h,g,d,t,os⟩:=by
 have a1:=tc_lookup;have a2:=tc_bind (.ref C);have hT:(⟨h,g,d,t,os⟩:Shared).TypeIs (.ref C) "type":=⟨_,hC,rfl⟩;refine wpAny_call (codeAny_of_tree ?_);show wpAny _ _ (callAny (.ref C) _) _ _ _
 repeat (any_goals (first|assumption|with_reducible refine YU hC ?_|wp_step))
 exact⟨rfl,codeAny_call_builtin_at (Code.quiet_builtin _ (by decide +kernel)) entry_typeCall (wpAny_check_type_call_sub hC (nS F T hC hn hi hf ho hq hz))⟩
theorem uW(hb:bm.contains (.type "BaseException")=true)(hh:A.handled=none)
 (hx:wpAny M A x (fun v s1=>∃e od a0 sl,v = .ref e/\s1.heap.get? C=some (YL nm q C N bs bm hdct sn sub ab col dd k0 k1 k2 k3 k5 newId)/\s1.heap.get? e=some ⟨.ref C,od,.fields #[a0,.none,.none,.none,.bool false,.none],sl⟩/\E (.ref e) s1) E s) :
 wpAny M A (raiseStmt env (some x) none) Q E s:=by
 have cB:(yX C::bm).contains (.type "BaseException")=true:=by rw[List.contains_cons,hb,Bool.or_true]
 unfold raiseStmt;refine zw (uY hx (fun v s1 z=>?_) fun _ _ z=>z);obtain⟨e,od,a0,sl,rfl,hC,he,hE⟩:=z;obtain⟨hp,g,d,tk,os⟩:=s1
 repeat (first|with_reducible refine YU he ?_|with_reducible refine YU hC ?_|(with_reducible refine wpAny_isSubtype_exc hC ?_;rw[cB])|wp_step)
 exact wpAny_raiseNew_none hh hE
theorem v4(F:ExcBaseFacts B newId initId bmB)
 (hb:bm.contains (.type "BaseException")=true) (hh:A.handled=none) (hpl:(backTo cpos (starEach args env)).any (·.1)=false) (hi:mN "__init__" = some (.ref f)) (ho:o.cls = .type "function")
 (h:wpAny (model prog w) A (eval (.Name x np) env) (fun v s1=>v = .ref C/\wpAny (model prog w) A (evalArgs (.ref C) true (backTo cpos (starEach args env)) [])
  (fun a s2=>a.kw=[]/\a.pos.length<=sizeLine/\s2.heap.get? C=some (YL nm q C N bs bm hdct sn sub ab col dd k0 k1 k2 k3 k5 newId)/\s2.heap.Ns N mN/\OwnTail s2.heap bmB bm/\s2.heap.get? f=some o /\
   wpAny (model prog w) (A.under (.builtin "type.__call__" ⟨.ref C::a.pos,[]⟩)) (call (.ref f) (.ref (s2.heap.objs.size+1)::a.pos)) (fun r s'=>r = .none/\∃od a0 sl,s'.heap.get? C=some (YL nm q C N bs bm hdct sn sub ab col dd k0 k1 k2 k3 k5 newId)/\s'.heap.get? (s2.heap.objs.size+1)=some ⟨.ref C,od,.fields #[a0,.none,.none,.none,.bool false,.none],sl⟩/\E (.ref (s2.heap.objs.size+1)) s') E { s2 with heap:=nwEx s2.heap C a.pos }) E s1) E s) :
 wpAny (model prog w) A (exec (.Raise (some (.Call (.Name x np) args [] cpos)) none pos) env) Q E s:=by
 rw[arm_exec_Raise];have hR:wpAny (model prog w) A (do let v <- eval (.Call (.Name x np) args [] cpos) env;standAt pos;pure v) (fun v s1=>∃e od a0 sl,v = .ref e/\s1.heap.get? C=some (YL nm q C N bs bm hdct sn sub ab col dd k0 k1 k2 k3 k5 newId)/\s1.heap.get? e=some ⟨.ref C,od,.fields #[a0,.none,.none,.none,.bool false,.none],sl⟩/\E (.ref e) s1) E s:=by
  refine zw (uY (wpAny_Call_ofName (uY h (fun v s1 z=>?_) fun _ _ z=>z)) (fun v s3 z=>zw (YX (yt z))) fun _ _ z=>z);obtain⟨rfl,z⟩:=z;unfold callWith;refine zw (ZT (uY z (fun a s2 z2=>zw (YX ?_)) fun _ _ z=>z));obtain⟨ap,ak⟩:=a;obtain⟨hk,hl,hC,hn,T,hf,z2⟩:=z2;obtain rfl:ak=[]:=hk;obtain⟨hp,g,d,tk,os⟩:=s2;simp only[hpl];refine zw (wpAny_keeperOf_exc hC (zw (xq F T hC hn hi hf ho (uY z2 (fun r s' z3=>?_) fun _ _ z=>z) hl)));obtain⟨rfl,od,a0,sl,b1,b2,b4⟩:=z3;exact⟨rfl,zw (ZT (wpAny_point (yt ⟨_,od,a0,sl,rfl,b1,b2,b4⟩)))⟩
 exact zw (YX (uW (C:=C) (nm:=nm) (q:=q) (N:=N) (bs:=bs) (bm:=bm) (hdct:=hdct) (sn:=sn) (sub:=sub) (ab:=ab) (col:=col) (dd:=dd) (k0:=k0) (k1:=k1) (k2:=k2) (k3:=k3) (k5:=k5) (newId:=newId) hb hh hR))
end
section
variable{P:Program}{w:World}{K:W.Frag}{mg:Str->Option Value}{base:Heap}{N:List Str}{qual:Str}{scope:Scope}{f:Addr}{cd:Value}{A:Around}{outer:List Env}{s₀:Shared}{H₀:Hp}{E:XK}
abbrev Cu(a0:Value):Array Value:=#[a0,.none,.none,.none,.bool false,.none]
theorem r_
 (I:Inv (cL (XE P w) P w K mg base N qual scope f cd A outer s₀ H₀ E) pins σ H s) (he:s.heap.get? e=some ⟨.ref C,od,.fields (Cu a0),sl⟩) (ne:H e=none) (n0:s₀.heap.get? e=none) (q:E (.ref C) none H) :
 (cL (XE P w) P w K mg base N qual scope f cd A outer s₀ H₀ E).xe (.ref e) s:=by
 show wpAny (model P w) (A.deeper (envOfC qual scope s₀.heap.objs.size f cd)) (leaving (envOfC qual scope s₀.heap.objs.size f cd) (.ref e)) (fun _ s''=>XE P w outer H₀ s₀ E (.ref e) s'') (fun e' s''=>XE P w outer H₀ s₀ E e' s'') s;have hst:s.heap.FunFrames base (envOfC qual scope s₀.heap.objs.size f cd::outer):=I.stack;have e0:(hid s.heap (envOfC qual scope s₀.heap.objs.size f cd::outer) [e]).get? e=none:=jH (.head _);refine dM (e:=e) (jB _ _) ⟨_,_,he,rfl,rfl⟩ (wpAny_leaving_firstW (base:=hid s.heap (envOfC qual scope s₀.heap.objs.size f cd::outer) [e]) (a0:=a0) I.ok.frames (fL hst) rfl he (fun b o z=>m8 z) e0 rfl rfl rfl fun h' hL g2=>?_);obtain⟨k1,⟨_,_,f3⟩,⟨oe,vs,T,oT,ts,he',hc,hd,h1,hnT,hTe,hT,hdT,h3⟩,up⟩:=hL;have nT:s.heap.get? T=none:=(qv hst up hnT hT hdT).elim id fun z=>absurd (zv.mp z) hTe;have stay:∀b o,s.heap.get? b=some o->b∉frs (envOfC qual scope s₀.heap.objs.size f cd::outer)->b∉[e,T]->h'.get? b=some o:=fun b o z hb n=>k1 b o (iU z hb fun y=>n (by rw[zv.mp y];exact .head _));have n1:∀b∈[e,T],s₀.heap.get? b=none:=fun b hb=>by
  rcases z6.mp hb with r|r
  ·rw[r];exact n0
  ·rw[zv.mp r];exact I.s0_none rfl nT
 have n2:∀b∈[e,T],H b=none:=fun b hb=>by
  rcases z6.mp hb with r|r
  ·rw[r];exact ne
  ·rw[zv.mp r];exact I.hok.none_of nT
 refine⟨e,.ref C,[e,T],H,rfl,I.os,I.bare,I.noteUn rfl n1 stay up,I.noteOk n2 stay,fun b hb=>⟨n1 b hb,n2 b hb⟩,⟨.head _,a0,?_,g2⟩,q⟩;exact⟨fun b o z=>m8 z,jH (.head _),fL f3,oe,vs,T,oT,ts,he',hc,hd,h1,jH (.tail _ (.head _)),hTe,hT,hdT,h3⟩
def rg(X:Cx)(E:XKs):Prop:=∀(pins:List (Addr × Obj)) (σ:St) (H:Hp) (s:Shared) (e C:Addr) (od:Option Addr) (a0:Value) (sl:Array (Option Value)),Inv X pins σ H s->s.heap.get? e=some ⟨.ref C,od,.fields (Cu a0),sl⟩->H e=none->X.s₀.heap.get? e=none->E σ (.ref C) none H->X.xe (.ref e) s
theorem Dw:rg (cL (XE P w) P w K mg base N qual scope f cd A outer s₀ H₀ E) (fun _=>E):=fun _ _ _ _ _ _ _ _ _ I he ne n0 q=>r_ I he ne n0 q
end
def ExN(C e:Addr):HO:=.ext fun h=>∃a0,h.get? e=some ⟨.ref C,none,.fields (Cu a0),#[]⟩
def ExD(C e:Addr):HO:=.ext fun h=>∃od a0,h.get? e=some ⟨.ref C,od,.fields (Cu a0),#[]⟩
section
variable{X:Cx}{e o value:Expr}{f:Str}{ta tv:TE}{pos pos':Pos}
structure Gm(K:W.Frag)(C:Addr)(f:Str):Prop where
 sa:vj K (.ref C) "__setattr__" = some (some (.builtin "object.__setattr__"))
 ov:qO K C=true
 no:vj K (.ref C) f=some none
 hd:YT K C=true
def wS(C:Addr):V->Hp->(Hp->Prop)->Prop
 | .ref p,H,Q=>H p=some (ExN C p)/\Q (upd H p (ExD C p))
 |_,_,_=>False
def AL(C:Addr)(ta tv:TE):TS:=fun D σ H=>tv σ H fun _ H1=>ta σ H1 fun x H2=>wS C x H2 fun H3=>D.nx σ H3
theorem C3(W:Gm X.K C f)(ha:PE X o ta)(hv:PE X value tv)(hs:swapsWith value (some (.Attribute o f pos')) pos.line X.env=pure false:=by rfl):PS X (.Assign [.Attribute o f pos'] value pos) (AL C ta tv):=by
 intro pins s σ H D I h;refine plainObj_wpAny_Assign_Attribute (thn (hv pins s σ H _ I h) fun u s1 ⟨y,H1,I1,ry,q⟩=>thn (ha pins s1 σ H1 _ I1 q) fun ov s2 ⟨x,H2,I2,rx,q2⟩=>?_) hs;dsimp only at q2;unfold wS at q2;split at q2
 ·rename_i a
  obtain⟨ea,q2⟩:=q2;obtain rfl:ov=yX a:=rx;obtain⟨⟨a0,hx⟩,_,_⟩:=I2.hok a _ ea;refine B0 I2.kIn hx W.sa W.ov W.no W.hd fun h' d t' _ e1 e2=>⟨σ,_,I2.write (x:=a) (e:=a) (o:=ExD C a) (by rw[ea];exact ZG) (.inl rfl) e2 ⟨_,e1⟩ ⟨⟨_,_,e1⟩,⟨_,e1⟩,fun h1 h2 ⟨od,a1,z⟩ k=>⟨od,a1,k _ z⟩⟩,q2⟩
 ·exact q2.elim
end
theorem FX{K:W.Frag}(h:PySem.W.isFn K (.ref f)=true):∃o,K.lookup f=some o/\o.cls = .type "function":=by
 obtain⟨o,e,c⟩:=u8.mp (beq_iff_eq.mp h);exact⟨o,e,c⟩
section
variable{X:Cx}{CX:CXT}{k:Nat}{f C:Addr}{fd:FuncData}{ps:List Str}{sp:Sp}{dvs:List V}{ds:List Value}{E:XKs}{x:Str}{np cpos pos:Pos}{e:Expr}{es:List Expr}{t:TA}
def mL(C:Addr)(sp:Sp)(dvs:List V)(E:XKs)(t:TA):TS:=fun _ σ H=>t σ H fun vs H1=>vs.length<=sizeLine/\NoT H1/\∀p,H1 p=none->sp (.ref p::(vs++dvs)) (upd H1 p (ExN C p)) (fun v H2=>v = .non/\H2 p=some (ExD C p)/\Same H1 H2/\E σ (.ref C) none H1) (E σ)
theorem xR(O:jw X.K C f=true)(fn:PySem.W.isFn X.K (.ref f)=true)(F:hV X.prog X.w X.K X.mg X.base CX k f fd ps sp)(hr:Room (k+1) X.A)(hb:Binds X.K fd ps ds)(hd:Vals dvs ds)(hp:bO CX X E)(hx:rg X E)
 (hc:X.calm=true) (hg:Gl X x) (hm:X.mg x=some (.ref C)) (ha:PA X (e::es) t) (hex:X.ex=[]:=by rfl) (hdb:(x==("__debug__":Str))=false:=by decide)
 (he:starEach (e::es) X.env=(false,eval e X.env)::starEach es X.env:=by rfl) (hpl:(backTo cpos (starEach es X.env)).any (·.1)=false:=by rfl) :
 PS X (.Raise (some (.Call (.Name x np) (e::es) [] cpos)) none pos) (mL C sp dvs E t):=by
 intro pins s σ H D I h;obtain⟨tl,N,nm,q,bs,hdct,sn,sub,ab,col,dd,k0,k1,k2,k3,k5,mN,hC,hN,hi,T⟩:=Ae I.mod.kin O;obtain⟨fo,fl,fc⟩:=FX fn;refine v4 (C:=C) (nm:=nm) (q:=q) (N:=N) (bs:=bs) (bm:=tl) (hdct:=hdct) (sn:=sn) (sub:=sub) (ab:=ab) (col:=col) (dd:=dd) (k0:=k0) (k1:=k1) (k2:=k2) (k3:=k3) (k5:=k5)
  PySem.F.excBase_ValueError (mN:=mN) (T.hasType PySem.F.excBase_ValueError.hasBase) (I.ok.hd hc) (by rw[he];show(false || (backTo cpos (starEach es X.env)).any (·.1))=false;rw[hpl];rfl) hi fc (ie I hg hm ⟨rfl,?_⟩ hdb)
 have hA:=ha cpos pins s σ H _ I h;rw[he]at hA |-
 refine Yq (thn hA fun us s1 ⟨vs,H1,I1,r,hz,hT,q1⟩=>⟨rfl,by rw[<- r.length];exact hz,I1.bk _ _ hC,hN.keeps I1.bk,T.keeps I1.bk,I1.kIn _ _ fl,?_⟩);have nf:s1.heap.get? (s1.heap.objs.size+1)=none:=Heap.get?_none_of_le (ZV _);have hq:=q1 (s1.heap.objs.size+1) (I1.hok.fresh (ZV _));have I2:Inv X pins σ (upd H1 (s1.heap.objs.size+1) (ExN C (s1.heap.objs.size+1))) { s1 with heap:=nwEx s1.heap C us }:=I1.laid (t':=s1.toks) (fun b o z=>nwEx.keep z) (ZV _) ⟨⟨_,nwEx.at_⟩,⟨_,nwEx.at_⟩,fun h1 h2 ⟨a1,z⟩ kk=>⟨a1,kk _ z⟩⟩;have r2:Vals (V.ref (s1.heap.objs.size+1)::(vs++dvs)) (yX (s1.heap.objs.size+1)::(us++ds)):=.cons rfl (r.append hd);have hl:(yX (s1.heap.objs.size+1)::us++ds).length=ps.length:=by
  have z:=r2.length;rw[F.len _ _ _ _ hq]at z;exact z.symm
 refine wpAny_call (codeAny_mono (F.run _ X.stack _ _ ⟨yX (s1.heap.objs.size+1)::us,[]⟩ (yX (s1.heap.objs.size+1)::(us++ds)) _ _ (E σ) (hr.make C us []) (I2.env0.make C us []) (hb _ (yX (s1.heap.objs.size+1)::us) I2.kIn hl) r2 hq) fun r' s' hq'=>?_);cases r' with
 |error e'=>exact hp pins σ _ _ e' s' I2 hq'
 |ok fw=>
  cases fw with
  |ret u=>
   obtain⟨v,H',I3,rv,ev,g1,g2,g3⟩:=I2.after hq';subst ev;obtain⟨⟨od,a0,z⟩,_,_⟩:=I3.hok _ _ g1;exact⟨rv,od,a0,#[],I3.bk _ _ hC,z,hx pins σ H1 s' _ C od a0 #[] (I1.gc hT I3 (Gc.none g2)) z (I1.hok.fresh (ZV _)) (I1.s0_none hex nf) g3⟩
  |next=>exact ZS hq'
  |brk=>exact ZS hq'
  |cont=>exact ZS hq'
end
def Tp(H:Hp)(xs:List V)(Q:VK):Prop:=∀p H',H' p=some (.tup xs)->Same H H'->(NoT H->NoT H')->Q (.ref p) H'
def D9:R2
 | .ref x,.ref y,H,Q=>∃xs ys,H x=some (.tup xs)/\H y=some (.tup ys)/\xs.length+ys.length<=sizeLine/\Tp H (xs++ys) Q
 |_,_,_,_=>False
def Gs:V->Option Int->Option Int->Hp->VK->Prop
 | .ref x,lo,hi,H,Q=>∃xs,H x=some (.tup xs)/\Tp H (gW xs lo hi) Q
 |_,_,_,_,_=>False
section
variable{prog:Program}{w:World}{A:Around}{E:Value->Shared->Prop}{s:Shared}
end
section
variable{X:Cx}
end
end L2
namespace L2
open PySem PyProof.Rows
section
variable{prog:Program}{w:World}{A:Around}{E:Value->Shared->Prop}{s:Shared}{it d:Addr}{i ep:Nat}{od:Obj}{es:Array Y6}
end
section
variable{X:Cx}{pins:List (Addr × Obj)}{σ:St}{H:Hp}{s:Shared}
end
section
variable{prog:Program}{w:World}{A:Around}{E:Value->Shared->Prop}{s:Shared}{d:Addr}
end
section
variable{X:Cx}{o e f:Expr}{apos cpos:Pos}{td ty tx:TE}
end
namespace Srt
section
variable{prog:Program}{w:World}{A:Around}{E:Value->Shared->Prop}{s:Shared}
end
end Srt
section
variable{X:Cx}{pins:List (Addr × Obj)}{σ:St}{H:Hp}{s:Shared}
end
section
variable{X:Cx}
end
section
variable{prog:Program}{w:World}{A:Around}{E:Value->Shared->Prop}{s:Shared}
end
section
variable{X:Cx}
end
open Lean Meta Simp
end L2
namespace L2
section
variable{κ:Type}[DecidableEq κ]
end
structure Qr where
 d:Int
 a:List Nat
 p:Int
 b:List Nat
 q:Int
abbrev Wt:=Int × Int
def hit(r:Qr)(x y:List Nat):Option Wt:=if r.a=x/\r.b=y then some (r.p,r.q) else if r.a=y/\r.b=x then some (r.q,r.p) else none
def Ih(r:Qr)(x y:List Nat)(D:Int)(o:Option Wt):Option Wt:=if r.d=D then (hit r x y).or o else o
def val(R:List Qr)(x y:List Nat)(D:Int):Option Wt:=R.foldl (fun o r=>Ih r x y D o) none
def m7(R:List Qr):Prop:=∀r∈R,r.a≠r.b
theorem Ad(h:we (c6 (pV td) n g ks tt te) σ H fun v H1=>D.nx (σ.set i (some v)) H1):Bv (vA (c6 (pV td) n g ks tt te) (iq i)) D σ H:=h
end L2
namespace L2
open PySem PyProof.Rows
section
variable{X:Cx}{e c:Expr}{te:TE}{ts:TO}{pos p2:Pos}
end
section
variable{X:Cx}
end
open Lean Meta Simp
end L2
namespace L2
section
variable{N:Type}{A:N->N->Prop}{g:N}
def Wk(A:N->N->Prop)(g:N):Nat->N->Prop
 |0,x=>x=g
 |k+1,x=>∃y,Wk A g k y/\A y x
def Far(A:N->N->Prop)(g:N)(k:Nat)(x:N):Prop:=Wk A g k x/\∀j,j<k -> ¬ Wk A g j x
end
section
variable{A:List Nat->List Nat->Prop}{g:List Nat}
def Nx(A:List Nat->List Nat->Prop)(g x y:List Nat):Prop:=∃k,Far A g (k+1) x/\Far A g k y/\A x y/\∀z,Far A g k z->A x z -> ¬ z<y
def Chn(A:List Nat->List Nat->Prop)(g:List Nat):List (List Nat)->Prop
 | []=>False
 | [x]=>x=g
 |x::y::r=>Nx A g x y/\Chn A g (y::r)
end
section
variable{N:Type}{A:N->N->Prop}{g:N}
def Up(A:N->N->Prop)(g:N)(k:Nat)(F:List N)(x:N)(n:Nat):Prop:=(n<=k/\Far A g n x)\/(n=k+1/\x∈F)
end
def pr(r:Qr)(x y:List Nat):Prop:=(r.a=x/\r.b=y)\/(r.a=y/\r.b=x)
def Lk(R:List Qr)(d:Int)(x y:List Nat):Prop:=∃r∈R,r.d<=d/\pr r x y
def Cov(R:List Qr)(C:List (List Nat)):Prop:=∀r∈R,r.a∈C/\r.b∈C
structure SD(m:List (Key × V))(P:List Nat->Nat->Prop):Prop where
 nd:(m.map (·.1)).Nodup
 to:∀k v,(k,v)∈m->∃(x:List Nat) (n:Nat),k = .inr ⟨⟨x⟩⟩/\v = .int n/\P x n
 fr:∀x (n:Nat),P x n->((.inr ⟨⟨x⟩⟩:Key),V.int n)∈m
def Rows(R:List Qr)(C:List (List Nat)):Prop:=∀r∈R,(0<=r.d/\r.d<=146096)/\r.a∈C/\r.b∈C/\r.a≠r.b/\(1<=r.p/\r.p<=1000000000)/\1<=r.q/\r.q<=1000000000
end L2
namespace L2
open PySem PyProof.Rows
section
variable{P:Program}{w:World}{A:Around}{E:Value->Shared->Prop}{s:Shared}
abbrev skd(P:Program)(w:World):=PySem.strKind P w
def Ij(P:Program)(w:World)(h:Heap)(a:Addr)(ls:List (List Nat))(ld:Bool):Prop:=∃o es ep t,h.get? a=some o/\o.ExactSet/\o.data = .set es ep t/\ElemsOf (skd P w) es.toList/\es.size<scanBound/\t.fits es.size=true/\t.led=ld/\(0<es.size->t.plain=false)/\(es.toList.map fun e=>Cs e.2).Nodup/\∀l,l∈es.toList.map (fun e=>Cs e.2)↔l∈ls
end
section
variable{P:Program}{w:World}{A:Around}{E:Value->Shared->Prop}{s:Shared}
end
section
variable{P:Program}{w:World}{A:Around}{E:Value->Shared->Prop}{s:Shared}{a I:Addr}{o:Obj}{es:Array (Int × Value)}{ep i n:Nat}{t:SetTable}
end
section
variable{P:Program}{w:World}{A:Around}{E:Value->Shared->Prop}{s:Shared}{a I:Addr}{o:Obj}{es:Array (Int × Value)}{ep i n:Nat}{t:SetTable}
end
section
variable{P:Program}{w:World}{A:Around}{E:Value->Shared->Prop}{s:Shared}{a I:Addr}{o:Obj}{es:Array (Int × Value)}{ep i n:Nat}{t:SetTable}
end
section
variable{P:Program}{w:World}{A:Around}{E:Value->Shared->Prop}{s:Shared}{a:Addr}{ls:List (List Nat)}
def Io(ls:List (List Nat))(vs:List Value):Prop:=(∀v∈vs,IsS v)/\(vs.map Cs).Nodup/\(∀l,l∈vs.map Cs↔l∈ls)/\vs.length<scanBound
end
section
variable{P:Program}{w:World}{A:Around}{E:Value->Shared->Prop}{s:Shared}{a:Addr}{ls:List (List Nat)}
end
end L2
namespace L2
open PySem PySem.Spec PyProof.Rows
section
variable{X:Cx}{x y:Str}{p p2 pos pos2:Pos}{e:Expr}{te:TE}{pins:List (Addr × Obj)}{σ:St}{H:Hp}{s:Shared}
end
end L2
namespace L2
open PySem PyProof.Rows
section
variable{X:Cx}
end
end L2
namespace L2
open PySem
def kI:Key->Int
 | .inl i=>i
 | .inr _=>0
def vI:V->Int
 | .int i=>i
 |_=>0
def sE(P:Int->Bool):List (Key × V)->Int
 | []=>0
 |e::m=>(if P (kI e.1)=true then vI e.2 else 0)+sE P m
def gM(m:List (Key × V))(d:Int):Int:=match dR m (.inl d) with
 |some v=>vI v
 |none=>0
def Ig(m:List (Key × V)):Prop:=∀k v,(k,v)∈m->∃D a,k = .inl D/\v = .int a
abbrev PR:=Int × List Nat × List Nat × Int
def sR(x y:List Nat)(P:Int->Bool):List PR->Int
 | []=>0
 |z::R=>(if z.2.1=x/\z.2.2.1=y/\P z.1=true then z.2.2.2 else 0)+sR x y P R
structure MM(m:List (Key × V))(x y:List Nat)(R:List PR):Prop where
 nd:(m.map (·.1)).Nodup
 it:Ig m
 sm:∀P,sE P m=sR x y P R
section
variable{X:Cx}
end
theorem Gn{K:W.Frag}{n:Nat}{g:TG}{ks:List Nat}{tt:TT}{te:TE}{σ:St}{H1:Hp}{Q:VK}(a:Addr)(xs:List V)(P:Addr->Nat->List V->Hp->Prop)(hz:xs.length<sizeLine)
 (h0:∀D,H1 D=none->P D 0 [] (upd H1 D (.lst []))) (hD:∀D i ys H',P D i ys H'->H' D=some (.lst ys)/\SqT K H' a xs/\ys.length<=i)
 (hs:∀D i y ys H' (zs:St) (N1:VK) (N0:Hp->Prop),xs[i]? = some y->P D i ys H'->zs.length=n->(∀v H6,H6 D=some (.lst ys)->P D (i+1) (ys++[v]) (upd H6 D (.lst (ys++[v])))->N1 v H6)->(∀H6,P D (i+1) ys H6->N0 H6) ->
  g y (zs++ks.map fun k=>(σ[k]?).join) H' fun σ4 H4=>(∃zs4:St,zs4.length=n/\σ4=zs4++ks.map fun k=>(σ[k]?).join)/\tt σ4 H4 fun b H5=>if b=true then te σ4 H5 N1 else N0 H5)
 (hd:∀D ys H',P D xs.length ys H'->Q (.ref D) H'):CEl (Itt K a) n g ks tt te σ H1 Q:=by
 intro D hDn;refine⟨fun i m ys H'=>m=xs.length-i/\i<=xs.length/\P D i ys H',⟨_,rfl,xm _,h0 D hDn⟩,?_⟩;rintro i m ys H' ⟨rfl,hi,p⟩;obtain⟨d1,d2,d3⟩:=hD D i ys H' p;refine⟨d1,?_⟩;rcases Nat.lt_or_ge i xs.length with lt|ge
 ·refine .inr ⟨⟨xs,xs[i],d2,by simp[lt]⟩,?_⟩
  rintro x H3 ⟨rfl,hx⟩ zs hzs;exact hs D i x ys _ zs _ _ (hx xs d2) p hzs (fun v H6 h6 p6=>⟨h6,by lia,_,by lia,rfl,lt,p6⟩) fun H6 p6=>⟨_,by lia,rfl,lt,p6⟩
 ·obtain rfl:i=xs.length:=Nat.le_antisymm hi ge
  exact .inl ⟨⟨xs,d2,z5 _⟩,hd D ys H' p⟩
def Ip{β:Type}(mk:β->List V)(H:Hp)(v:V)(b:β):Prop:=∃t,v = .ref t/\H t=some (.tup (mk b))
end L2
namespace K22
open PySem L2 K19
theorem DO(h:tl σ H fun x H1=>∃a,x = .ref a/\(∃xs,SqT K H1 a xs)/\CEl (Itt K a) n g ks tt te σ H1 Q):c6 (xG K tl) n g ks tt te σ H Q:=h
theorem Fv{K:W.Frag}{β γ:Type}{n:Nat}{g:TG}{ks:List Nat}{tt:TT}{te:TE}{σ:St}{H:Hp}{Q:VK}{S:Hp->V->γ->Prop}(hS:∀(G G':Hp) (v:V) (c:γ),(∀t l,G t=some (.tup l)->G' t=some (.tup l))->S G v c->S G' v c)
 (a:Addr) (vs:List V) (R:List β) (Rel:V->β->Prop) (p:β->Bool) (f:β->γ) (ha:H a=some (.tup vs)) (hN:NoT H) (hR:A2 Rel vs R) (hz:vs.length<sizeLine)
 (hs:∀v b,b∈R->Rel v b->∀G (zs:St) (N1:VK) (N0:Hp->Prop),Same H G->NoT G->zs.length=n->(p b=true->∀u G',Same G G'->NoT G'->S G' u (f b)->N1 u G')->(p b=false->∀G',Same G G'->NoT G'->N0 G') ->
  g v (zs++ks.map fun k=>(σ[k]?).join) G fun σ4 H4=>(∃zs4:St,zs4.length=n/\σ4=zs4++ks.map fun k=>(σ[k]?).join)/\tt σ4 H4 fun b H5=>if b=true then te σ4 H5 N1 else N0 H5)
 (q:∀D ws G,H D=none->Same H G->NoT G->G D=some (.lst ws)->A2 (S G) ws ((R.filter p).map f)->Q (.ref D) G):CEl (Itt K a) n g ks tt te σ H Q:=by
 refine Gn a vs (fun D i ys G=>H D=none/\Same H G/\NoT G/\G D=some (.lst ys)/\ys.length<=i/\A2 (S G) ys (((R.take i).filter p).map f)) hz ?_ ?_ ?_ ?_
 ·exact fun D hD=>⟨hD,aj _ hD,az hN rfl,ad,z5 _,.nil⟩
 ·rintro D i ys G ⟨hD,sm,_,gd,ly,_⟩
  exact⟨gd,SqT.of (sm _ _ ha),ly⟩
 ·rintro D i y ys G zs N1 N0 hy ⟨hD,sm,nG,gd,ly,A⟩ hzs n1 n0
  obtain⟨b,hb,rb⟩:=hR.at_ hy;have mb:=yO hb;have et:R.take (i+1)=R.take i++[b]:=by rw[Z4,hb];rfl
  rw[et,Zm,vx]at n1 n0;refine hs y b mb rb G zs N1 N0 sm nG hzs (fun pb u G' s' nG' hu=>?_) fun pb G' s' nG'=>n0 G' ⟨hD,sm.trans s',nG',s' _ _ gd,Nat.le_succ_of_le ly,?_⟩
  ·have gd':=s' _ _ gd
   have kt:∀t l,G' t=some (.tup l)->upd G' D (.lst (ys++[u])) t=some (.tup l):=fun t l e=>by
    rw[ah fun z=>by rw[z,gd']at e;cases e];exact e
   refine n1 _ _ gd' ⟨hD,fun c o e=>?_,az nG' rfl,ad,by rw[yk];exact YH ly,?_⟩
   ·rw[ah (aC e hD)];exact s' _ _ (sm _ _ e)
   ·rw[Zg pb,Yz]
    exact(A.imp fun _ _ _ _ h=>hS _ _ _ _ kt (hS _ _ _ _ (fun t l e=>s' _ _ e) h)).snoc (hS _ _ _ _ kt hu)
  ·rw[Zo (by rw[pb];decide),Yz,Yd,u6]
   exact A.imp fun _ _ _ _ h=>hS _ _ _ _ (fun t l e=>s' _ _ e) h
 ·rintro D ys G ⟨hD,sm,nG,gd,_,A⟩
  rw[hR.len,sf]at A;exact q D ys G hD sm nG gd A
end K22
namespace L2
open PySem PySem.Spec PyProof.Rows
section
variable{X:Cx}{tg l:Expr}{tl:TE}
def Gu(K:W.Frag)(tl:TE):TI:=fun σ H R=>tl σ H fun x H1=>∃a,x = .ref a/\((∃xs,SqL K H1 a xs)/\R (Itl K a) H1\/(∃xs,SqT K H1 a xs)/\R (Itt K a) H1)
theorem Di(K:W.Frag)(hl:PE X l tl)(h:X.K=K:=by rfl):PI X tg l (Gu K tl):=by
 subst h;intro pins s σ H R I h;have hb:∀ {s1:Shared} {H1:Hp},Inv X pins σ H1 s1->∀b∈[s1.heap.objs.size],j_ X pins H1 b:=fun {s1 H1} I1 b hb=>by
  rw[zv.mp hb];exact I1.fpOk (z5 _) (I1.hok.fresh (z5 _))
 refine thn (hl pins s σ H _ I h) fun v s1 ⟨x,H1,I1,r1,a,e,q⟩=>?_;subst e;cases r1;rcases q with ⟨⟨xs,hq⟩,q⟩|⟨⟨xs,hq⟩,q⟩
 ·obtain⟨its,rv,p,hz⟩:=I1.list hq
  exact YV p.isList ⟨s1.heap.objs.size,[s1.heap.objs.size],_,_,H1,rfl,I1.kept (t':=s1.toks) fun b o e=>Heap.get?_push_of_some _ e,o_ a _,⟨_,Heap.get?_push_size _ rfl,rfl,rfl⟩,hb I1,q⟩
 ·obtain⟨its,rv,p,hz⟩:=I1.tuple hq
  exact wpAny_pyIter_tuple (show s1.heap.IsTuple a its.toArray from p) ⟨s1.heap.objs.size,[s1.heap.objs.size],_,_,H1,rfl,I1.kept (t':=s1.toks) fun b o e=>Heap.get?_push_of_some _ e,nr a _,⟨_,Heap.get?_push_size _ rfl,rfl,rfl⟩,hb I1,q⟩
end
theorem Hg{K:W.Frag}{n:Nat}{g:TG}{ks:List Nat}{tt:TT}{te tl:TE}{σ:St}{H:Hp}{Q:VK}(h:tl σ H fun x H1=>∃a,x = .ref a/\((∃xs,SqL K H1 a xs)/\CEl (Itl K a) n g ks tt te σ H1 Q\/(∃xs,SqT K H1 a xs)/\CEl (Itt K a) n g ks tt te σ H1 Q)):c6 (Gu K tl) n g ks tt te σ H Q:=h
end L2
namespace L2
open PySem PyProof.Rows
def zR(k:Int)(n:Nat):List Nat:=sliceRange (ZM none none (some k) n).1 (ZM none none (some k) n).2.1 (ZM none none (some k) n).2.2
def stp{α:Type}(k:Int)(xs:List α):List α:=(zR k xs.length).filterMap fun i=>xs[i]?
theorem C9{k:Int}(h:x∈stp k xs):x∈xs:=by
 obtain⟨i,_,e⟩:=Y3.mp h;exact yO e
theorem BM{α:Type}{k:Int}(hk:k=1\/k = -1)(xs:List α):(stp k xs).length<=xs.length:=by
 refine xx (List.length_filterMap_le _ _) (sliceRange_length_le _ _ _ _ (fun z=>?_) fun z=>?_)
 ·rcases hk with rfl|rfl
  ·exact⟨by show(0:Int)<=0;lia,by show((xs.length:Nat):Int)<=xs.length;lia⟩
  ·cases z
 ·rcases hk with rfl|rfl
  ·exact absurd (by decide:(1:Int) > 0) z
  ·exact⟨by show((xs.length:Nat):Int)-1<=xs.length-1;lia,by show(-1:Int) <= -1;lia⟩
theorem AT{k:Int}(r:Vals xs us):Vals (stp k xs) ((zR k xs.length).filterMap fun i=>us[i]?):=by
 unfold stp;generalize zR k xs.length=ks
 induction ks with
 |nil=>exact .nil
 |cons k ks ih=>
  rw[Yj,Yj];cases e:xs[k]? with
  |none=>
   have:us[k]? = none:=by
    rw[List.getElem?_eq_none_iff]at e |-
    rw[<- r.length];exact e
   rw[this];exact ih
  |some x=>
   obtain⟨u,h1,h2⟩:=Vals.get r e;rw[h1];exact .cons h2 ih
section
variable{X:Cx}{e c:Expr}{te:TE}{ts:TO}{pos p2:Pos}
def tSt(K:W.Frag)(te:TE)(ts:TO):TE:=fun σ H Q=>te σ H fun x H1=>ts σ H1 fun o H2=>∃k,o=some k/\(k=1\/k = -1)/\∃a xs,x = .ref a/\SqL K H2 a xs/\∀p,H2 p=none->Q (.ref p) (upd H2 p (.lst (stp k xs)))
theorem uC(K:W.Frag)(he:PE X e te)(hs:PO X (some c) ts)(hK:X.K=K:=by rfl):PE X (.Subscript e (.Slice none none (some c) p2) pos) (tSt K te ts):=by
 subst hK;intro pins s σ H Q I h;refine Subscript_ (thn (he pins s σ H _ I h) fun v s1 ⟨x,H1,I1,r1,q1⟩=>?_);refine wpAny_Slice ?_;rw[evalPart_none];refine yt (yt ?_);refine thn (hs pins s1 σ H1 _ I1 q1) fun vs s3 ⟨o,H3,I3,pv,k,e0,hk,a,xs,ex,hx,q⟩=>?_;subst e0 ex;cases r1;have I4:Inv X pins σ H3 { s3 with heap:=s3.heap.push { cls:=.type "slice",data:=.fields #[.none,.none,vs] } }:=I3.kept (t':=s3.toks) fun b ob q=>Heap.get?_push_of_some _ q;obtain⟨its,r,ht,hz⟩:=I4.list hx;show wpAny (model X.prog X.w) X.A (subscriptTail e (.Slice none none (some c) p2) (.ref a) (.ref s3.heap.objs.size)) (EP X pins σ Q) X.xe { s3 with heap:=s3.heap.push { cls:=.type "slice",data:=.fields #[.none,.none,vs] } };refine tail_any (ops:=[.ref a,.ref s3.heap.objs.size]) ht.isList.typeIs slot_list_getitem.lookup ?_ (by with_unfolding_all rfl);refine wpAny_getItem_list_slice ht.isList (Heap.IsSliceOf.new ..) .none .none pv (by rcases hk with rfl|rfl <;> simp) ?_ (by rw[yp];have:=r.length;lia);refine⟨.ref _,_,I4.laid (t':=s3.toks) (o:=.lst (stp k xs)) (fun b ob q=>Heap.get?_push_of_some _ q) (z5 _) ?_,rfl,q _ (I4.hok.fresh (z5 _))⟩;refine⟨xx (BM hk xs) hz,_,0,AT r,?_⟩;have e1:slicePick its.toArray none none (some k)=((zR k xs.length).filterMap fun i=>its[i]?).toArray:=by
  unfold slicePick zR;rw[yp,r.length];simp only[List.getElem?_toArray]
 rw[e1];exact Heap.get?_push_size _ rfl
end
end L2
namespace L2
open PySem PySem.Spec PyProof.Rows
section
variable{X:Cx}
def DH:List V->Hp->VK->Prop
 | [.ref p],H,Q=>∃kvs:List (Key × V),H p=some (.dK kvs)/\Q (.int kvs.length) H
 |_,_,_=>False
theorem CY:CallR X (.builtin "len") DH:=by
 intro pins s σ H xs us Q I r h;unfold DH at h;split at h
 ·rename_i p
  obtain⟨kvs,hp,q⟩:=h;obtain⟨u,rfl,rx⟩:=eS r;cases rx;obtain⟨z,lo,vs,rel,dd⟩:=AV I.hok hp;have hn:=ju;have hl:=rel.length;exact PySem.call_len_dict lo dd (by omega) ⟨.int kvs.length,H,I.tok _,⟨s.toks+1,by rw[hl]⟩,q⟩
 ·exact h.elim
end
end L2
namespace L2
open PySem PyProof.Rows
def DfN(K:W.Frag)(mg:Str->Option Value)(x:Str)(st:Stmt):Prop:=∃f fd,mg x=some (.ref f)/\Fun K x x st f fd
def DfM(K:W.Frag)(C:Addr)(m q:Str)(st:Stmt):Prop:=∃f fd,AQ K C m f/\Fun K m q st f fd
def Fo(P:Program)(w:World)(K:W.Frag)(mg:Str->Option Value)(base:Heap)(x:Str)(k:Nat)(sp:Sp):Prop:=
 ∃f fd ps,mg x=some (.ref f)/\ZJ K (.ref f)=true/\Binds K fd ps []/\hV P w K mg base (XE P w) k f fd ps sp
def Mo(P:Program)(w:World)(K:W.Frag)(mg:Str->Option Value)(base:Heap)(C:Addr)(m:Str)(k:Nat)(sp:Sp):Prop:=
 ∃f fd ps,AQ K C m f/\Binds K fd ps []/\hV P w K mg base (XE P w) k f fd ps sp
def MkC(K:W.Frag)(C:Addr):Prop:=PySem.W.makesIn K C=true/\ZJ K (.ref C)=true
section
variable{P:Program}{w:World}{K:W.Frag}{mg:Str->Option Value}{base:Heap}{x m qual:Str}{st:Stmt}{C:Addr}{N:List Str}{n k:Nat}{sp:Sp}
def fT(x qual:Str)(st:Stmt)(ps:List Str):Prop:=∀(kV doc pm:Value) (an:Option Addr) (cdv ct:Value) (us:List Value),us.length=ps.length->bindArgs (Yx x qual (aB st) (au st) (ae st) .none kV doc pm an cdv ct) ⟨us,[]⟩=pure (ps.zip us)
def Eb(P:Program)(w:World)(K:W.Frag)(mg:Str->Option Value)(base:Heap)(N:List Str)(qual:Str)(st:Stmt)(k:Nat)(sp:Sp):Prop:=
 ∀(f:Addr) (cdv:Value) (A:Around) (outer:List Env) (s:Shared) (H:Hp) (vs:List V) (Q:VK) (E:XK),N.Nodup->(A.deeper (envOfC qual (ae st) s.heap.objs.size f cdv)).units+100<cLine->Room k (A.deeper (envOfC qual (ae st) s.heap.objs.size f cdv))->sp vs H Q E ->
  NoT H/\∃t,PSs (cL (XE P w) P w K mg base N qual (ae st) f cdv A outer s H (gcE H E)) (au st) t/\t { nx:=fun _ H'=>∃G,Gc H G H'/\Q .non G,rt:=fun v H'=>∃G,Gc H G H'/\Q v G } (eZ N vs) H
def DZ(P:Program)(w:World)(K:W.Frag)(mg:Str->Option Value)(base:Heap)(N:List Str)(qual:Str)(st:Stmt)(k:Nat)(sp:Sp):Prop:=
 ∀(f:Addr) (cdv:Value) (A:Around) (outer:List Env) (s:Shared) (H:Hp) (vs:List V) (Q:VK) (E:XK),N.Nodup->(A.deeper (envOfC qual (ae st) s.heap.objs.size f cdv)).units+100<cLine->Room k (A.deeper (envOfC qual (ae st) s.heap.objs.size f cdv))->sp vs H Q E ->
  ∃t,PSs (cL (XE P w) P w K mg base N qual (ae st) f cdv A outer s H E) (au st) t/\t { nx:=fun _ H'=>Q .non H',rt:=Q } (eZ N vs) H
theorem DfN.okG(F:DfN K mg x st)(N:List Str)(n:Nat)(S:bf N (N.take n) (ae st))(b:fT x x st (N.take n))(len:∀vs H Q E,sp vs H Q E->vs.length=(N.take n).length)
 (h:Eb P w K mg base N x st k sp):Fo P w K mg base x (k+1) sp:=by
 obtain⟨f,fd,m,F⟩:=F;exact⟨f,fd,_,m,F.kp,F.binds b,F.okG S len fun cdv A outer s H vs Q E hr hs=>h f cdv A outer s H vs Q E S.nd (cv hr) hr hs⟩
theorem DfN.okX(F:DfN K mg x st)(N:List Str)(n:Nat)(S:bf N (N.take n) (ae st))(b:fT x x st (N.take n))(len:∀vs H Q E,sp vs H Q E->vs.length=(N.take n).length)
 (h:DZ P w K mg base N x st k sp):Fo P w K mg base x (k+1) sp:=by
 obtain⟨f,fd,m,F⟩:=F;exact⟨f,fd,_,m,F.kp,F.binds b,F.okX S len fun cdv A outer s H vs Q E hr hs=>h f cdv A outer s H vs Q E S.nd (cv hr) hr hs⟩
theorem DfM.okG(F:DfM K C m qual st)(N:List Str)(n:Nat)(S:bf N (N.take n) (ae st))(b:fT m qual st (N.take n))(len:∀vs H Q E,sp vs H Q E->vs.length=(N.take n).length)
 (h:Eb P w K mg base N qual st k sp):Mo P w K mg base C m (k+1) sp:=by
 obtain⟨f,fd,m,F⟩:=F;exact⟨f,fd,_,m,F.binds b,F.okG S len fun cdv A outer s H vs Q E hr hs=>h f cdv A outer s H vs Q E S.nd (cv hr) hr hs⟩
theorem DfM.okX(F:DfM K C m qual st)(N:List Str)(n:Nat)(S:bf N (N.take n) (ae st))(b:fT m qual st (N.take n))(len:∀vs H Q E,sp vs H Q E->vs.length=(N.take n).length)
 (h:DZ P w K mg base N qual st k sp):Mo P w K mg base C m (k+1) sp:=by
 obtain⟨f,fd,m,F⟩:=F;exact⟨f,fd,_,m,F.binds b,F.okX S len fun cdv A outer s H vs Q E hr hs=>h f cdv A outer s H vs Q E S.nd (cv hr) hr hs⟩
end
section
variable{X:Cx}{k:Nat}{C:Addr}{sp:Sp}{E:XKs}{x m:Str}{p pos apos:Pos}{e o:Expr}{es:List Expr}{ta:TE}{t:TA}
theorem Ht(F:Fo X.prog X.w X.K X.mg X.base x k sp)(hr:Room k X.A)(hg:Gl X x)(hx:bO (XE X.prog X.w) X E)
 (ha:PA X (e::es) t) (hdb:(x==("__debug__":Str))=false:=by decide) (he:starEach (e::es) X.env=(false,eval e X.env)::starEach es X.env:=by rfl) (hpl:(backTo pos (starEach es X.env)).any (·.1)=false:=by rfl) :
 PE X (.Call (.Name x p) (e::es) [] pos) (qR sp [] E t):=by
 obtain⟨f,fd,ps,m,kp,b,F⟩:=F;exact Bo F hr hg m kp b .nil hx ha hdb he hpl
theorem bI{pl:Sem Bool}(he:PE X o ta)(c:Cls X.K C)(F:Mo X.prog X.w X.K X.mg X.base C m k sp)(hr:Room k X.A)(hx:bO (XE X.prog X.w) X E)(ha:PA X (e::es) t)
 (hst:starEach (e::es) X.env=(false,eval e X.env)::starEach es X.env:=by rfl) (hpl:(backTo pos (starEach es X.env)).any (·.1)=false:=by rfl)
 (ht:eval (.Call (.Attribute o m apos) (e::es) [] pos) X.env=(do
  let ov <- eval o X.env
  standAt apos.atName
  let (f,first) <- holding [ov] (getMethod ov m pl)
  callWith pos f first (backTo pos (starEach (e::es) X.env)) (backToKw pos (YM [] X.env))):=by rfl) :
 PE X (.Call (.Attribute o m apos) (e::es) [] pos) (nR C m sp [] E ta t):=by
 obtain⟨f,fd,ps,mm,b,F⟩:=F;exact Bs he c mm F hr b .nil hx ha hst hpl ht
theorem gz{pl:Sem Bool}(he:PE X o ta)(c:Cls X.K C)(F:Mo X.prog X.w X.K X.mg X.base C m k sp)(hr:Room k X.A)(hx:bO (XE X.prog X.w) X E)
 (ht:eval (.Call (.Attribute o m apos) [] [] pos) X.env=(do
  let ov <- eval o X.env
  standAt apos.atName
  let (f,first) <- holding [ov] (getMethod ov m pl)
  callWith pos f first (backTo pos (starEach [] X.env)) (backToKw pos (YM [] X.env))):=by rfl) :
 PE X (.Call (.Attribute o m apos) [] [] pos) (nR C m sp [] E ta kH):=by
 obtain⟨f,fd,ps,mm,b,F⟩:=F;exact yA he c mm F hr b .nil hx ht
theorem D4(M:MkC X.K C)(F:Mo X.prog X.w X.K X.mg X.base C "__init__" k sp)(hr:Room (k+1) X.A)(hg:Gl X x)(hm:X.mg x=some (.ref C))(hx:bO (XE X.prog X.w) X E)
 (ha:PA X (e::es) t) (hdb:(x==("__debug__":Str))=false:=by decide) (he:starEach (e::es) X.env=(false,eval e X.env)::starEach es X.env:=by rfl) (hpl:(backTo pos (starEach es X.env)).any (·.1)=false:=by rfl) :
 PE X (.Call (.Name x p) (e::es) [] pos) (nM C sp [] E t):=by
 obtain⟨f,fd,ps,mm,b,F⟩:=F;exact A4 ⟨M.1,mm.at_,mm.fn,M.2⟩ F hr hg hm b .nil hx ha hdb he hpl
theorem qW(M:MkC X.K C)(F:Mo X.prog X.w X.K X.mg X.base C "__init__" k sp)(hr:Room (k+1) X.A)(hg:Gl X x)(hm:X.mg x=some (.ref C))(hx:bO (XE X.prog X.w) X E)
 (hdb:(x==("__debug__":Str))=false:=by decide):PE X (.Call (.Name x p) [] [] pos) (nM C sp [] E kH):=by
 obtain⟨f,fd,ps,mm,b,F⟩:=F;exact xN ⟨M.1,mm.at_,mm.fn,M.2⟩ F hr hg hm b .nil hx hdb
theorem GR{np cpos pos:Pos}(O:∀f,vj X.K (.ref C) "__init__" = some (some (.ref f))->jw X.K C f=true)(F:Mo X.prog X.w X.K X.mg X.base C "__init__" k sp)(hr:Room (k+1) X.A)(hp:bO (XE X.prog X.w) X E)(hx:rg X E)
 (hc:X.calm=true) (hg:Gl X x) (hm:X.mg x=some (.ref C)) (ha:PA X (e::es) t) (hex:X.ex=[]:=by rfl) (hdb:(x==("__debug__":Str))=false:=by decide)
 (he:starEach (e::es) X.env=(false,eval e X.env)::starEach es X.env:=by rfl) (hpl:(backTo cpos (starEach es X.env)).any (·.1)=false:=by rfl) :
 PS X (.Raise (some (.Call (.Name x np) (e::es) [] cpos)) none pos) (mL C sp [] E t):=by
 obtain⟨f,fd,ps,mm,b,F⟩:=F;exact xR (O f mm.at_) mm.fn F hr b .nil hp hx hc hg hm ha hex hdb he hpl
end
section
variable{X:Cx}{k j i:Nat}{C:Addr}{sp:Sp}{E:XKs}{x m:Str}{p pos pos' apos:Pos}{e o a b:Expr}{es:List Expr}{ta tb te:TE}{t:TA}
theorem aI(F:Fo X.prog X.w X.K X.mg X.base x k sp)(hr:Room j X.A)(hx:bO (XE X.prog X.w) X E)(ha:PA X (e::es) t)(hk:k<=j:=by decide)(hg:Gl X x:=by rfl)(hdb:(x==("__debug__":Str))=false:=by decide)(he:starEach (e::es) X.env=(false,eval e X.env)::starEach es X.env:=by rfl)(hpl:(backTo pos (starEach es X.env)).any (·.1)=false:=by rfl):PE X (.Call (.Name x p) (e::es) [] pos) (qR sp [] E t):=Ht F (hr.mono hk) hg hx ha hdb he hpl
theorem aT(i:Nat){e:Expr}(hN:X.N.Nodup)(he:PE X e te)(hi:X.N[i]? = some x:=by rfl)(hx:Loc X.env.scope x:=by first|exact Or.inl rfl|exact Or.inr rfl)(hs:swapsWith e (some (.Name x pos')) pos.line X.env=pure false:=by rfl)(hf:X.fn x=true\/X.env.scope.names.lookup x=some .local:=by first|exact .inl rfl|exact .inr rfl|assumption):PS X (.Assign [.Name x pos'] e pos) (vA te (iq i)):=EU hN hi hx he hs hf
theorem aA(K:W.Frag)(ha:PE X a ta)(hb:PE X b tb)(hs:qX b:=by exact fun _ _=>rfl)(hK:X.K=K:=by rfl):PE X (.Subscript a b pos) (tOp (gIx K) ta tb):=HA (CV K hK) ha hb hs
theorem aS{op:CmpOp}{r:R2}(ho:OpR X (uK op) r)(ha:PE X a ta)(hb:PE X b tb)(hm:Z0 op b=false:=by exact dY _):PT X (.Compare a [op] [b] pos) (lT (tOp r ta tb)):=jx ho ha hb hm
theorem fa1{e0:Expr}{t0:TE}(h0:PE X e0 t0)(n0:bM e0=true:=by rfl):PA X [e0] (cx t0 kH):=FA.pa (aZ h0 cn n0)
theorem fa2{e0 e1:Expr}{t0 t1:TE}(h0:PE X e0 t0)(h1:PE X e1 t1)(n0:bM e0=true:=by rfl)(n1:bM e1=true:=by rfl):PA X [e0,e1] (cx t0 (cx t1 kH)):=FA.pa (aZ h0 (aZ h1 cn n1) n0)
theorem fa3{e0 e1 e2:Expr}{t0 t1 t2:TE}(h0:PE X e0 t0)(h1:PE X e1 t1)(h2:PE X e2 t2)(n0:bM e0=true:=by rfl)(n1:bM e1=true:=by rfl)(n2:bM e2=true:=by rfl):PA X [e0,e1,e2] (cx t0 (cx t1 (cx t2 kH))):=FA.pa (aZ h0 (aZ h1 (aZ h2 cn n2) n1) n0)
theorem fa4{e0 e1 e2 e3:Expr}{t0 t1 t2 t3:TE}(h0:PE X e0 t0)(h1:PE X e1 t1)(h2:PE X e2 t2)(h3:PE X e3 t3)(n0:bM e0=true:=by rfl)(n1:bM e1=true:=by rfl)(n2:bM e2=true:=by rfl)(n3:bM e3=true:=by rfl):PA X [e0,e1,e2,e3] (cx t0 (cx t1 (cx t2 (cx t3 kH)))):=FA.pa (aZ h0 (aZ h1 (aZ h2 (aZ h3 cn n3) n2) n1) n0)
theorem fa5{e0 e1 e2 e3 e4:Expr}{t0 t1 t2 t3 t4:TE}(h0:PE X e0 t0)(h1:PE X e1 t1)(h2:PE X e2 t2)(h3:PE X e3 t3)(h4:PE X e4 t4)(n0:bM e0=true:=by rfl)(n1:bM e1=true:=by rfl)(n2:bM e2=true:=by rfl)(n3:bM e3=true:=by rfl)(n4:bM e4=true:=by rfl):PA X [e0,e1,e2,e3,e4] (cx t0 (cx t1 (cx t2 (cx t3 (cx t4 kH))))):=FA.pa (aZ h0 (aZ h1 (aZ h2 (aZ h3 (aZ h4 cn n4) n3) n2) n1) n0)
theorem fa6{e0 e1 e2 e3 e4 e5:Expr}{t0 t1 t2 t3 t4 t5:TE}(h0:PE X e0 t0)(h1:PE X e1 t1)(h2:PE X e2 t2)(h3:PE X e3 t3)(h4:PE X e4 t4)(h5:PE X e5 t5)(n0:bM e0=true:=by rfl)(n1:bM e1=true:=by rfl)(n2:bM e2=true:=by rfl)(n3:bM e3=true:=by rfl)(n4:bM e4=true:=by rfl)(n5:bM e5=true:=by rfl):PA X [e0,e1,e2,e3,e4,e5] (cx t0 (cx t1 (cx t2 (cx t3 (cx t4 (cx t5 kH)))))):=FA.pa (aZ h0 (aZ h1 (aZ h2 (aZ h3 (aZ h4 (aZ h5 cn n5) n4) n3) n2) n1) n0)
theorem bN{E:XKs}{msg:Str}{j1}{p1 np cpos:Pos}(O:PySem.W.excIn X.K C oC "ValueError.__new__" = true)(hm:X.mg x=some (.ref C))(hx:uB X E)(hc:X.calm=true:=by rfl)(hg:Gl X x:=by rfl)(hdb:(x==("__debug__":Str))=false:=by decide):PS X (.Raise (some (.Call (.Name x np) [.Constant (.str msg) j1 p1] [] cpos)) none pos) (vT C E (cx (tC (.str msg)) kH)):=Az O PySem.F.excBase_ValueError hc hg hm hx (fa1 AN) hdb
end
def BdG(P:Program)(w:World)(K:W.Frag)(mg:Str->Option Value)(base:Heap)(N:List Str)(qual:Str)(st:Stmt)(k:Nat)(vs:List V)(r:Hp->VK->XK->Prop):Prop:=∀(fA:Addr) (cdv:Value) (A:Around) (outer:List Env) (s:Shared) (H:Hp) (Q:VK) (E:XK),N.Nodup->(A.deeper (envOfC qual (ae st) s.heap.objs.size fA cdv)).units+100<cLine->Room k (A.deeper (envOfC qual (ae st) s.heap.objs.size fA cdv))->r H Q E->NoT H/\∃t,PSs (cL (XE P w) P w K mg base N qual (ae st) fA cdv A outer s H (gcE H E)) (au st) t/\t { nx:=fun _ H'=>∃G,Gc H G H'/\Q .non G,rt:=fun v H'=>∃G,Gc H G H'/\Q v G } (eZ N vs) H
def BdX(P:Program)(w:World)(K:W.Frag)(mg:Str->Option Value)(base:Heap)(N:List Str)(qual:Str)(st:Stmt)(k:Nat)(vs:List V)(r:Hp->VK->XK->Prop):Prop:=∀(fA:Addr) (cdv:Value) (A:Around) (outer:List Env) (s:Shared) (H:Hp) (Q:VK) (E:XK),N.Nodup->(A.deeper (envOfC qual (ae st) s.heap.objs.size fA cdv)).units+100<cLine->Room k (A.deeper (envOfC qual (ae st) s.heap.objs.size fA cdv))->r H Q E->∃t,PSs (cL (XE P w) P w K mg base N qual (ae st) fA cdv A outer s H E) (au st) t/\t { nx:=fun _ H'=>Q .non H',rt:=Q } (eZ N vs) H
section
variable{P:Program}{w:World}{K:W.Frag}{mg:Str->Option Value}{base:Heap}{x m qual:Str}{st:Stmt}{C:Addr}{k:Nat}
theorem DfN.g1{f:V->Hp->VK->XK->Prop}(F:DfN K mg x st)(N:List Str)(h:∀x0,BdG P w K mg base N x st k [x0] (f x0))(S:bf N (N.take 1) (ae st):=by exact⟨rfl,rfl,rfl,by decide +kernel,rfl,by decide +kernel,by decide +kernel⟩)(b:fT x x st (N.take 1):=by intro _ _ _ _ _ _ us hl;obtain⟨_,e⟩:=ex1 hl;subst e;rfl)(l:(N.take 1).length=1:=by rfl):Fo P w K mg base x (k+1) (sp1 f):=
 F.okG N 1 S b (fun vs H Q E h=>(sp1.len h).trans l.symm) fun fA cdv A outer s H vs Q E ND HU hr hs=>by obtain⟨x0,rfl,hs⟩:=sp1.inv hs;exact h x0 fA cdv A outer s H Q E ND HU hr hs
theorem DfN.x1{f:V->Hp->VK->XK->Prop}(F:DfN K mg x st)(N:List Str)(h:∀x0,BdX P w K mg base N x st k [x0] (f x0))(S:bf N (N.take 1) (ae st):=by exact⟨rfl,rfl,rfl,by decide +kernel,rfl,by decide +kernel,by decide +kernel⟩)(b:fT x x st (N.take 1):=by intro _ _ _ _ _ _ us hl;obtain⟨_,e⟩:=ex1 hl;subst e;rfl)(l:(N.take 1).length=1:=by rfl):Fo P w K mg base x (k+1) (sp1 f):=
 F.okX N 1 S b (fun vs H Q E h=>(sp1.len h).trans l.symm) fun fA cdv A outer s H vs Q E ND HU hr hs=>by obtain⟨x0,rfl,hs⟩:=sp1.inv hs;exact h x0 fA cdv A outer s H Q E ND HU hr hs
theorem DfM.g1{f:V->Hp->VK->XK->Prop}(F:DfM K C m qual st)(N:List Str)(h:∀x0,BdG P w K mg base N qual st k [x0] (f x0))(S:bf N (N.take 1) (ae st):=by exact⟨rfl,rfl,rfl,by decide +kernel,rfl,by decide +kernel,by decide +kernel⟩)(b:fT m qual st (N.take 1):=by intro _ _ _ _ _ _ us hl;obtain⟨_,e⟩:=ex1 hl;subst e;rfl)(l:(N.take 1).length=1:=by rfl):Mo P w K mg base C m (k+1) (sp1 f):=
 F.okG N 1 S b (fun vs H Q E h=>(sp1.len h).trans l.symm) fun fA cdv A outer s H vs Q E ND HU hr hs=>by obtain⟨x0,rfl,hs⟩:=sp1.inv hs;exact h x0 fA cdv A outer s H Q E ND HU hr hs
theorem DfM.x1{f:V->Hp->VK->XK->Prop}(F:DfM K C m qual st)(N:List Str)(h:∀x0,BdX P w K mg base N qual st k [x0] (f x0))(S:bf N (N.take 1) (ae st):=by exact⟨rfl,rfl,rfl,by decide +kernel,rfl,by decide +kernel,by decide +kernel⟩)(b:fT m qual st (N.take 1):=by intro _ _ _ _ _ _ us hl;obtain⟨_,e⟩:=ex1 hl;subst e;rfl)(l:(N.take 1).length=1:=by rfl):Mo P w K mg base C m (k+1) (sp1 f):=
 F.okX N 1 S b (fun vs H Q E h=>(sp1.len h).trans l.symm) fun fA cdv A outer s H vs Q E ND HU hr hs=>by obtain⟨x0,rfl,hs⟩:=sp1.inv hs;exact h x0 fA cdv A outer s H Q E ND HU hr hs
theorem DfN.g2{f:V->V->Hp->VK->XK->Prop}(F:DfN K mg x st)(N:List Str)(h:∀x0 x1,BdG P w K mg base N x st k [x0,x1] (f x0 x1))(S:bf N (N.take 2) (ae st):=by exact⟨rfl,rfl,rfl,by decide +kernel,rfl,by decide +kernel,by decide +kernel⟩)(b:fT x x st (N.take 2):=by intro _ _ _ _ _ _ us hl;obtain⟨_,_,e⟩:=ex2 hl;subst e;rfl)(l:(N.take 2).length=2:=by rfl):Fo P w K mg base x (k+1) (sp2 f):=
 F.okG N 2 S b (fun vs H Q E h=>(sp2.len h).trans l.symm) fun fA cdv A outer s H vs Q E ND HU hr hs=>by obtain⟨x0,x1,rfl,hs⟩:=sp2.inv hs;exact h x0 x1 fA cdv A outer s H Q E ND HU hr hs
theorem DfN.x2{f:V->V->Hp->VK->XK->Prop}(F:DfN K mg x st)(N:List Str)(h:∀x0 x1,BdX P w K mg base N x st k [x0,x1] (f x0 x1))(S:bf N (N.take 2) (ae st):=by exact⟨rfl,rfl,rfl,by decide +kernel,rfl,by decide +kernel,by decide +kernel⟩)(b:fT x x st (N.take 2):=by intro _ _ _ _ _ _ us hl;obtain⟨_,_,e⟩:=ex2 hl;subst e;rfl)(l:(N.take 2).length=2:=by rfl):Fo P w K mg base x (k+1) (sp2 f):=
 F.okX N 2 S b (fun vs H Q E h=>(sp2.len h).trans l.symm) fun fA cdv A outer s H vs Q E ND HU hr hs=>by obtain⟨x0,x1,rfl,hs⟩:=sp2.inv hs;exact h x0 x1 fA cdv A outer s H Q E ND HU hr hs
theorem DfM.g2{f:V->V->Hp->VK->XK->Prop}(F:DfM K C m qual st)(N:List Str)(h:∀x0 x1,BdG P w K mg base N qual st k [x0,x1] (f x0 x1))(S:bf N (N.take 2) (ae st):=by exact⟨rfl,rfl,rfl,by decide +kernel,rfl,by decide +kernel,by decide +kernel⟩)(b:fT m qual st (N.take 2):=by intro _ _ _ _ _ _ us hl;obtain⟨_,_,e⟩:=ex2 hl;subst e;rfl)(l:(N.take 2).length=2:=by rfl):Mo P w K mg base C m (k+1) (sp2 f):=
 F.okG N 2 S b (fun vs H Q E h=>(sp2.len h).trans l.symm) fun fA cdv A outer s H vs Q E ND HU hr hs=>by obtain⟨x0,x1,rfl,hs⟩:=sp2.inv hs;exact h x0 x1 fA cdv A outer s H Q E ND HU hr hs
theorem DfM.x2{f:V->V->Hp->VK->XK->Prop}(F:DfM K C m qual st)(N:List Str)(h:∀x0 x1,BdX P w K mg base N qual st k [x0,x1] (f x0 x1))(S:bf N (N.take 2) (ae st):=by exact⟨rfl,rfl,rfl,by decide +kernel,rfl,by decide +kernel,by decide +kernel⟩)(b:fT m qual st (N.take 2):=by intro _ _ _ _ _ _ us hl;obtain⟨_,_,e⟩:=ex2 hl;subst e;rfl)(l:(N.take 2).length=2:=by rfl):Mo P w K mg base C m (k+1) (sp2 f):=
 F.okX N 2 S b (fun vs H Q E h=>(sp2.len h).trans l.symm) fun fA cdv A outer s H vs Q E ND HU hr hs=>by obtain⟨x0,x1,rfl,hs⟩:=sp2.inv hs;exact h x0 x1 fA cdv A outer s H Q E ND HU hr hs
theorem DfN.g3{f:V->V->V->Hp->VK->XK->Prop}(F:DfN K mg x st)(N:List Str)(h:∀x0 x1 x2,BdG P w K mg base N x st k [x0,x1,x2] (f x0 x1 x2))(S:bf N (N.take 3) (ae st):=by exact⟨rfl,rfl,rfl,by decide +kernel,rfl,by decide +kernel,by decide +kernel⟩)(b:fT x x st (N.take 3):=by intro _ _ _ _ _ _ us hl;obtain⟨_,_,_,e⟩:=ex3 hl;subst e;rfl)(l:(N.take 3).length=3:=by rfl):Fo P w K mg base x (k+1) (sp3 f):=
 F.okG N 3 S b (fun vs H Q E h=>(sp3.len h).trans l.symm) fun fA cdv A outer s H vs Q E ND HU hr hs=>by obtain⟨x0,x1,x2,rfl,hs⟩:=sp3.inv hs;exact h x0 x1 x2 fA cdv A outer s H Q E ND HU hr hs
theorem DfN.x3{f:V->V->V->Hp->VK->XK->Prop}(F:DfN K mg x st)(N:List Str)(h:∀x0 x1 x2,BdX P w K mg base N x st k [x0,x1,x2] (f x0 x1 x2))(S:bf N (N.take 3) (ae st):=by exact⟨rfl,rfl,rfl,by decide +kernel,rfl,by decide +kernel,by decide +kernel⟩)(b:fT x x st (N.take 3):=by intro _ _ _ _ _ _ us hl;obtain⟨_,_,_,e⟩:=ex3 hl;subst e;rfl)(l:(N.take 3).length=3:=by rfl):Fo P w K mg base x (k+1) (sp3 f):=
 F.okX N 3 S b (fun vs H Q E h=>(sp3.len h).trans l.symm) fun fA cdv A outer s H vs Q E ND HU hr hs=>by obtain⟨x0,x1,x2,rfl,hs⟩:=sp3.inv hs;exact h x0 x1 x2 fA cdv A outer s H Q E ND HU hr hs
theorem DfM.g3{f:V->V->V->Hp->VK->XK->Prop}(F:DfM K C m qual st)(N:List Str)(h:∀x0 x1 x2,BdG P w K mg base N qual st k [x0,x1,x2] (f x0 x1 x2))(S:bf N (N.take 3) (ae st):=by exact⟨rfl,rfl,rfl,by decide +kernel,rfl,by decide +kernel,by decide +kernel⟩)(b:fT m qual st (N.take 3):=by intro _ _ _ _ _ _ us hl;obtain⟨_,_,_,e⟩:=ex3 hl;subst e;rfl)(l:(N.take 3).length=3:=by rfl):Mo P w K mg base C m (k+1) (sp3 f):=
 F.okG N 3 S b (fun vs H Q E h=>(sp3.len h).trans l.symm) fun fA cdv A outer s H vs Q E ND HU hr hs=>by obtain⟨x0,x1,x2,rfl,hs⟩:=sp3.inv hs;exact h x0 x1 x2 fA cdv A outer s H Q E ND HU hr hs
theorem DfM.x3{f:V->V->V->Hp->VK->XK->Prop}(F:DfM K C m qual st)(N:List Str)(h:∀x0 x1 x2,BdX P w K mg base N qual st k [x0,x1,x2] (f x0 x1 x2))(S:bf N (N.take 3) (ae st):=by exact⟨rfl,rfl,rfl,by decide +kernel,rfl,by decide +kernel,by decide +kernel⟩)(b:fT m qual st (N.take 3):=by intro _ _ _ _ _ _ us hl;obtain⟨_,_,_,e⟩:=ex3 hl;subst e;rfl)(l:(N.take 3).length=3:=by rfl):Mo P w K mg base C m (k+1) (sp3 f):=
 F.okX N 3 S b (fun vs H Q E h=>(sp3.len h).trans l.symm) fun fA cdv A outer s H vs Q E ND HU hr hs=>by obtain⟨x0,x1,x2,rfl,hs⟩:=sp3.inv hs;exact h x0 x1 x2 fA cdv A outer s H Q E ND HU hr hs
theorem DfN.g4{f:V->V->V->V->Hp->VK->XK->Prop}(F:DfN K mg x st)(N:List Str)(h:∀x0 x1 x2 x3,BdG P w K mg base N x st k [x0,x1,x2,x3] (f x0 x1 x2 x3))(S:bf N (N.take 4) (ae st):=by exact⟨rfl,rfl,rfl,by decide +kernel,rfl,by decide +kernel,by decide +kernel⟩)(b:fT x x st (N.take 4):=by intro _ _ _ _ _ _ us hl;obtain⟨_,_,_,_,e⟩:=ex4 hl;subst e;rfl)(l:(N.take 4).length=4:=by rfl):Fo P w K mg base x (k+1) (sp4 f):=
 F.okG N 4 S b (fun vs H Q E h=>(sp4.len h).trans l.symm) fun fA cdv A outer s H vs Q E ND HU hr hs=>by obtain⟨x0,x1,x2,x3,rfl,hs⟩:=sp4.inv hs;exact h x0 x1 x2 x3 fA cdv A outer s H Q E ND HU hr hs
theorem DfN.x4{f:V->V->V->V->Hp->VK->XK->Prop}(F:DfN K mg x st)(N:List Str)(h:∀x0 x1 x2 x3,BdX P w K mg base N x st k [x0,x1,x2,x3] (f x0 x1 x2 x3))(S:bf N (N.take 4) (ae st):=by exact⟨rfl,rfl,rfl,by decide +kernel,rfl,by decide +kernel,by decide +kernel⟩)(b:fT x x st (N.take 4):=by intro _ _ _ _ _ _ us hl;obtain⟨_,_,_,_,e⟩:=ex4 hl;subst e;rfl)(l:(N.take 4).length=4:=by rfl):Fo P w K mg base x (k+1) (sp4 f):=
 F.okX N 4 S b (fun vs H Q E h=>(sp4.len h).trans l.symm) fun fA cdv A outer s H vs Q E ND HU hr hs=>by obtain⟨x0,x1,x2,x3,rfl,hs⟩:=sp4.inv hs;exact h x0 x1 x2 x3 fA cdv A outer s H Q E ND HU hr hs
theorem DfM.x4{f:V->V->V->V->Hp->VK->XK->Prop}(F:DfM K C m qual st)(N:List Str)(h:∀x0 x1 x2 x3,BdX P w K mg base N qual st k [x0,x1,x2,x3] (f x0 x1 x2 x3))(S:bf N (N.take 4) (ae st):=by exact⟨rfl,rfl,rfl,by decide +kernel,rfl,by decide +kernel,by decide +kernel⟩)(b:fT m qual st (N.take 4):=by intro _ _ _ _ _ _ us hl;obtain⟨_,_,_,_,e⟩:=ex4 hl;subst e;rfl)(l:(N.take 4).length=4:=by rfl):Mo P w K mg base C m (k+1) (sp4 f):=
 F.okX N 4 S b (fun vs H Q E h=>(sp4.len h).trans l.symm) fun fA cdv A outer s H vs Q E ND HU hr hs=>by obtain⟨x0,x1,x2,x3,rfl,hs⟩:=sp4.inv hs;exact h x0 x1 x2 x3 fA cdv A outer s H Q E ND HU hr hs
theorem DfN.x5{f:V->V->V->V->V->Hp->VK->XK->Prop}(F:DfN K mg x st)(N:List Str)(h:∀x0 x1 x2 x3 x4,BdX P w K mg base N x st k [x0,x1,x2,x3,x4] (f x0 x1 x2 x3 x4))(S:bf N (N.take 5) (ae st):=by exact⟨rfl,rfl,rfl,by decide +kernel,rfl,by decide +kernel,by decide +kernel⟩)(b:fT x x st (N.take 5):=by intro _ _ _ _ _ _ us hl;obtain⟨_,_,_,_,_,e⟩:=ex5 hl;subst e;rfl)(l:(N.take 5).length=5:=by rfl):Fo P w K mg base x (k+1) (sp5 f):=
 F.okX N 5 S b (fun vs H Q E h=>(sp5.len h).trans l.symm) fun fA cdv A outer s H vs Q E ND HU hr hs=>by obtain⟨x0,x1,x2,x3,x4,rfl,hs⟩:=sp5.inv hs;exact h x0 x1 x2 x3 x4 fA cdv A outer s H Q E ND HU hr hs
theorem DfM.x5{f:V->V->V->V->V->Hp->VK->XK->Prop}(F:DfM K C m qual st)(N:List Str)(h:∀x0 x1 x2 x3 x4,BdX P w K mg base N qual st k [x0,x1,x2,x3,x4] (f x0 x1 x2 x3 x4))(S:bf N (N.take 5) (ae st):=by exact⟨rfl,rfl,rfl,by decide +kernel,rfl,by decide +kernel,by decide +kernel⟩)(b:fT m qual st (N.take 5):=by intro _ _ _ _ _ _ us hl;obtain⟨_,_,_,_,_,e⟩:=ex5 hl;subst e;rfl)(l:(N.take 5).length=5:=by rfl):Mo P w K mg base C m (k+1) (sp5 f):=
 F.okX N 5 S b (fun vs H Q E h=>(sp5.len h).trans l.symm) fun fA cdv A outer s H vs Q E ND HU hr hs=>by obtain⟨x0,x1,x2,x3,x4,rfl,hs⟩:=sp5.inv hs;exact h x0 x1 x2 x3 x4 fA cdv A outer s H Q E ND HU hr hs
theorem DfN.x6{f:V->V->V->V->V->V->Hp->VK->XK->Prop}(F:DfN K mg x st)(N:List Str)(h:∀x0 x1 x2 x3 x4 x5,BdX P w K mg base N x st k [x0,x1,x2,x3,x4,x5] (f x0 x1 x2 x3 x4 x5))(S:bf N (N.take 6) (ae st):=by exact⟨rfl,rfl,rfl,by decide +kernel,rfl,by decide +kernel,by decide +kernel⟩)(b:fT x x st (N.take 6):=by intro _ _ _ _ _ _ us hl;obtain⟨_,_,_,_,_,_,e⟩:=ex6 hl;subst e;rfl)(l:(N.take 6).length=6:=by rfl):Fo P w K mg base x (k+1) (sp6 f):=
 F.okX N 6 S b (fun vs H Q E h=>(sp6.len h).trans l.symm) fun fA cdv A outer s H vs Q E ND HU hr hs=>by obtain⟨x0,x1,x2,x3,x4,x5,rfl,hs⟩:=sp6.inv hs;exact h x0 x1 x2 x3 x4 x5 fA cdv A outer s H Q E ND HU hr hs
end
end L2
namespace K24
open PySem L2
abbrev nJ:List Str:=["_law_script","_law_accounts_here","_law_currencies_here","_law_held","_law_every","_law_seals","_law_k","_law_before","_law_told","_law_now","_law_turn","_law_one"]
abbrev cw:List Str:=["_law_script","_law_names_here","_law_currencies_here","_law_cell","_law_kinds","_law_tops","_law_accounts_here","_law_k","_law_some","_law_more","_law_upper","_law_until","_law_currency"]
abbrev fG:List Str:=["_law_chart_here","_law_accounts_here","_law_cell","_law_day_here","_law_path","_law_some"]
structure Adr where
 eX:Addr
 bt:Addr
 pK:Addr
 pY:Addr
 gK:Addr
 nE:Addr
 cz:Addr
 pH:Addr
 ft:Addr
 lL:Addr
 wK:Addr
 fB:Addr
 mY:Addr
 sJ:Addr
 cp:Addr
 b_:Addr
 gX:Addr
 gY:Addr
 pi:Addr
 cg:Addr
 aE:Addr
 aO:Addr
 a8:Addr
 aP:Addr
 dO:Addr
 ka:Addr
abbrev zzK(K:W.Frag)(a b:Addr)(c:Bool):Prop:=ZK K (.ref a) (.ref b)=some c
abbrev zzX(K:W.Frag)(a:Addr):Prop:=PySem.W.excIn K a [.type "ValueError",.type "Exception",.type "BaseException",.type "object"] "ValueError.__new__" = true
structure Txt(K:W.Frag)(mg:Str->Option Value)(a:Adr):Prop where
 uV:DfN K mg "is_whole" (top 21)
 vZ:DfN K mg "is_among" (top 22)
 sA:DfN K mg "signs_lie" (top 23)
 yM:DfN K mg "is_name" (top 24)
 xW:DfN K mg "is_note" (top 25)
 sP:DfN K mg "is_amount" (top 27)
 oY:DfN K mg "is_currency" (top 28)
 Bx:DfN K mg "is_row" (top 30)
 r8:DfN K mg "need_form" (top 31)
 om:DfN K mg "need_account" (top 32)
 Ap:DfN K mg "turned" (top 33)
 yx:DfN K mg "sums_of" (top 34)
 ua:DfN K mg "need_even" (top 35)
 tL:DfN K mg "need_rows" (top 36)
 y8:DfN K mg "is_day" (top 39)
 vW:DfN K mg "is_month" (top 40)
 sq:DfN K mg "leap_days" (top 41)
 tR:DfN K mg "first_day" (top 42)
 vo:DfN K mg "last_day" (top 43)
 uE:DfN K mg "month_of" (top 44)
 sy:DfN K mg "are_names" (top 46)
 yu:DfN K mg "is_path" (top 47)
 vc:DfN K mg "names_of" (top 48)
 C5:DfN K mg "above" (top 49)
 yg:DfN K mg "rows_of" (top 51)
 lh:DfN K mg "bookings_up_to" (top 52)
 uQ:DfN K mg "balances" (top 53)
 Fx:DfN K mg "seal" (top 55)
 C2:DfN K mg "holds" (top 56)
 qT:DfN K mg "carry_rows" (top 59)
 oJ:DfN K mg "need_keeper" (top 60)
 jK:DfN K mg "need_currencies" (top 61)
 CT:DfN K mg "carry" (top 62)
 B7:DfN K mg "close" (top 63)
 iD:DfN K mg "need_note_and_gate" (top 69)
 El:DfN K mg "book" (top 70)
 F5:DfN K mg "undo" (top 71)
 oj:DfN K mg "_law_cell_at" (top 76)
 qD:DfN K mg "_law_names" (top 78)
 kr:DfN K mg "_law_currencies" (top 79)
 qY:DfN K mg "_law_start" (top 80)
 oq:DfN K mg "_law_lengths" (top 81)
 kF:DfN K mg "_law_month_ends" (top 82)
 qm:DfN K mg "_law_month" (top 83)
 rS:DfN K mg "_law_base" (top 84)
 vE:DfN K mg "_law_day" (top 85)
 mn:DfN K mg "_law_accounts" aV
 rJ:DfN K mg "_law_chart" (top 87)
 nP:DfN K mg "_law_is_open" (top 88)
 n9:DfN K mg "_law_rows_by" (top 89)
 mw:DfN K mg "_law_balances" (top 90)
 rL:DfN K mg "_law_tried" (top 91)
 n6:DfN K mg "_law_changed" (top 92)
 oE:DfN K mg "_law_sealed" (top 93)
 qC:DfN K mg "_law_fresh" (top 94)
 GH:∃fd,Fun K "law" "law" de a.eX fd
 k8:DfM K a.cg "__init__" "Seals.__init__" (bg (top 57) 0)
 sN:DfM K a.cg "put" "Seals.put" (bg (top 57) 1)
 o0:DfM K a.cg "every" "Seals.every" (bg (top 57) 2)
 jv:DfM K a.aE "__init__" "Account.__init__" (bg (top 66) 0)
 jd:DfM K a.aE "stands_on" "Account.stands_on" (bg (top 66) 1)
 ig:DfM K a.aE "stands_later" "Account.stands_later" (bg (top 66) 2)
 lC:DfM K a.aO "__init__" "Chart.__init__" (bg (top 67) 0)
 lV:DfM K a.aO "add_top" "Chart.add_top" (bg (top 67) 1)
 sQ:DfM K a.aO "add" "Chart.add" dL
 qg:DfM K a.aO "shut" "Chart.shut" (bg (top 67) 3)
 t7:DfM K a.aO "has" "Chart.has" (bg (top 67) 4)
 mE:DfM K a.aO "account" "Chart.account" (bg (top 67) 5)
 lY:DfM K a.aO "kind_of" "Chart.kind_of" (bg (top 67) 6)
 i_:DfM K a.aO "currency_of" "Chart.currency_of" (bg (top 67) 7)
 l9:DfM K a.aO "is_open" "Chart.is_open" (bg (top 67) 9)
 yV:DfM K a.aO "beneath" "Chart.beneath" (bg (top 67) 10)
 lZ:DfM K a.a8 "__init__" "Gate.__init__" (bg (top 73) 0)
 o5:DfM K a.a8 "closed" "Gate.closed" (bg (top 73) 1)
 sI:DfM K a.a8 "lets" "Gate.lets" (bg (top 73) 2)
 kX:DfM K a.a8 "need_next" "Gate.need_next" (bg (top 73) 3)
 sj:DfM K a.a8 "shut" "Gate.shut" (bg (top 73) 4)
 jG:DfM K a.aP "__init__" "Journal.__init__" (bg (top 74) 0)
 oI:DfM K a.aP "put" "Journal.put" (bg (top 74) 1)
 ng:DfM K a.aP "many" "Journal.many" (bg (top 74) 2)
 j5:DfM K a.aP "booking" "Journal.booking" (bg (top 74) 3)
 lX:DfM K a.aP "every" "Journal.every" (bg (top 74) 4)
 jc:DfM K a.aP "undone_by" "Journal.undone_by" (bg (top 74) 5)
 jY:DfM K a.cp "__init__" "Uneven.__init__" (bg (top 15) 0)
 qH:mg "HouseError" = some (.ref a.bt)
 xD:mg "BadName" = some (.ref a.pK)
 xQ:mg "BadNote" = some (.ref a.pY)
 jM:mg "BadDay" = some (.ref a.gK)
 ot:mg "BadMonth" = some (.ref a.nE)
 gw:mg "BadCurrency" = some (.ref a.cz)
 k9:mg "BadPath" = some (.ref a.pH)
 pI:mg "BadKind" = some (.ref a.ft)
 rR:mg "NoAccount" = some (.ref a.lL)
 wM:mg "Twice" = some (.ref a.wK)
 gO:mg "NotOpen" = some (.ref a.fB)
 vg:mg "HasBelow" = some (.ref a.mY)
 uw:mg "BadRow" = some (.ref a.sJ)
 zO:mg "Uneven" = some (.ref a.cp)
 uo:mg "NoBooking" = some (.ref a.b_)
 BD:mg "Undone" = some (.ref a.gX)
 zS:mg "Closed" = some (.ref a.gY)
 yl:mg "NotNext" = some (.ref a.pi)
 C0:mg "Seals" = some (.ref a.cg)
 ph:mg "Account" = some (.ref a.aE)
 Dv:mg "Chart" = some (.ref a.aO)
 Er:mg "Gate" = some (.ref a.a8)
 yB:mg "Journal" = some (.ref a.aP)
 g8:Cls K a.cg
 dD:NoAttr K a.cg "told_seals"
 zE:MkC K a.cg
 a7:Cls K a.aE
 fH:NoAttr K a.aE "kind"
 fQ:NoAttr K a.aE "currency"
 eW:NoAttr K a.aE "first"
 bP:NoAttr K a.aE "until"
 eU:NoAttr K a.aE "below"
 nO:MkC K a.aE
 a_:Cls K a.aO
 bF:NoAttr K a.aO "by_path"
 zr:MkC K a.aO
 bW:Cls K a.a8
 bj:NoAttr K a.a8 "last_closed"
 Ck:MkC K a.a8
 bc:Cls K a.aP
 bn:NoAttr K a.aP "bookings"
 dF:NoAttr K a.aP "undoings"
 uz:MkC K a.aP
 gv:zzX K a.cz
 BK:cE K a.cz
 gu:qE K (.ref a.cz) (.ref a.bt)=some true
 jT:zzX K a.gK
 HE:cE K a.gK
 i9:qE K (.ref a.gK) (.ref a.bt)=some true
 p9:zzX K a.ft
 Gi:cE K a.ft
 iw:qE K (.ref a.ft) (.ref a.bt)=some true
 og:zzX K a.nE
 yQ:zzX K a.pK
 yd:zzX K a.pY
 lB:zzX K a.pH
 tY:zzX K a.sJ
 AZ:zzX K a.gY
 GO:cE K a.gY
 jg:qE K (.ref a.gY) (.ref a.bt)=some true
 vG:zzX K a.mY
 tF:zzX K a.lL
 uj:zzX K a.b_
 DS:cE K a.b_
 il:qE K (.ref a.b_) (.ref a.bt)=some true
 xB:zzX K a.pi
 gN:zzX K a.fB
 Gk:cE K a.fB
 iz:qE K (.ref a.fB) (.ref a.bt)=some true
 wY:zzX K a.wK
 BA:zzX K a.gX
 Hu:cE K a.gX
 jh:qE K (.ref a.gX) (.ref a.bt)=some true
 yY:∀f,vj K (.ref a.cp) "__init__" = some (some (.ref f))->jw K a.cp f=true
 kj:Gm K a.cp "currency"
 Hk:cE K a.cp
 jf:qE K (.ref a.cp) (.ref a.bt)=some true
 xE:mg "LENGTHS" = some (.ref a.dO)
 dO:∃(o:Obj) (its:Array Value) (n:Nat),K.lookup a.dO=some o/\o.cls = .type "tuple" /\ o.data = .seq its n/\its.size<=sizeLine/\Vals (([31,28,31,30,31,30,31,31,30,31,30,31]:List Int).map V.int) its.toList
 BV:mg "KINDS" = some (.ref a.ka)
 ka:∃(o:Obj) (its:Array Value) (n:Nat),K.lookup a.ka=some o/\o.cls = .type "tuple" /\ o.data = .seq its n/\its.size<=sizeLine/\Vals (([[104,97,118,101],[111,119,101],[111,119,110],[103,97,105,110],[99,111,115,116]]:List (List Nat)).map T) its.toList
 An:mg "all" = none
 D6:mg "any" = none
 EB:mg "bool" = none
 D0:mg "int" = none
 bD:mg "isinstance" = none
 b6:mg "len" = none
 jy:mg "list" = none
 Bg:mg "max" = none
 DT:mg "min" = none
 iQ:mg "range" = none
 sO:mg "sorted" = none
 pA:mg "str" = none
 Ec:mg "sum" = none
 ky:mg "tuple" = none
theorem uX:rF "all" = some (.builtin "all"):=by decide +kernel
theorem BI:rF "any" = some (.builtin "any"):=by decide +kernel
theorem CW:rF "bool" = some (.type "bool"):=by decide +kernel
theorem y2:rF "int" = some (.type "int"):=by decide +kernel
theorem bq:rF "isinstance" = some (.builtin "isinstance"):=by decide +kernel
theorem bA:rF "len" = some (.builtin "len"):=by decide +kernel
theorem hG:rF "list" = some (.type "list"):=by decide +kernel
theorem v3:rF "max" = some (.builtin "max"):=by decide +kernel
theorem zi:rF "min" = some (.builtin "min"):=by decide +kernel
theorem pQ:rF "sorted" = some (.builtin "sorted"):=by decide +kernel
theorem lj:rF "str" = some (.type "str"):=by decide +kernel
theorem zY:rF "sum" = some (.builtin "sum"):=by decide +kernel
theorem iy:rF "tuple" = some (.type "tuple"):=by decide +kernel
theorem gJ:bf ["_law_script","_law_names_here","_law_currencies_here","_law_cell","_law_kinds","_law_tops","_law_accounts_here","_law_k","_law_some","_law_more","_law_upper","_law_until","_law_currency"] ["_law_script"] (ae aV):=⟨rfl,rfl,rfl,by decide +kernel,rfl,by decide +kernel,by decide +kernel⟩
theorem jA:bf ["_law_script","_law_accounts_here","_law_currencies_here","_law_held","_law_every","_law_seals","_law_k","_law_before","_law_told","_law_now","_law_turn","_law_one"] ["_law_script"] (ae de):=⟨rfl,rfl,rfl,by decide +kernel,rfl,by decide +kernel,by decide +kernel⟩
seal L2.PE L2.PT L2.PW L2.PA L2.PS L2.PSs L2.PI L2.PG L2.PGs L2.PO
open PySem L2 K19 K22
local macro_rules | `(tactic| walk_at "cq") => `(tactic| exact ⟨rfl, by decide +kernel, rfl, by decide +kernel, rfl, br rfl, rfl, aK rfl, aK (k := fun y => xt y _) rfl, bv rfl⟩)
local macro_rules | `(tactic| walk_at "sc") => `(tactic| exact ⟨rfl, rfl, rfl, by decide +kernel, rfl, by decide +kernel, by decide +kernel⟩)
local macro_rules | `(tactic| walk_at "b") => `(tactic| first | (intro _ _ _ _ _ _ us hl; obtain ⟨_, e⟩ := ex1 hl; subst e; rfl) | (intro _ _ _ _ _ _ us hl; obtain ⟨_, _, e⟩ := ex2 hl; subst e; rfl) | (intro _ _ _ _ _ _ us hl; obtain ⟨_, _, _, e⟩ := ex3 hl; subst e; rfl) | (intro _ _ _ _ _ _ us hl; obtain ⟨_, _, _, _, e⟩ := ex4 hl; subst e; rfl) | (intro _ _ _ _ _ _ us hl; obtain ⟨_, _, _, _, _, e⟩ := ex5 hl; subst e; rfl) | (intro _ _ _ _ _ _ us hl; obtain ⟨_, _, _, _, _, _, e⟩ := ex6 hl; subst e; rfl))
local macro_rules | `(tactic| walk_at "rd") => `(tactic| try simp only [Bq, rdI, V.int.injEq, V.ref.injEq, v9, Bc, wR, xj, z7, zZ, Am, zt, Av, L2.eZ, yF, Yd, ZU, List.nil_append, u6, vq, Z9, List.replicate, List.getElem?_cons_zero, List.getElem?_cons_succ, List.set_cons_zero, List.set_cons_succ, Nat.reduceSub, Nat.reduceAdd, Int.reduceLT, Int.reduceLE, Int.reducePow, Int.reduceNeg, Nat.reducePow, List.cons.injEq, exists_eq_left', exists_eq_left, eq_self, if_false, if_true, ↓reduceIte, ite_not, forall_const, Option.bind_some, id_eq, zy, mL, AL, wS, D9, Gs, tSt])
local macro_rules | `(tactic| walk_at "om") => `(tactic| first | exact xx (by decide) (by assumption : 1000 <= sizeLine) | omega)
section
variable{pS:Addr}{ns:List Int}{P:Program}{w:World}{K:W.Frag}{mg:Str->Option Value}{base:Heap}{a:Adr}
theorem szl:1000<=sizeLine:=by rw[xM];decide
theorem HY:1000<sizeLine:=by rw[xM];decide
theorem itp{c:Prop}[Decidable c]{t e:Prop}(h:c)(x:t):ite c t e:=by rw[if_pos h];exact x
theorem itn{c:Prop}[Decidable c]{t e:Prop}(h:¬ c)(x:e):ite c t e:=by rw[if_neg h];exact x
def sp_sC:Sp:=sp1 fun x H Q _=>NoT H/\asI x fun _=>Q (.bl true) H
theorem rQ(T:Txt K mg a):Fo P w K mg base "is_whole" 1 sp_sC:=by
 refine T.uV.g1 ["thing"] fun x0 fA cdv A outer s H Q E ND HU hr h=>?_;obtain⟨hN,h1⟩:=h;obtain⟨i,rfl,k⟩:=asI.inv h1;refine⟨hN,_,(ag (aJ (c_ (aH (eI K) rfl T.bD bq (fa2 (fv 0) (eK (v:=.ty "int") rfl T.D0 y2 rfl))) (dH (Fb (aH (eI K) rfl T.bD bq (fa2 (fv 0) (eK (v:=.ty "bool") rfl T.EB CW rfl)))))))),?_⟩;walk_at "rd"
 first|exact k|exact iteT k
def amg(x:V)(lo hi:Int):Bool:=match x with
 | .int i=>decide (lo<=i)&&decide (i<=hi)
 |_=>false
def sp_ug:Sp:=sp3 fun x y z H Q _=>NoT H/\asI x fun i=>asI y fun lo=>asI z fun hi=>Q (.bl (amg (.int i) lo hi)) H
theorem f_(T:Txt K mg a):Fo P w K mg base "is_among" 2 sp_ug:=by
 refine T.vZ.g3 ["thing","least","most"] fun x0 x1 x2 fA cdv A outer s H Q E ND HU hr h=>?_;obtain⟨hN,h1⟩:=h;obtain⟨i,rfl,h2⟩:=asI.inv h1;obtain⟨lo,rfl,h3⟩:=asI.inv h2;obtain⟨hi,rfl,k⟩:=asI.inv h3;refine⟨hN,_,(ag (aJ (c_ (aI (rQ T) hr aD (fa1 (fv 0))) (dH (jP d_ d_ (fv 1) (fv 0) (fv 2)))))),?_⟩;walk_at "rd";refine⟨hN,?_⟩;split
 ·rename_i h1
  have e:amg (.int i) lo hi=decide (i<=hi):=by simp[amg,h1]
  rw[e]at k;exact k
 ·rename_i h1
  have e:amg (.int i) lo hi=false:=by simp[amg,h1]
  rw[e]at k;exact k
def sp_yt:Sp:=sp1 fun x H Q _=>NoT H/\asI x fun i=>Q (.bl (amg (.int i) 0 146096)) H
theorem iP(T:Txt K mg a):Fo P w K mg base "is_day" 3 sp_yt:=by
 refine T.y8.g1 ["thing"] fun x0 fA cdv A outer s H Q E ND HU hr h=>?_;obtain⟨hN,h1⟩:=h;obtain⟨i,rfl,k⟩:=asI.inv h1;refine⟨hN,_,(ag (aJ (aI (f_ T) hr aD (fa3 (fv 0) aa aa)))),?_⟩;walk_at "rd";exact⟨hN,k⟩
theorem Ep(a b:Nat):leN [a] [b]=decide (a<=b):=by
 unfold leN;have h:([b]<[a])↔b<a:=by
  rw[List.cons_lt_cons_iff];simp
 rw[decide_eq_decide.mpr h];by_cases h2:b<a
 ·rw[decide_eq_true h2,decide_eq_false (by walk_at "om")];rfl
 ·rw[decide_eq_false h2,decide_eq_true (by walk_at "om")];rfl
local macro_rules | `(tactic| walk_at "rd") => `(tactic| try simp only [Bq, rdI, V.int.injEq, V.ref.injEq, v9, Bc, wR, xj, z7, zZ, Am, zt, Av, L2.eZ, yF, Yd, ZU, List.nil_append, u6, vq, Z9, List.replicate, List.getElem?_cons_zero, List.getElem?_cons_succ, List.set_cons_zero, List.set_cons_succ, Nat.reduceSub, Nat.reduceAdd, Int.reduceLT, Int.reduceLE, Int.reducePow, Int.reduceNeg, Nat.reducePow, List.cons.injEq, exists_eq_left', exists_eq_left, eq_self, if_false, if_true, ↓reduceIte, ite_not, forall_const, Option.bind_some, id_eq, zy, mL, AL, wS, D9, Gs, Ep, tSt])
def ok(l:List Nat):Prop:=(∀c∈l,c<128)/\l.length<=1000
theorem mH{l:List Nat}(h:ok l):l.length<=sizeLine:=xx h.2 (by rw[xM];decide)
def lie(l:List Nat)(a b:Nat):Bool:=l.all fun c=>decide (a<=c)&&decide (c<=b)
def sp_qE:Sp:=sp3 fun x y z H Q _=>NoT H/\asT x fun l=>asT y fun lo=>asT z fun hi=>ok l/\∃a b,lo=[a]/\hi=[b]/\Q (.bl (lie l a b)) H
theorem ia(T:Txt K mg a):Fo P w K mg base "signs_lie" 1 sp_qE:=by
 refine T.sA.g3 ["text","least","most"] fun x0 x1 x2 fA cdv A outer s H Q E ND HU hr h=>?_;obtain⟨hN,h1⟩:=h;obtain⟨l,rfl,h2⟩:=asT.inv h1;obtain⟨lo,rfl,h3⟩:=asT.inv h2;obtain⟨hi,rfl,hl,a,b,rfl,rfl,k⟩:=asT.inv h3;refine⟨hN,_,(ag (aJ (aH (qM K rfl) rfl T.An uX (fa1 (bz rfl (cl:=_) (x:="sign") (xs:=["sign"]) (fr:=["least","most"]) (ks:=[1,2]) (by walk_at "cq") rfl (AA (fv 0)) (fun _ _ _ _ _=>(aM (i:=0) (cc (l:=["sign","least","most"]) (by decide)) rfl (Or.inl rfl))) (fun _ _ _ _ _=>dU) (fun _ _ _ _ _=>(jP d_ d_ (fv 1) (fv 0) (fv 2)))))))),?_⟩;walk_at "rd";refine cmS (fun _=>True) (fun _ _ _=>trivial) l (fun _=>true) (fun c=>.bl (decide (a<=c)&&decide (c<=b))) (fun R r=>r) hl.1 (mH hl) (fun c _ H R _ r=>r) (fun c _ _ H R _ r=>?_) (fun D hD=>?_)
 ·walk_at "rd"
  by_cases h1:a<=c
  ·simp only[h1,decide_true,Yn]at r |-
   exact r
  ·simp only[h1,decide_false,YK]at r |-
   exact r
 ·refine⟨l.map fun c=>decide (a<=c)&&decide (c<=b),SqL.of (by rw[ad,qU.mpr (by simp),uR];rfl),H,Gc.none (aj _ hD),?_⟩
  have e:(l.map fun c=>decide (a<=c)&&decide (c<=b)).all id=lie l a b:=by
   rw[List.all_map];rfl
  rw[e];exact k
def cur(l:List Nat):Bool:=decide (l.length=3)&&lie l 65 90
def sp_yh:Sp:=sp1 fun x H Q _=>NoT H/\asT x fun l=>cur l=true/\Q (.bl true) H
theorem C8{l:List Nat}(h:cur l=true):l.length=3/\lie l 65 90=true:=by
 unfold cur at h
 simpa using h
theorem F0{l:List Nat}{a b:Nat}(h:lie l a b=true)(hb:b<128)(hl:l.length<=1000):ok l:=by
 unfold lie at h;rw[Zj]at h;exact⟨fun c hc=>by have:=h c hc;simp at this;lia,hl⟩
theorem iJ(T:Txt K mg a):Fo P w K mg base "is_currency" 2 sp_yh:=by
 refine T.oY.g1 ["thing"] fun x0 fA cdv A outer s H Q E ND HU hr h=>?_;obtain⟨hN,h1⟩:=h;obtain⟨l,rfl,hc,k⟩:=asT.inv h1;obtain⟨h3,hl⟩:=C8 hc;have ol:=F0 hl (by decide) (by lia);refine⟨hN,_,(ag (aJ (c_ (aH (eI K) rfl T.bD bq (fa2 (fv 0) (eK (v:=.ty "str") rfl T.pA lj rfl))) (c_ (cY (cM K HU) (aH (bh K) rfl T.b6 bA (fa1 (fv 0))) aa (dY _)) (dH (aI (ia T) hr aD (fa3 (fv 0) (aQ [65]) (aQ [90])))))))),?_⟩;walk_at "rd";refine⟨mH ol,itp (by lia) ⟨hN,ol,65,90,rfl,rfl,?_⟩⟩;rw[hl];exact k
def nm(l:List Nat):Bool:=decide (1<=l.length)&&decide (l.length<=12)&&lie l 97 122
def sp_uF:Sp:=sp1 fun x H Q _=>NoT H/\asT x fun l=>ok l/\Q (.bl (nm l)) H
theorem oy(T:Txt K mg a):Fo P w K mg base "is_name" 2 sp_uF:=by
 refine T.yM.g1 ["thing"] fun x0 fA cdv A outer s H Q E ND HU hr h=>?_;obtain⟨hN,h1⟩:=h;obtain⟨l,rfl,hl,k⟩:=asT.inv h1;refine⟨hN,_,(ag (aJ (c_ (aH (eI K) rfl T.bD bq (fa2 (fv 0) (eK (v:=.ty "str") rfl T.pA lj rfl))) (c_ (jP d_ d_ aa (aH (bh K) rfl T.b6 bA (fa1 (fv 0))) aa) (dH (aI (ia T) hr aD (fa3 (fv 0) (aQ [97]) (aQ [122])))))))),?_⟩;walk_at "rd";refine⟨mH hl,?_⟩;unfold nm at k;split
 ·rename_i h1
  rw[decide_eq_true (by lia:1<=l.length)]at k;split
  ·rename_i h2
   rw[decide_eq_true (by lia:l.length<=12)]at k;exact⟨hN,hl,97,122,rfl,rfl,k⟩
  ·rename_i h2
   rw[decide_eq_false (by lia:¬ l.length<=12)]at k;exact k
 ·rename_i h1
  rw[decide_eq_false (by lia:¬ 1<=l.length)]at k;exact k
def sp_qh(K:W.Frag):Sp:=sp1 fun x H Q _=>asR x fun p=>NoT H/\∃ls:List (List Nat),SqL K H p (ls.map L2.T)/\ls.length<=300/\(∀l∈ls,ok l)/\Q (.bl (decide (1<=ls.length)&&decide (ls.length<=6)&&ls.all nm)) H
theorem rh(T:Txt K mg a):Fo P w K mg base "are_names" 3 (sp_qh K):=by
 refine T.sy.g1 ["names"] fun x0 fA cdv A outer s H Q E ND HU hr h=>?_;obtain⟨p,rfl,hN,ls,hS,hl,hx,k⟩:=asR.inv h;refine⟨hN,_,(ag (aJ (c_ (jP d_ d_ aa (aH (bh K) rfl T.b6 bA (fa1 (fv 0))) aa) (dH (aH (qM K rfl) rfl T.An uX (fa1 (bz rfl (cl:=_) (x:="name") (xs:=["name"]) (fr:=[]) (ks:=[]) (by walk_at "cq") rfl (bw K (fv 0)) (fun _ _ _ _ _=>(aM (i:=0) (cc (l:=["name"]) (by decide)) rfl (Or.inl rfl))) (fun _ _ _ _ _=>dU) (fun _ _ _ _ _=>(aI (oy T) hr pO (fa1 (fv 0))))))))))),?_⟩;walk_at "rd";refine⟨_,.inl hS,?_⟩;have sz:=szl;rw[zB];split
 ·rename_i h1
  rw[decide_eq_true (by lia:1<=ls.length)]at k;split
  ·rename_i h2
   rw[decide_eq_true (by lia:ls.length<=6)]at k;refine cmL p (ls.map L2.T) (fun H'=>NoT H'/\SqL K H' p (ls.map L2.T)) (fun D ys hD=>⟨az hN rfl,hS.same (aj _ hD)⟩) (fun H' c=>c.2) (fun _=>true) (fun x=>match x with | .str y=>.bl (nm y.cps.toList)|_=>.non) (fun R r=>r) hS (by rw[zB];lia) (fun x _ H' R _ r=>r) (fun x hx' _ H' R c r=>?_) (fun D hD=>?_)
   ·obtain⟨l,ml,rfl⟩:=yb.mp hx'
    walk_at "rd";exact⟨c.1,hx l ml,r⟩
   ·refine⟨ls.map nm,SqL.of (by rw[ad,qU.mpr (by simp),uR,uR];rfl),H,Gc.none (aj _ hD),?_⟩
    rw[List.all_map];exact k
  ·rename_i h2
   rw[decide_eq_false (by lia:¬ ls.length<=6)]at k;exact k
 ·rename_i h1
  rw[decide_eq_false (by lia:¬ 1<=ls.length)]at k;exact k
def jX(l:List Nat):Bool:=decide (1<=(spN 58 l).length)&&decide ((spN 58 l).length<=6)&&(spN 58 l).all nm
def sp_u6:Sp:=sp1 fun x H Q _=>NoT H/\asT x fun l=>((∀c∈l,c<128)/\l.length<=199)/\Q (.bl (jX l)) H
theorem mV(T:Txt K mg a):Fo P w K mg base "is_path" 4 sp_u6:=by
 refine T.yu.g1 ["thing"] fun x0 fA cdv A outer s H Q E ND HU hr h=>?_;obtain⟨hN,h1⟩:=h;obtain⟨l,rfl,hl,k⟩:=asT.inv h1;refine⟨hN,_,(ag (aJ (c_ (aH (eI K) rfl T.bD bq (fa2 (fv 0) (eK (v:=.ty "str") rfl T.pA lj rfl))) (dH (aI (rh T) hr aD (fa1 (eA K ZQ PySem.F.slot_str_split PySem.F.type_str_split on (fv 0) (fa1 (aQ [58]))))))))),?_⟩;walk_at "rd";have sz:=szl;have sl:=mP 58 l;refine⟨by walk_at "om",fun p hp=>⟨az hN rfl,_,SqL.of ad,by lia,fun q hq=>?_,H,Gc.none (aj _ hp),k⟩⟩;obtain⟨m1,m2⟩:=kg 58 l q hq;exact⟨fun c hc=>hl.1 c (m2 c hc),by lia⟩
def tx(ls:List (List Nat)):HO:=.lst (ls.map L2.T)
def sp_r6:Sp:=sp1 fun x H Q _=>NoT H/\asT x fun l=>((∀c∈l,c<128)/\l.length<=199)/\jX l=true/\∀p,H p=none->Q (.ref p) (upd H p (tx (spN 58 l)))
theorem tV(T:Txt K mg a):Fo P w K mg base "names_of" 5 sp_r6:=by
 refine T.vc.g1 ["path"] fun x0 fA cdv A outer s H Q E ND HU hr h=>?_;obtain⟨hN,h1⟩:=h;obtain⟨l,rfl,hl,e,k⟩:=asT.inv h1;refine⟨hN,_,(af (aW (bK (bx (aI (mV T) hr aD (fa1 (fv 0))))) (ag (bN T.lB T.k9 ba)) aL)
  (ag (aJ (eA K ZQ PySem.F.slot_str_split PySem.F.type_str_split on (fv 0) (fa1 (aQ [58])))))),?_⟩
 walk_at "rd";have sz:=szl;refine⟨hN,hl,itn (by rw[e];decide) ⟨by walk_at "om",fun p hp=>⟨_,Gc.one (aj _ hp) hp ad rfl,k p hp⟩⟩⟩
theorem lD{l:List Nat}(h:nm l=true):1<=l.length/\l.length<=12/\∀c∈l,97<=c/\c<=122:=by
 unfold nm lie at h;simp only[sT,decide_eq_true_eq,Zj]at h;exact⟨h.1.1,h.1.2,fun c hc=>h.2 c hc⟩
theorem Dx(xs:List V){i:Int}(h:0<=i):gW xs none (some i)=xs.take i.toNat:=by
 unfold gW;have e:i=((i.toNat:Nat):Int):=by walk_at "om"
 rw[e,HT.sIx_none,HT.sIx_nat,List.drop_zero,Nat.sub_zero];by_cases hl:i.toNat<=xs.length
 ·rw[Nat.min_eq_left hl];rfl
 ·rw[Nat.min_eq_right (by walk_at "om"),Zk (by walk_at "om"),Zk (by simp;lia)]
theorem wo(n:Nat):∀(ls:List (List Nat)),(∀l∈ls,l.length<=n)->(ls.map Y8).sum<=n*ls.length
 | [],_=>by simp
 |l::r,h=>by
  have:=wo n r fun x hx=>h x (xC _ hx);have h1:=h l (by simp);simp only[yF,List.sum_cons,vq,Nat.mul_add,Nat.mul_one];lia
theorem zK{ls:List (List Nat)}(h:∀l∈ls,l.length<=1000)(hl:ls.length<=1000):CL [58] ls:=by
 have:=wo 1000 ls h;have h2:1000*ls.length<=1000*1000:=Nat.mul_le_mul_left _ hl;unfold CL;simp only[vq,Z9];lia
def abN(l:List Nat):List (List Nat):=(Zi ((spN 58 l).length-1)).map fun k=>cq [58] ((spN 58 l).take (k+1))
def sp_z6:Sp:=sp1 fun x H Q _=>NoT H/\asT x fun l=>((∀c∈l,c<128)/\l.length<=199)/\∀p,H p=none->Q (.ref p) (upd H p (tx (abN l)))
theorem zL(T:Txt K mg a):Fo P w K mg base "above" 1 sp_z6:=by
 refine T.C5.g1 ["path","names"] fun x0 fA cdv A outer s H Q E ND HU hr h=>?_;obtain⟨hN,h1⟩:=h;obtain⟨l,rfl,hl,k⟩:=asT.inv h1;refine⟨hN,_,(af (aT 1 ND (eA K ZQ PySem.F.slot_str_split PySem.F.type_str_split on (fv 0) (fa1 (aQ [58]))))
  (ag (aJ (bz rfl (cl:=_) (x:="many") (xs:=["many"]) (fr:=["names"]) (ks:=[1]) (by walk_at "cq") rfl (xL rfl T.iQ (fa2 aa (aH (bh K) rfl T.b6 bA (fa1 (fv 1))))) (fun _ _ _ _ _=>(aM (i:=0) (cc (l:=["many","names"]) (by decide)) rfl (Or.inl rfl))) (fun _ _ _ _ _=>dU) (fun _ _ _ _ _=>(DP (eA K ZQ PySem.F.slot_str_join PySem.F.type_str_join (A7 K) (aQ [58]) (fa1 (cO (iF K) (fv 1) eF (cU (fv 0))))))))))),?_⟩
 walk_at "rd";have sz:=szl;have sl:=mP 58 l;refine⟨by walk_at "om",fun p hp=>?_⟩;have sm:=aj (HO.lst (List.map L2.T (spN 58 l))) hp;have nb:((spN 58 l).length:Int)<2 ^ 62:=by
  have:(400:Int)<2 ^ 62:=by decide
  lia
 refine Ib (fun H'=>NoT H'/\SqL K H' p (List.map L2.T (spN 58 l))) (fun D ys hD=>⟨az (az hN rfl) rfl,SqL.same (aj _ hD) (SqL.of ad)⟩) 1 (spN 58 l).length ((spN 58 l).length-1) (by walk_at "om") (fun _=>true)
  (fun v=>match v with | .int i=>L2.T (cq [58] ((spN 58 l).take i.toNat))|_=>.non) (fun R r=>?_) ⟨by decide,by decide,by walk_at "om",nb⟩ (by walk_at "om") (fun x _ H' R _ r=>r) (fun j hj _ H' R c r=>?_) (fun D hD=>?_)
 ·walk_at "rd"
  exact⟨_,.inl (SqL.of ad),by rw[zB];exact r⟩
 ·walk_at "rd"
  refine⟨c.1,p,_,rfl,c.2,fun q hq=>⟨(spN 58 l).take (1+(j:Int)).toNat,SqL.of (by rw[ad,Dx _ (by walk_at "om"),List.map_take]),zK (fun x hx=>?_) (by rw[vm];lia),H',Gc.none (aj _ hq),r⟩⟩;have:=(kg 58 l x (Yr hx)).1;lia
 ·refine⟨_,Gc.one (sm.trans (aj _ hD)) (sm.free hD) ad rfl,?_⟩
  have e:(List.map (fun v=>match v with|V.int i=>L2.T (cq [58] (List.take i.toNat (spN 58 l)))|_=>V.non) (List.filter (fun _=>true) (List.map (fun k:Nat=>V.int (1+(k:Int))) (Zi ((spN 58 l).length-1)))))=(abN l).map L2.T:=by
   rw[qU.mpr (by simp),uR];unfold abN;rw[uR];apply r6;intro k _;show L2.T (cq [58] (List.take (1+(k:Int)).toNat (spN 58 l)))=L2.T (cq [58] (List.take (k+1) (spN 58 l)));rw[show(1+(k:Int)).toNat=k+1 by walk_at "om"]
  rw[e];exact k D (sm.free hD)
def sp_sS:Sp:=sp1 fun x H Q _=>NoT H/\asI x fun i=>Q (.bl (amg (.int i) 0 4799)) H
theorem iC(T:Txt K mg a):Fo P w K mg base "is_month" 3 sp_sS:=by
 refine T.vW.g1 ["thing"] fun x0 fA cdv A outer s H Q E ND HU hr h=>?_;obtain⟨hN,h1⟩:=h;obtain⟨i,rfl,k⟩:=asI.inv h1;refine⟨hN,_,(ag (aJ (aI (f_ T) hr aD (fa3 (fv 0) aa aa)))),?_⟩;walk_at "rd";exact⟨hN,k⟩
def sp_qI:Sp:=sp1 fun x H Q _=>NoT H/\asI x fun i=>Q (.bl (amg (.int i) (-1000000000000000) 1000000000000000)) H
theorem rm(T:Txt K mg a):Fo P w K mg base "is_amount" 3 sp_qI:=by
 refine T.sP.g1 ["thing"] fun x0 fA cdv A outer s H Q E ND HU hr h=>?_;obtain⟨hN,h1⟩:=h;obtain⟨i,rfl,k⟩:=asI.inv h1;refine⟨hN,_,(ag (aJ (aI (f_ T) hr aD (fa3 (fv 0) (Au vt (av v5 aa aa)) (av v5 aa aa))))),?_⟩;walk_at "rd";have e15:(10:Int) ^ Int.toNat 15=1000000000000000:=by decide +kernel
 rw[e15];exact⟨by decide,by decide,hN,k⟩
def nt2(l:List Nat):Prop:=l=[110,111,116,101]\/l=[98,97,99,107]
def sp_uR:Sp:=sp1 fun x H Q _=>NoT H/\asT x fun l=>nt2 l/\Q (.bl true) H
theorem FT{l:List Nat}(h:nt2 l):ok l/\l.length=4/\t8 l [32]=false/\l.getLast? ≠ some 32/\lie l 32 126=true:=by
 rcases h with rfl|rfl <;> exact⟨by unfold ok;decide,by decide,by decide,by decide,by decide⟩
theorem vR(T:Txt K mg a):Fo P w K mg base "is_note" 2 sp_uR:=by
 refine T.xW.g1 ["thing"] fun x0 fA cdv A outer s H Q E ND HU hr h=>?_;obtain⟨hN,h1⟩:=h;obtain⟨l,rfl,h2,k⟩:=asT.inv h1;obtain⟨ol,l4,hp,hg,hl⟩:=FT h2;refine⟨hN,_,(af (aW (L2.PW.pt (fI (bK (bx (aH (eI K) rfl T.bD bq (fa2 (fv 0) (eK (v:=.ty "str") rfl T.pA lj rfl))))) (eD (aS lO (aH (bh K) rfl T.b6 bA (fa1 (fv 0))) aa)))) (ag (aJ iH)) aL)
  (af (aW (L2.PW.pt (fI (bx (eA K ZQ PySem.F.slot_str_startswith PySem.F.type_str_startswith m5 (fv 0) (fa1 (aQ [32])))) (eD (bx (eA K ZQ PySem.F.slot_str_endswith PySem.F.type_str_endswith rZ (fv 0) (fa1 (aQ [32]))))))) (ag (aJ iH)) aL)
  (ag (aJ (aI (ia T) hr aD (fa3 (fv 0) (aQ [32]) (aQ [126]))))))),?_⟩
 walk_at "rd";rw[<- hl]at k;refine⟨mH ol,itn (by lia) (itn (by rw[hp];decide) (itn (fun z=>hg (of_decide_eq_true z)) ⟨hN,ol,32,126,rfl,rfl,k⟩))⟩
end
open PySem L2 K19 K22
section
variable{pS:Addr}{ns:List Int}{P:Program}{w:World}{K:W.Frag}{mg:Str->Option Value}{base:Heap}{a:Adr}
open K3
def sp_rF:Sp:=sp1 fun x H Q _=>asI x fun y=>NoT H/\Q (.int (LD y)) H
theorem j7(T:Txt K mg a):Fo P w K mg base "leap_days" 1 sp_rF:=by
 refine T.sq.g1 ["years"] fun x0 fA cdv A outer s H Q E ND HU hr h=>?_;obtain⟨y,rfl,hN,k⟩:=asI.inv h;refine⟨hN,_,(ag (aJ (av aN (av eC (av aX (av aN (fv 0) aa) aa) (av aX (av aN (fv 0) aa) aa)) (av aX (av aN (fv 0) aa) aa)))),?_⟩;walk_at "rd";exact k
theorem uv(xs:List V){i:Int}(h:0<=i):gW xs none (some i)=xs.take i.toNat:=by
 unfold gW;have e:i=((i.toNat:Nat):Int):=by lia
 rw[e,HT.sIx_none,HT.sIx_nat,List.drop_zero,Nat.sub_zero];by_cases hl:i.toNat<=xs.length
 ·rw[Nat.min_eq_left hl];rfl
 ·rw[Nat.min_eq_right (by lia),Zk (by lia),Zk (by simp;lia)]
def LEN:List Int:=[31,28,31,30,31,30,31,31,30,31,30,31]
theorem Ao{i:Int}(h0:0<=i)(h1:i<12):(LEN.take i.toNat).sum=S i:=by
 have hc:i=0\/i=1\/i=2\/i=3\/i=4\/i=5\/i=6\/i=7\/i=8\/i=9\/i=10\/i=11:=by lia
 rcases hc with h|h|h|h|h|h|h|h|h|h|h|h <;> subst h <;> decide
theorem Hc(T:Txt K mg a)(H:Hp):SqT K H a.dO (LEN.map V.int):=.inr T.dO
def sp_qZ:Sp:=sp1 fun x H Q _=>asI x fun m=>NoT H/\Q (.int (FD m)) H
theorem j9(T:Txt K mg a):Fo P w K mg base "first_day" 2 sp_qZ:=by
 refine T.tR.g1 ["month","years","ahead","leaps"] fun x0 fA cdv A outer s H Q E ND HU hr h=>?_;obtain⟨m,rfl,hN,k⟩:=asI.inv h;refine⟨hN,_,(af (aT 1 ND (av aX (fv 0) aa))
  (af (aT 2 ND (av a9 (fv 0) aa))
  (af (aT 3 ND (BF (aS lO (fv 2) aa) (aI (j7 T) hr aD (fa1 (av aN (fv 1) aa))) (aI (j7 T) hr aD (fa1 (fv 1)))))
  (ag (aJ (av aN (av aN (av eT aa (fv 1)) (fv 3)) (aH (wb K rfl) rfl T.Ec zY (fa1 (cO (B3 K) (wE (v:=.ref a.dO) rfl T.xE rfl) eF (cU (fv 2))))))))))),?_⟩
 walk_at "rd";have b0:0<=m % 12:=Ze _ (by decide);have b1:m % 12<12:=Zl _ (by decide);have nw:¬ (HT.sIx (LEN.map V.int).length 0 none=0/\HT.sIx (LEN.map V.int).length (LEN.map V.int).length (some (m % 12))=(LEN.map V.int).length):=fun⟨_,z⟩=>by
  have e:m % 12=(((m % 12).toNat:Nat):Int):=by lia
  rw[e,HT.sIx_nat]at z;have l:(LEN.map V.int).length=12:=rfl;rw[l]at z;lia
 have fin:∀(p:Addr),(upd H p (.tup (gW (LEN.map V.int) none (some (m % 12))))) p=some (.tup ((LEN.take (m % 12).toNat).map V.int)):=fun p=>by
  rw[ad,uv _ b0,List.map_take]
 split
 ·rename_i h1
  refine⟨hN,a.dO,_,rfl,Hc T _,nw,fun p hp=>⟨LEN.take (m % 12).toNat,.inr (SqT.of (fin p)),H,Gc.none (aj _ hp),?_⟩⟩;have e:365*(m / 12)+LD (m / 12+1)+(LEN.take (m % 12).toNat).sum=FD m:=by
   rw[Ao b0 b1];unfold FD;rw[if_pos h1]
  rw[e];exact k
 ·rename_i h1
  refine⟨hN,a.dO,_,rfl,Hc T _,nw,fun p hp=>⟨LEN.take (m % 12).toNat,.inr (SqT.of (fin p)),H,Gc.none (aj _ hp),?_⟩⟩;have e:365*(m / 12)+LD (m / 12)+(LEN.take (m % 12).toNat).sum=FD m:=by
   rw[Ao b0 b1];unfold FD;rw[if_neg h1]
  rw[e];exact k
def sp_si:Sp:=sp1 fun x H Q _=>asI x fun m=>NoT H/\Q (.int (FD (m+1)-1)) H
theorem gn(T:Txt K mg a):Fo P w K mg base "last_day" 3 sp_si:=by
 refine T.vo.g1 ["month"] fun x0 fA cdv A outer s H Q E ND HU hr h=>?_;obtain⟨m,rfl,hN,k⟩:=asI.inv h;refine⟨hN,_,(ag (aJ (av eC (aI (j9 T) hr aD (fa1 (av aN (fv 0) aa))) aa))),?_⟩;walk_at "rd";exact⟨hN,k⟩
def sp_sf:Sp:=sp1 fun x H Q _=>asI x fun d=>NoT H/\(0<=d/\d<=146096)/\Q (.int (MO d)) H
theorem tU(T:Txt K mg a):Fo P w K mg base "month_of" 4 sp_sf:=by
 refine T.uE.g1 ["day","month"] fun x0 fA cdv A outer s H Q E ND HU hr h=>?_;obtain⟨d,rfl,hN,⟨d0,d1⟩,k⟩:=asI.inv h;refine⟨hN,_,(af (aT 1 ND (av aX (av eT (fv 0) aa) aa))
  (af (iu (by passes_own) (aS lO (aI (j9 T) hr aD (fa1 (fv 1))) (fv 0)) (ag (aT 1 ND (av eC (fv 1) aa))))
  (af (iu (by passes_own) (aS n8 (aI (gn T) hr aD (fa1 (fv 1))) (fv 0)) (ag (aT 1 ND (av aN (fv 1) aa))))
  (ag (aJ (fv 1)))))),?_⟩
 walk_at "rd";refine⟨fun n σ H1=>∃m,σ=[some (.int d),some (.int m)]/\H=H1/\0<=m/\m<=4799/\n=m.toNat,⟨_,_,rfl,rfl,by lia,by lia,rfl⟩,?_⟩;rintro n σ H1 ⟨m,rfl,rfl,m0,m1,rfl⟩;walk_at "rd";refine⟨hN,?_⟩;split
 ·rename_i h2
  have hm:1<=m:=by
   by_cases z:m=0
   ·rw[z,Gz]at h2;lia
   ·lia
  refine⟨_,fun σ' H' z=>z,(m-1).toNat,by lia,m-1,rfl,rfl,by lia,by lia,rfl⟩
 ·rename_i h2
  refine⟨fun n σ H1=>∃m,σ=[some (.int d),some (.int m)]/\H=H1/\0<=m/\m<=4799/\FD m<=d/\n=(4800-m).toNat,⟨_,_,rfl,rfl,m0,m1,by lia,rfl⟩,?_⟩;rintro n σ H1 ⟨m',rfl,rfl,m0',m1',h3,rfl⟩;walk_at "rd";refine⟨hN,?_⟩;split
  ·rename_i h4
   have hm:m'+1<=4799:=by
    by_cases z:m'=4799
    ·rw[z]at h4
     have e:(4799:Int)+1=4800:=by decide
     rw[e,Bb]at h4;lia
    ·lia
   exact⟨_,fun σ' H' z=>z,(4800-(m'+1)).toNat,by lia,m'+1,rfl,rfl,by lia,hm,by lia,rfl⟩
  ·rename_i h4
   rw[A9 h3 (by lia)]at k;exact k
end
open PySem L2 K19 K22
section
variable{pS:Addr}{ns:List Int}{P:Program}{w:World}{K:W.Frag}{mg:Str->Option Value}{base:Heap}{a:Adr}
def Keep(S:List Addr)(H H':Hp):Prop:=∀c z,H c=some z->c∉S->H' c=some z
theorem Keep.refl{S:List Addr}{H:Hp}:Keep S H H:=fun _ _ e _=>e
theorem Keep.trans{S:List Addr}{H H1 H2:Hp}(x:Keep S H H1)(y:Keep S H1 H2):Keep S H H2:=fun c z e n=>y c z (x c z e n) n
theorem Keep.mono{S S':List Addr}{H H':Hp}(x:Keep S H H')(h:∀c,c∈S->c∈S'):Keep S' H H':=fun c z e n=>x c z e fun m=>n (h c m)
theorem Keep.new{S:List Addr}{H H1:Hp}{p:Addr}{o:HO}(x:Keep S H H1)(h:H1 p=none):Keep S H (upd H1 p o):=fun c z e n=>by
 rw[ah (aC (x c z e n) h)];exact x c z e n
theorem Keep.put{S:List Addr}{H H1:Hp}{p:Addr}{o:HO}(x:Keep S H H1)(h:p∈S):Keep S H (upd H1 p o):=fun c z e n=>by
 rw[ah (by rintro rfl;exact n h)];exact x c z e n
theorem Keep.same{S:List Addr}{H H':Hp}(x:Same H H'):Keep S H H':=fun c z e _=>x c z e
theorem aU{H:Hp}{p q:Addr}{x y:HO}(h:H p=some x)(g:H q=some y)(n:x≠y:=by intro z;cases z):p≠q:=by
 rintro rfl;rw[h]at g;cases g;exact n rfl
def cl:Option Int->V
 |none=>.non
 |some m=>.int m
structure Acc where
 pa:List Nat
 ob:Addr
 bl:Addr
 ki:V
 cu:V
 fi:Int
 un:Option Int
 be:List (List Nat)
def gB(k c f u b:V):List (Str × V):=[("kind",k),("currency",c),("first",f),("until",u),("below",b)]
theorem fk(k c f u b:V):xt (zI "kind") (gB k c f u b)=some k:=iA
theorem ff(k c f u b:V):xt (zI "first") (gB k c f u b)=some f:=by unfold gB;rw[aR (by decide +kernel),aR (by decide +kernel)];exact iA
theorem fu(k c f u b:V):xt (zI "until") (gB k c f u b)=some u:=by unfold gB;rw[aR (by decide +kernel),aR (by decide +kernel),aR (by decide +kernel)];exact iA
theorem fb(k c f u b:V):xt (zI "below") (gB k c f u b)=some b:=by unfold gB;rw[aR (by decide +kernel),aR (by decide +kernel),aR (by decide +kernel),aR (by decide +kernel)];exact iA
theorem GA(k c f u b:V):xt (zI "stands_on") (gB k c f u b)=none:=by unfold gB;rw[aR (by decide +kernel),aR (by decide +kernel),aR (by decide +kernel),aR (by decide +kernel),aR (by decide +kernel)];rfl
theorem Hv(k c f u b v:V):dI (zI "until") v (gB k c f u b)=gB k c f v b:=by
 have q1:¬ (zI "kind" = zI "until"):=by decide +kernel
 have q2:¬ (zI "currency" = zI "until"):=by decide +kernel
 have q3:¬ (zI "first" = zI "until"):=by decide +kernel
 simp[dI,gB,q1,q2,q3]
theorem FK(k c f u b:V):dI (zI "below") b (dI (zI "until") u (dI (zI "first") f (dI (zI "currency") c (dI (zI "kind") k []))))=gB k c f u b:=by
 have q1:¬ (zI "kind" = zI "until"):=by decide +kernel
 have q2:¬ (zI "currency" = zI "until"):=by decide +kernel
 have q3:¬ (zI "first" = zI "until"):=by decide +kernel
 have q4:¬ (zI "kind" = zI "first"):=by decide +kernel
 have q5:¬ (zI "currency" = zI "first"):=by decide +kernel
 have q6:¬ (zI "kind" = zI "currency"):=by decide +kernel
 have q7:¬ (zI "kind" = zI "below"):=by decide +kernel
 have q8:¬ (zI "currency" = zI "below"):=by decide +kernel
 have q9:¬ (zI "first" = zI "below"):=by decide +kernel
 have q0:¬ (zI "until" = zI "below"):=by decide +kernel
 simp[dI,gB,q1,q2,q3,q4,q5,q6,q7,q8,q9,q0]
def sp_yk(A:Addr):Sp:=sp4 fun x k c f H Q _=>NoT H/\asR x fun p=>∃dx,H p=some (.ins A dx [])/\∀b H',H b=none->H' p=some (.ins A dx (gB k c f .non (.ref b)))->H' b=some (.lst [])->Keep [p] H H'->NoT H'->Q .non H'
theorem e6(T:Txt K mg a):Mo P w K mg base a.aE "__init__" 1 (sp_yk a.aE):=by
 refine T.jv.x4 ["self","kind","currency","first"] fun x0 x1 x2 x3 fA cdv A outer s H Q E ND HU hr h=>?_;obtain⟨hN,h1⟩:=h;obtain⟨p,rfl,dx,hp,k⟩:=asR.inv h1;refine⟨_,(af (df K (fv 0) (fv 1))
  (af (df K (fv 0) (fv 2))
  (af (df K (fv 0) (fv 3))
  (af (df K (fv 0) da)
  (ag (df K (fv 0) (bU (FA.pa cn)))))))),?_⟩
 walk_at "rd";refine⟨_,_,_,hp,T.a7,T.fH,by decide,_,_,_,ad,T.a7,T.fQ,by show 1<1000;decide,_,_,_,ad,T.a7,T.eW,by show 2<1000;decide,_,_,_,ad,T.a7,T.bP,by show 3<1000;decide,xm _,fun b hb=>?_⟩;rw[j8,j8,j8]at hb |-
 have np:p≠b:=fun q=>by rw[<- q,ad]at hb;cases hb
 have hb0:H b=none:=by rw[ah (Ne.symm np)]at hb;exact hb
 refine⟨_,_,_,(ah np).trans ad,T.a7,T.eU,by show 4<1000;decide,?_⟩;rw[FK];refine k b _ hb0 ad ?_ ?_ ?_
 ·rw[ah (Ne.symm np),ad]
 ·exact((Keep.refl.put (zv.2 rfl)).new hb).put (zv.2 rfl)
 ·exact az (az (az hN rfl) rfl) rfl
def lat(u:Option Int)(d:Int):Bool:=match u with
 |none=>true
 |some t=>decide (d<t)
def opn(f:Int)(u:Option Int)(d:Int):Bool:=decide (f<=d)&&lat u d
def sp_on(A:Addr):Sp:=sp2 fun x y H Q _=>NoT H/\asR x fun p=>asI y fun d=>∃dx k c f u b,H p=some (.ins A dx (gB k c (.int f) (cl u) b))/\Q (.bl (opn f u d)) H
theorem eQ(T:Txt K mg a):Mo P w K mg base a.aE "stands_on" 1 (sp_on a.aE):=by
 refine T.jd.g2 ["self","day"] fun x0 x1 fA cdv A outer s H Q E ND HU hr h=>?_;obtain⟨hN,h1⟩:=h;obtain⟨p,rfl,h2⟩:=asR.inv h1;obtain⟨d,rfl,dx,k,c,f,u,b,hp,q⟩:=asI.inv h2;refine⟨hN,_,(ag (aJ (c_ (cY d_ (aY K (fv 0)) (fv 1) (dY _)) (dH (Bj (qG (nW (aY K (fv 0)))) (dH (cY n8 (fv 1) (aY K (fv 0)) (dY _)))))))),?_⟩;walk_at "rd";refine⟨_,_,_,_,hp,T.a7,T.eW,ff ..,?_⟩;walk_at "rd";split
 ·rename_i h1
  refine⟨_,_,_,_,hp,T.a7,T.bP,fu ..,?_⟩;have e:opn f u d=lat u d:=by unfold opn;rw[decide_eq_true h1];rfl
  rw[e]at q;cases u with
  |none=>exact q
  |some t=>
   rw[if_neg (by intro z;cases z)];exact⟨_,_,_,_,hp,T.a7,T.bP,fu ..,⟨H,Gc.refl,q⟩⟩
 ·rename_i h1
  have e:opn f u d=false:=by unfold opn;rw[decide_eq_false h1];rfl
  rw[e]at q;exact q
def sp_yF:Sp:=sp2 fun _ _ _ _ _=>False
theorem gT(T:Txt K mg a):Mo P w K mg base a.aE "stands_later" 1 sp_yF:=by
 refine T.ig.g2 ["self","day"] fun x0 x1 fA cdv A outer s H Q E ND HU hr h=>?_;exact h.elim
def kyA(c:Acc):Key × V:=(.inr ⟨⟨c.pa⟩⟩,.ref c.ob)
structure AAt(A:Addr)(H:Hp)(c:Acc):Prop where
 ob:∃dx,H c.ob=some (.ins A dx (gB c.ki c.cu (.int c.fi) (cl c.un) (.ref c.bl)))
 ls:H c.bl=some (.lst (c.be.map L2.T))
structure CAt(C A:Addr)(H:Hp)(p d:Addr)(cs:List Acc):Prop where
 ob:∃dx,H p=some (.ins C dx [("by_path",.ref d)])
 dc:H d=some (.dK (cs.map kyA))
 ac:∀c∈cs,AAt A H c
 np:(cs.map (·.pa)).Nodup
 na:(cs.map (·.ob)).Nodup
 nb:(cs.map (·.bl)).Nodup
theorem CAt.keep{C A:Addr}{S:List Addr}{H H':Hp}{p d:Addr}{cs:List Acc}(j:CAt C A H p d cs)(x:Keep S H H')(hp:p∉S)(hd:d∉S)(hc:∀c∈cs,c.ob∉S/\c.bl∉S):CAt C A H' p d cs:=
 ⟨by obtain⟨dx,e⟩:=j.ob;exact⟨dx,x _ _ e hp⟩,x _ _ j.dc hd,fun c hm=>⟨by obtain⟨dx,e⟩:=(j.ac c hm).ob;exact⟨dx,x _ _ e (hc c hm).1⟩,x _ _ (j.ac c hm).ls (hc c hm).2⟩,j.np,j.na,j.nb⟩
theorem CAt.same{C A:Addr}{H H':Hp}{p d:Addr}{cs:List Acc}(j:CAt C A H p d cs)(x:Same H H'):CAt C A H' p d cs:=
 j.keep (S:=[]) (Keep.same x) yj yj fun _ _=>⟨yj,yj⟩
def fnd(cs:List Acc)(l:List Nat):Option Acc:=cs.find? fun c=>decide (c.pa=l)
theorem iR(l:List Nat):∀cs:List Acc,dR (cs.map kyA) (.inr ⟨⟨l⟩⟩)=(fnd cs l).map fun c=>.ref c.ob
 | []=>rfl
 |c::r=>by
  have ih:=iR l r;by_cases h:c.pa=l
  ·rw[yF,bQ (by show Sum.inr _=Sum.inr _;rw[h])]
   simp[fnd,h,kyA]
  ·rw[yF,bH (fun z=>h (by simpa [kyA] using z)),ih]
   simp[fnd,h]
theorem B_{cs:List Acc}{l:List Nat}{c:Acc}(h:fnd cs l=some c):c∈cs/\c.pa=l:=
 ⟨List.mem_of_find?_eq_some h,by simpa using List.find?_some h⟩
theorem mX{cs:List Acc}{l:List Nat}(h:fnd cs l=none):∀c∈cs,c.pa≠l:=fun c hc=>by
 simpa using List.find?_eq_none.mp h c hc
theorem iZ{β:Type}{f:Acc->β}:∀ {cs:List Acc} {c c':Acc},(cs.map f).Nodup->c∈cs->c'∈cs->f c=f c'->c=c'
 | [],_,_,_,h,_,_=>nomatch h
 |x::r,c,c',hn,h,h',e=>by
  rw[yF,qI]at hn;rcases z6.mp h with h1|h1
  ·rcases z6.mp h' with h2|h2
   ·rw[h1,h2]
   ·subst h1
    exact absurd (by rw[e];exact xp h2) hn.1
  ·rcases z6.mp h' with h2|h2
   ·subst h2
    exact absurd (by rw[<- e];exact xp h1) hn.1
   ·exact iZ hn.2 h1 h2 e
theorem uJ{cs:List Acc}(hn:(cs.map (·.pa)).Nodup){c:Acc}(hc:c∈cs):fnd cs c.pa=some c:=by
 cases e:fnd cs c.pa with
 |none=>exact absurd rfl (mX e c hc)
 |some c'=>
  obtain⟨h1,h2⟩:=B_ e;rw[iZ hn h1 hc h2]
theorem lkp(x:V):xt (zI "by_path") [(zI "by_path",x)]=some x:=iA
def sp_yb(C A:Addr):Sp:=sp1 fun x H Q _=>NoT H/\asR x fun p=>∃dx,H p=some (.ins C dx [])/\∀d H',H d=none->CAt C A H' p d []->Keep [p] H H'->NoT H'->Q .non H'
theorem jQ(T:Txt K mg a):Mo P w K mg base a.aO "__init__" 1 (sp_yb a.aO a.aE):=by
 refine T.lC.x1 ["self"] fun x0 fA cdv A outer s H Q E ND HU hr h=>?_;obtain⟨hN,h1⟩:=h;obtain⟨p,rfl,dx,hp,k⟩:=asR.inv h1;refine⟨_,(ag (df K (fv 0) qP)),?_⟩;walk_at "rd";intro d hd;have np:p≠d:=aC hp hd;refine⟨_,_,_,(ah np).trans hp,T.a_,T.bF,by show 0<1000;decide,?_⟩;refine k d _ hd ⟨⟨dx,?_⟩,?_,(fun _ h=>nomatch h),.nil,.nil,.nil⟩ ?_ ?_
 ·rw[ad];simp[dI]
 ·rw[ah (Ne.symm np),ad];rfl
 ·exact(Keep.refl.new hd).put (zv.2 rfl)
 ·exact az (az hN rfl) rfl
def sp_Fg(C A:Addr):Sp:=sp2 fun x y H Q _=>NoT H/\asR x fun p=>asT y fun l=>∃d cs,CAt C A H p d cs/\Q (.bl (fnd cs l).isSome) H
theorem qV(T:Txt K mg a):Mo P w K mg base a.aO "has" 1 (sp_Fg a.aO a.aE):=by
 refine T.t7.g2 ["self","path"] fun x0 x1 fA cdv A outer s H Q E ND HU hr h=>?_;obtain⟨hN,h1⟩:=h;obtain⟨p,rfl,h2⟩:=asR.inv h1;obtain⟨l,rfl,d,cs,J,k⟩:=asT.inv h2;obtain⟨dx,hp⟩:=J.ob;refine⟨hN,_,(ag (aJ (c_ (aH (eI K) rfl T.bD bq (fa2 (fv 1) (eK (v:=.ty "str") rfl T.pA lj rfl))) (dH (qG (vz (Zp HU) (fv 1) (aY K (fv 0))) (by with_unfolding_all rfl)))))),?_⟩;walk_at "rd";refine⟨_,_,_,_,hp,T.a_,T.bF,lkp _,d,_,rfl,DGet.k (k:=.inr ⟨⟨l⟩⟩) J.dc,?_⟩;rw[iR,Yv];exact k
def sp_vj(C A:Addr):Sp:=sp2 fun x y H Q _=>NoT H/\asR x fun p=>asT y fun l=>∃d cs c,CAt C A H p d cs/\c∈cs/\c.pa=l/\Q (.ref c.ob) H
theorem E4(x:V):xt (zI "has") [(zI "by_path",x)]=none:=by rw[aR (by decide +kernel)];rfl
theorem fM(x:V):xt (zI "account") [(zI "by_path",x)]=none:=by rw[aR (by decide +kernel)];rfl
theorem b8(T:Txt K mg a):Mo P w K mg base a.aO "account" 2 (sp_vj a.aO a.aE):=by
 refine T.mE.g2 ["self","path"] fun x0 x1 fA cdv A outer s H Q E ND HU hr h=>?_;obtain⟨hN,h1⟩:=h;obtain⟨p,rfl,h2⟩:=asR.inv h1;obtain⟨l,rfl,d,cs,c,J,hc,rfl,k⟩:=asT.inv h2;obtain⟨dx,hp⟩:=J.ob;refine⟨hN,_,(af (aW (bK (bx (bI (fv 0) T.a_ (qV T) (hr.mono (by decide)) aD (fa1 (fv 1))))) (ag (bN T.tF T.rR ba)) aL)
  (ag (aJ (bL (Zp HU) (aY K (fv 0)) (fv 1) (fun _ _=>rfl))))),?_⟩
 walk_at "rd";refine⟨_,_,hp,E4 _,hN,d,cs,J,?_⟩;have g:=DGet.k (k:=.inr ⟨⟨c.pa⟩⟩) J.dc;rw[iR,uJ J.np hc]at g;rw[uJ J.np hc,if_neg (by intro z;cases z)];exact⟨_,_,_,_,hp,T.a_,T.bF,lkp _,d,.ref c.ob,rfl,g,k⟩
theorem fcu(k c f u b:V):xt (zI "currency") (gB k c f u b)=some c:=by unfold gB;rw[aR (by decide +kernel)];exact iA
def sp_zw(C A:Addr):Sp:=sp2 fun x y H Q _=>NoT H/\asR x fun p=>asT y fun l=>∃d cs c,CAt C A H p d cs/\c∈cs/\c.pa=l/\Q c.cu H
theorem cP(T:Txt K mg a):Mo P w K mg base a.aO "currency_of" 3 (sp_zw a.aO a.aE):=by
 refine T.i_.g2 ["self","path"] fun x0 x1 fA cdv A outer s H Q E ND HU hr h=>?_;obtain⟨hN,h1⟩:=h;obtain⟨p,rfl,h2⟩:=asR.inv h1;obtain⟨l,rfl,d,cs,c,J,hc,rfl,k⟩:=asT.inv h2;obtain⟨dx,hp⟩:=J.ob;refine⟨hN,_,(ag (aJ (aY K (bI (fv 0) T.a_ (b8 T) (hr.mono (by decide)) aD (fa1 (fv 1)))))),?_⟩;walk_at "rd";obtain⟨du,ho⟩:=(J.ac c hc).ob;exact⟨_,_,hp,fM _,hN,d,cs,c,J,hc,rfl,_,_,_,_,ho,T.a7,T.fQ,fcu ..,k⟩
def sp_Aj(C A:Addr):Sp:=sp2 fun x y H Q _=>NoT H/\asR x fun p=>asT y fun l=>∃d cs c,CAt C A H p d cs/\c∈cs/\c.pa=l/\Q c.ki H
theorem gR(T:Txt K mg a):Mo P w K mg base a.aO "kind_of" 3 (sp_Aj a.aO a.aE):=by
 refine T.lY.g2 ["self","path"] fun x0 x1 fA cdv A outer s H Q E ND HU hr h=>?_;obtain⟨hN,h1⟩:=h;obtain⟨p,rfl,h2⟩:=asR.inv h1;obtain⟨l,rfl,d,cs,c,J,hc,rfl,k⟩:=asT.inv h2;obtain⟨dx,hp⟩:=J.ob;refine⟨hN,_,(ag (aJ (aY K (bI (fv 0) T.a_ (b8 T) (hr.mono (by decide)) aD (fa1 (fv 1)))))),?_⟩;walk_at "rd";obtain⟨du,ho⟩:=(J.ac c hc).ob;exact⟨_,_,hp,fM _,hN,d,cs,c,J,hc,rfl,_,_,_,_,ho,T.a7,T.fH,fk ..,k⟩
def sp_u8(C A:Addr):Sp:=sp3 fun x y z H Q _=>NoT H/\asR x fun p=>asT y fun l=>asI z fun t=>∃d cs c,CAt C A H p d cs/\c∈cs/\c.pa=l/\Q (.bl (opn c.fi c.un t)) H
theorem eg(T:Txt K mg a):Mo P w K mg base a.aO "is_open" 3 (sp_u8 a.aO a.aE):=by
 refine T.l9.g3 ["self","path","day"] fun x0 x1 x2 fA cdv A outer s H Q E ND HU hr h=>?_;obtain⟨hN,h1⟩:=h;obtain⟨p,rfl,h2⟩:=asR.inv h1;obtain⟨l,rfl,h3⟩:=asT.inv h2;obtain⟨t,rfl,d,cs,c,J,hc,rfl,k⟩:=asI.inv h3;obtain⟨dx,hp⟩:=J.ob;refine⟨hN,_,(ag (aJ (bI (bI (fv 0) T.a_ (b8 T) (hr.mono (by decide)) aD (fa1 (fv 1))) T.a7 (eQ T) (hr.mono (by decide)) aD (fa1 (fv 2))))),?_⟩;walk_at "rd";obtain⟨du,ho⟩:=(J.ac c hc).ob;exact⟨_,_,hp,fM _,hN,d,cs,c,J,hc,rfl,_,_,ho,GA ..,hN,_,_,_,_,_,_,ho,k⟩
theorem eB{β:Type}{l:List β}{x:β}(h:l.Nodup)(n:x∉l):(l++[x]).Nodup:=
 List.nodup_append.mpr ⟨h,qI.mpr ⟨yj,List.nodup_nil⟩,fun a ha b hb=>by rw[zv.mp hb];rintro rfl;exact n ha⟩
theorem CAt.bl_d{C A:Addr}{H:Hp}{p d:Addr}{cs:List Acc}(J:CAt C A H p d cs){c:Acc}(hc:c∈cs):c.bl≠d:=aU (J.ac c hc).ls J.dc
theorem CAt.ob_d{C A:Addr}{H:Hp}{p d:Addr}{cs:List Acc}(J:CAt C A H p d cs){c:Acc}(hc:c∈cs):c.ob≠d:=by
 obtain⟨dx,e⟩:=(J.ac c hc).ob;exact aU e J.dc
theorem CAt.p_d{C A:Addr}{H:Hp}{p d:Addr}{cs:List Acc}(J:CAt C A H p d cs):p≠d:=by
 obtain⟨dx,e⟩:=J.ob;exact aU e J.dc
theorem CAt.p_bl{C A:Addr}{H:Hp}{p d:Addr}{cs:List Acc}(J:CAt C A H p d cs){c:Acc}(hc:c∈cs):p≠c.bl:=by
 obtain⟨dx,e⟩:=J.ob;exact aU e (J.ac c hc).ls
theorem CAt.ob_bl{C A:Addr}{H:Hp}{p d:Addr}{cs:List Acc}(J:CAt C A H p d cs){c c':Acc}(hc:c∈cs)(hc':c'∈cs):c.ob≠c'.bl:=by
 obtain⟨dx,e⟩:=(J.ac c hc).ob;exact aU e (J.ac c' hc').ls
theorem sx{cs:List Acc}{l:List Nat}(h:fnd cs l=none)(c:Acc)(e:c.pa=l):e9 (cs.map kyA) (.inr ⟨⟨l⟩⟩) (.ref c.ob)=(cs++[c]).map kyA:=by
 rw[nL _ (by rw[iR,h];rfl),vx,<- e];rfl
theorem CAt.more{C A:Addr}{H H':Hp}{p d:Addr}{cs:List Acc}(J:CAt C A H p d cs)(kp:Keep [] H H'){c:Acc}(hf:fnd cs c.pa=none)(h0:H c.ob=none)(h1:H c.bl=none)(hc:AAt A H' c) :
 CAt C A (upd H' d (.dK ((cs++[c]).map kyA))) p d (cs++[c]):=by
 have J1:=J.keep kp yj yj fun _ _=>⟨yj,yj⟩;have dn:=J1.dc;obtain⟨dc,eo⟩:=hc.ob;have n1:c.ob≠d:=aU eo dn;have n2:c.bl≠d:=aU hc.ls dn;refine⟨?_,ad,fun z hz=>?_,?_,?_,?_⟩
 ·obtain⟨dx,e⟩:=J1.ob
  exact⟨dx,(ah J1.p_d).trans e⟩
 ·rcases yI.mp hz with hz|hz
  ·obtain⟨dz,e⟩:=(J1.ac z hz).ob
   exact⟨⟨dz,(ah (J1.ob_d hz)).trans e⟩,(ah (J1.bl_d hz)).trans (J1.ac z hz).ls⟩
  ·rw[zv.mp hz]
   exact⟨⟨dc,(ah n1).trans eo⟩,(ah n2).trans hc.ls⟩
 ·rw[vx]
  refine eB J.np fun h=>?_;obtain⟨z,hz,e⟩:=yb.mp h;exact mX hf z hz e
 ·rw[vx]
  refine eB J.na fun h=>?_;obtain⟨z,hz,e⟩:=yb.mp h;obtain⟨dz,eo⟩:=(J.ac z hz).ob;rw[e,h0]at eo;cases eo
 ·rw[vx]
  refine eB J.nb fun h=>?_;obtain⟨z,hz,e⟩:=yb.mp h;have eo:=(J.ac z hz).ls;rw[e,h1]at eo;cases eo
theorem fE{H H':Hp}{x dx:Addr}{o o':HO}(hx:H x=none)(hd:H dx=none)(kp:Keep [x] (upd (upd H dx o) x o') H'):Keep [] H H':=fun c z e _=>by
 have n1:c≠x:=aC e hx;have n2:c≠dx:=aC e hd;exact kp c z (by rw[ah n1,ah n2];exact e) (by simpa using n1)
theorem dP{H:Hp}{x dx b:Addr}{o o':HO}(h:upd (upd H dx o) x o' b=none):H b=none:=by
 have n1:b≠x:=fun z=>by rw[z,ad]at h;cases h
 rw[ah n1]at h;have n2:b≠dx:=fun z=>by rw[z,ad]at h;cases h
 rw[ah n2]at h;exact h
abbrev KDS:List (List Nat):=[[104,97,118,101],[111,119,101],[111,119,110],[103,97,105,110],[99,111,115,116]]
def sp_uK(C A:Addr):Sp:=sp3 fun x y z H Q _=>NoT H/\asR x fun p=>asT y fun l=>nm l=true/\asT z fun kd=>kd∈KDS/\∃d cs,CAt C A H p d cs/\cs.length<=100/\fnd cs l=none /\
 (∀c H',c.pa=l->c.ki=L2.T kd->c.cu = .non->c.fi=0->c.un=none->c.be=[]->H c.ob=none->H c.bl=none->CAt C A H' p d (cs++[c])->Keep [d] H H'->NoT H'->Q .non H')
theorem Be{l:List Nat}(h:l∈KDS):inV (L2.T l) (KDS.map L2.T)=true:=by
 simp only[z6,yj,or_false]at h;rcases h with rfl|rfl|rfl|rfl|rfl <;> decide
theorem Gy{l:List Nat}(h:nm l=true):ok l:=by
 obtain⟨_,h2,h3⟩:=lD h;exact⟨fun c hc=>by have:=h3 c hc;lia,by lia⟩
theorem lF(T:Txt K mg a):Mo P w K mg base a.aO "add_top" 4 (sp_uK a.aO a.aE):=by
 refine T.lV.x3 ["self","name","kind"] fun x0 x1 x2 fA cdv A outer s H Q E ND HU hr h=>?_;obtain⟨hN,h1⟩:=h;obtain⟨p,rfl,h2⟩:=asR.inv h1;obtain⟨l,rfl,e,h3⟩:=asT.inv h2;obtain⟨kd,rfl,hz,d,cs,J,len,ef,k⟩:=asT.inv h3;obtain⟨dx,hp⟩:=J.ob;refine⟨_,(af (aW (bK (bx (aI (oy T) hr aD (fa1 (fv 1))))) (ag (bN T.yQ T.xD ba)) aL)
  (af (aW (jx (yz K) (fv 2) (wE (v:=.ref a.ka) rfl T.BV rfl) (by with_unfolding_all rfl)) (ag (bN T.p9 T.pI ba)) aL)
  (af (aW (dN (vz (Zp HU) (fv 1) (aY K (fv 0))) (by with_unfolding_all rfl)) (ag (bN T.wY T.wM ba)) aL)
  (ag (gj (Zp HU) (aY K (fv 0)) (fv 1) (D4 T.nO (e6 T) (hr.mono (by decide)) rfl T.ph aD (fa3 (fv 2) da aa)) rfl))))),?_⟩
 walk_at "rd";refine⟨hN,Gy e,itn (by rw[e];decide) ?_⟩;refine⟨_,.inr (.inr T.ka),rfl,by decide,?_⟩;rw[show inV (L2.T kd) _=true from Be hz,if_neg (by decide)];refine⟨_,_,_,_,hp,T.a_,T.bF,lkp _,d,_,rfl,DGet.k (k:=.inr ⟨⟨l⟩⟩) J.dc,?_⟩;rw[iR,Yv,ef,if_neg (by intro z;cases z)];intro x dx hx hdx ne;refine⟨az (az hN rfl) rfl,_,ad,fun b H' hb h1 h2 kp hN'=>?_⟩;have kp0:=fE hx hdx kp;have J1:=J.keep kp0 yj yj fun _ _=>⟨yj,yj⟩;obtain⟨dx1,hp1⟩:=J1.ob
 let c:Acc:=⟨l,x,b,L2.T kd,.non,0,none,[]⟩
 have smk:(cs.map kyA).length<sizeLine:=by rw[zB,xM];lia
 refine⟨_,_,_,_,hp1,T.a_,T.bF,lkp _,d,_,rfl,DPut.k (k:=.inr ⟨⟨l⟩⟩) J1.dc smk,?_⟩;rw[sx ef c rfl];exact k c _ rfl rfl rfl rfl rfl rfl hx (dP hb) (J.more kp0 ef hx (dP hb) ⟨⟨dx,h1⟩,h2⟩) ((kp0.mono (fun _ h=>nomatch h)).put (.head _)) (az hN' rfl)
theorem nK(s x:List Nat):∀(r:List (List Nat)),r≠[]->cq s (r++[x])=cq s r++s++x
 | [],h=>absurd rfl h
 | [y],_=>by simp[cq]
 |y::z::r,_=>by
  have:=nK s x (z::r) (by simp);rw[ZU,ZU,cq,<- ZU,this,cq];simp
theorem fU{v n:List Nat}(hn:58∉n):spN 58 (v++58::n)=spN 58 v++[n]:=by
 have h:=mZ 58 (spN 58 v++[n]) (by simp) fun p hp=>by
  rcases yI.mp hp with h|h
  ·exact iS 58 v p h
  ·rw[zv.mp h];exact hn
 rw[nK _ _ _ (jE 58 v),nV]at h;rw[<- h];simp
theorem C1{v n:List Nat}(hn:58∉n):abN (v++58::n)=abN v++[v]:=by
 unfold abN;rw[fU hn,yk,si,Nat.add_sub_cancel];have hp:0<(spN 58 v).length:=List.length_pos_iff.mpr (jE 58 v);obtain⟨m,hm⟩:∃m,(spN 58 v).length=m+1:=⟨(spN 58 v).length-1,by lia⟩;rw[hm,List.range_succ,vx,Nat.add_sub_cancel]
 congr 1
 ·apply r6
  intro k hk;have:=List.mem_range.mp hk;rw[List.take_append_of_le_length (by lia)]
 ·rw[List.map_singleton,<- hm,List.take_left',nV]
  rfl
def fS(cs:List Acc)(l:List Nat)(f:Acc->Acc):List Acc:=cs.map fun z=>if z.pa=l then f z else z
theorem d6{β:Type}{cs:List Acc}{l:List Nat}{f:Acc->Acc}(g:Acc->β)(h:∀z,g (f z)=g z):(fS cs l f).map g=cs.map g:=by
 unfold fS;rw[uR];apply r6;intro z _;show g (if z.pa=l then f z else z)=g z;split
 ·exact h z
 ·rfl
theorem eR{cs:List Acc}{l:List Nat}{f:Acc->Acc}{z:Acc}(h:z∈fS cs l f):∃y∈cs,z=if y.pa=l then f y else y:=by
 obtain⟨y,hy,e⟩:=yb.mp h;exact⟨y,hy,e.symm⟩
def grw(l:List Nat)(z:Acc):Acc:={ z with be:=z.be++[l] }
def shu(t:Int)(z:Acc):Acc:={ z with un:=some t }
theorem CAt.grow{C A:Addr}{H:Hp}{p d:Addr}{cs:List Acc}(J:CAt C A H p d cs){u:Acc}(hu:u∈cs)(l:List Nat):CAt C A (upd H u.bl (.lst (u.be.map L2.T++[L2.T l]))) p d (fS cs u.pa (grw l)):=by
 refine⟨?_,?_,fun z hz=>?_,?_,?_,?_⟩
 ·obtain⟨dx,e⟩:=J.ob
  exact⟨dx,(ah (J.p_bl hu)).trans e⟩
 ·rw[d6 (f:=grw l) kyA fun _=>rfl,ah (Ne.symm (J.bl_d hu))];exact J.dc
 ·obtain⟨y,hy,e⟩:=eR hz
  obtain⟨dy,ho⟩:=(J.ac y hy).ob;by_cases h:y.pa=u.pa
  ·have:y=u:=iZ J.np hy hu h
   subst this;rw[if_pos rfl]at e;subst e;exact⟨⟨dy,(ah (J.ob_bl hy hu)).trans ho⟩,by show upd H y.bl _ y.bl=some (.lst ((y.be++[l]).map L2.T));rw[ad,vx];rfl⟩
  ·rw[if_neg h]at e
   subst e;have nb:z.bl≠u.bl:=fun q=>h (by rw[iZ J.nb hy hu q]);exact⟨⟨dy,(ah (J.ob_bl hy hu)).trans ho⟩,(ah nb).trans (J.ac z hy).ls⟩
 ·rw[d6 (f:=grw l) _ fun _=>rfl];exact J.np
 ·rw[d6 (f:=grw l) _ fun _=>rfl];exact J.na
 ·rw[d6 (f:=grw l) _ fun _=>rfl];exact J.nb
theorem zf{cs:List Acc}{v l:List Nat}{f:Acc->Acc}(hf:∀z,(f z).pa=z.pa)(h:fnd cs l=none):fnd (fS cs v f) l=none:=by
 refine List.find?_eq_none.mpr fun z hz=>?_;obtain⟨y,hy,e⟩:=eR hz;have:=mX h y hy;subst e;split
 ·simpa [hf] using this
 ·simpa using this
theorem C7{p q:Prop}(f:p->q)(x:p):q:=f x
theorem EI{x:V}{l:List Nat}{f:List Nat->Prop}(h:x=L2.T l)(k:f l):asT x f:=by subst h;exact k
def sp_Et(C A:Addr):Sp:=sp4 fun x y z t H Q _=>NoT H/\asR x fun p=>asT y fun l=>((∀c∈l,c<128)/\l.length<=199)/\(z = .non\/∃cl,z=L2.T cl/\cur cl=true)/\asI t fun day=>(0<=day/\day<=146096)/\∃v n d cs u,l=v++58::n/\58∉n/\jX l=true/\CAt C A H p d cs/\cs.length<=100/\(∀c∈cs,c.be.length<=100) /\
 fnd cs l=none/\u∈cs/\u.pa=v/\u.un=none/\u.fi<=day /\
 ∀c H',c.pa=l->c.ki=u.ki->c.cu=z->c.fi=day->c.un=none->c.be=[]->H c.ob=none->H c.bl=none->CAt C A H' p d (fS cs v (grw l)++[c])->Keep (d::cs.map (·.bl)) H H'->NoT H'->Q .non H'
theorem j6(T:Txt K mg a):Mo P w K mg base a.aO "add" 7 (sp_Et a.aO a.aE):=by
 refine T.sQ.x4 ["self","path","currency","day","upper"] fun x0 x1 x2 x3 fA cdv A outer s H Q E ND HU hr h=>?_;obtain⟨hN,h1⟩:=h;obtain⟨p,rfl,h2⟩:=asR.inv h1;obtain⟨l,rfl,hl,hz,h3⟩:=asT.inv h2;obtain⟨day,rfl,hd,v,n,d,cs,u,el,hn,e,J,len,lb,ef,hu,pu,un,uf,k⟩:=asI.inv h3;obtain⟨dx,hp⟩:=J.ob
 skip
 have c4:∃z,PSs (cL (XE P w) P w K mg base ["self","path","currency","day","upper"] "Chart.add" (ae dL) fA cdv A outer s H E) (Z1 4 (au dL)) z/\z { nx:=fun _ H'=>Q .non H',rt:=Q } [some (.ref p),some (L2.T l),some x2,some (.int day),none] H:=by
  refine⟨_,(af (aT 4 ND (bI (fv 0) T.a_ (b8 T) (hr.mono (by decide)) aD (fa1 (DP (aA K (aI (zL T) hr aD (fa1 (fv 1))) (Au vt aa))))))
   (af (aW (L2.PW.pt (fI (dN (cJ (aY K (fv 4)))) (eD (bK (bx (bI (fv 4) T.a7 (eQ T) (hr.mono (by decide)) aD (fa1 (fv 3)))))))) (ag (bN T.gN T.gO ba)) aL)
   (af (bd (eA K Zh ZX ZY eh (aY K (fv 4)) (fa1 (fv 1))))
   (ag (gj (Zp HU) (aY K (fv 0)) (fv 1) (D4 T.nO (e6 T) (hr.mono (by decide)) rfl T.ph aD (fa3 (aY K (fv 4)) (fv 2) (fv 3))) rfl))))),?_⟩
  walk_at "rd";refine⟨_,_,hp,fM _,hN,hN,hl,fun q2 hq2=>⟨_,L2.T v,.inl (SqL.of ad),?_,?_⟩⟩
  ·rw[el,C1 hn,vx];exact zu _ _
  refine⟨H,Gc.none (aj _ hq2),hN,?_⟩;walk_at "rd";refine⟨d,cs,u,J,hu,pu,?_⟩;obtain⟨du,ho⟩:=(J.ac u hu).ob;refine⟨_,_,_,_,ho,T.a7,T.bP,fu ..,?_⟩;rw[un];have eo:opn u.fi u.un day=true:=by rw[un];unfold opn;rw[decide_eq_true uf];rfl
  refine itp rfl ⟨_,_,ho,GA ..,hN,_,_,_,_,_,_,ho,?_⟩;rw[eo];have sml:(u.be.map L2.T).length<sizeLine:=by have:=lb u hu;rw[zB,xM];lia
  refine itn (by decide) ⟨_,_,_,_,ho,T.a7,T.eU,fb ..,.inl ⟨rfl,_,SqL.of (J.ac u hu).ls⟩,u.bl,_,_,rfl,rfl,(J.ac u hu).ls,sml,?_⟩;have J1:=J.grow hu l;have N1:NoT (upd H u.bl (.lst (u.be.map L2.T++[L2.T l]))):=az hN rfl;have ho1:=(ah (o:=.lst (u.be.map L2.T++[L2.T l])) (J.ob_bl hu hu)).trans ho;have K1:Keep (d::cs.map (·.bl)) H (upd H u.bl (.lst (u.be.map L2.T++[L2.T l]))):=Keep.refl.put (.tail _ (xp hu));have n58:∀q,upd H u.bl (.lst (u.be.map L2.T++[L2.T l])) q=none->H q=none:=fun q hq=>by
   by_cases hc:q=u.bl
   ·rw[hc,ad]at hq;cases hq
   ·rw[ah hc]at hq;exact hq
  generalize upd H u.bl (.lst (u.be.map L2.T++[L2.T l]))=H1 at J1 N1 ho1 K1 n58 |-
  refine⟨_,_,_,_,ho1,T.a7,T.fH,fk ..,fun x dx1 hx hdx ne=>?_⟩;refine⟨az (az N1 rfl) rfl,_,ad,fun b H' hb h1 h2 kp hN'=>?_⟩;have kp0:=fE hx hdx kp;have J2:=J1.keep kp0 yj yj fun _ _=>⟨yj,yj⟩;obtain⟨dx2,hp2⟩:=J2.ob
  let c:Acc:=⟨l,x,b,u.ki,x2,day,none,[]⟩
  have smk:((fS cs u.pa (grw l)).map kyA).length<sizeLine:=by rw[d6 (f:=grw l) kyA fun _=>rfl,zB,xM];lia
  have ef1:fnd (fS cs u.pa (grw l)) l=none:=zf (fun _=>rfl) ef;refine⟨_,_,_,_,hp2,T.a_,T.bF,lkp _,d,_,rfl,DPut.k (k:=.inr ⟨⟨l⟩⟩) J2.dc smk,?_⟩;rw[sx ef1 c rfl];have J3:=J1.more kp0 (c:=c) ef1 hx (dP hb) ⟨⟨dx1,h1⟩,h2⟩;rw[pu]at J3 |-
  exact k c _ rfl rfl rfl rfl rfl rfl (n58 _ hx) (n58 _ (dP hb)) J3 ((K1.trans (kp0.mono (fun _ h=>nomatch h))).put (.head _)) (az hN' rfl)
 obtain⟨u4,hu4,c4⟩:=c4;refine⟨_,(af (aW (jq (aS (cM K HU) (aH (bh K) rfl T.b6 bA (fa1 (aI (tV T) hr aD (fa1 (fv 1))))) aa)) (ag (bN T.lB T.k9 ba)) aL)
  (af (aW (L2.PW.pt (fO (dN (cJ (fv 2))) (d7 (bK (bx (aI (iJ T) hr aD (fa1 (fv 2)))))))) (ag (bN T.gv T.gw ba)) aL)
  (af (aW (bK (bx (aI (iP T) hr aD (fa1 (fv 3))))) (ag (bN T.jT T.jM ba)) aL)
  (af (aW (dN (vz (Zp HU) (fv 1) (aY K (fv 0))) (by with_unfolding_all rfl)) (ag (bN T.wY T.wM ba)) aL)
  hu4)))),?_⟩
 walk_at "rd";refine⟨hN,hN,hl,e,fun q hq=>?_⟩;refine⟨_,.inl (SqL.of ad),H,Gc.none (aj _ hq),?_⟩;rw[zB,el,fU hn,yk,if_neg (by
  have hp:0<(spN 58 v).length:=List.length_pos_iff.mpr (jE 58 v);simp only[si];lia)]
 rw[<- el];refine' C7 (fun key=>_) _
 rotate_left 1
 ·rcases hz with hz|⟨cl',hz,hcl⟩
  ·exact itp hz key
  ·exact itn (by rw[hz];intro z;cases z) ⟨hN,EI hz ⟨hcl,key⟩⟩
 have ed:amg (.int day) 0 146096=true:=by show(decide (0<=day)&&decide (day<=146096))=true;rw[decide_eq_true hd.1,decide_eq_true hd.2];rfl
 rw[ed];refine⟨hN,itn (by decide) ⟨_,_,_,_,hp,T.a_,T.bF,lkp _,d,_,rfl,DGet.k (k:=.inr ⟨⟨l⟩⟩) J.dc,?_⟩⟩;rw[iR,Yv,ef,if_neg (by intro z;cases z)];exact c4
end
open PySem L2 K19 K22
section
variable{P:Program}{w:World}{K:W.Frag}{mg:Str->Option Value}{base:Heap}{a:Adr}
theorem CAt.shutA{C A:Addr}{H:Hp}{p d:Addr}{cs:List Acc}(J:CAt C A H p d cs){u:Acc}(hu:u∈cs)(t:Int){dx:Addr}(ho:H u.ob=some (.ins A dx (gB u.ki u.cu (.int u.fi) (cl u.un) (.ref u.bl)))):CAt C A (upd H u.ob (.ins A dx (gB u.ki u.cu (.int u.fi) (.int t) (.ref u.bl)))) p d (fS cs u.pa (shu t)):=by
 have pob:p≠u.ob\/p=u.ob:=(Decidable.em _).symm;refine⟨?_,?_,fun z hz=>?_,?_,?_,?_⟩
 ·obtain⟨dp,e⟩:=J.ob
  have:p≠u.ob:=aU e ho;exact⟨dp,(ah this).trans e⟩
 ·rw[d6 (f:=shu t) kyA fun _=>rfl,ah (Ne.symm (J.ob_d hu))];exact J.dc
 ·obtain⟨y,hy,e⟩:=eR hz
  obtain⟨dy,hoy⟩:=(J.ac y hy).ob;by_cases h:y.pa=u.pa
  ·have:y=u:=iZ J.np hy hu h
   subst this;rw[if_pos rfl]at e;subst e;exact⟨⟨dx,ad⟩,(ah (Ne.symm (J.ob_bl hy hu))).trans (J.ac y hy).ls⟩
  ·rw[if_neg h]at e
   subst e;have nb:z.ob≠u.ob:=fun q=>h (by rw[iZ J.na hy hu q]);exact⟨⟨dy,(ah nb).trans hoy⟩,(ah (Ne.symm (J.ob_bl hu hy))).trans (J.ac z hy).ls⟩
 ·rw[d6 (f:=shu t) _ fun _=>rfl];exact J.np
 ·rw[d6 (f:=shu t) _ fun _=>rfl];exact J.na
 ·rw[d6 (f:=shu t) _ fun _=>rfl];exact J.nb
def sp_Dh(C A:Addr):Sp:=sp3 fun x y z H Q _=>NoT H/\asR x fun p=>asT y fun l=>((∀c∈l,c<128)/\l.length<=199)/\asI z fun day=>(0<=day/\day<=146096)/\∃d cs u,CAt C A H p d cs/\u∈cs/\u.pa=l/\jX l=true/\u.un=none/\u.fi<day/\u.be=[] /\
 ∀H',CAt C A H' p d (fS cs l (shu day))->Keep (cs.map (·.ob)) H H'->NoT H'->Q .non H'
theorem jk(T:Txt K mg a):Mo P w K mg base a.aO "shut" 6 (sp_Dh a.aO a.aE):=by
 refine T.qg.x3 ["self","path","day","account"] fun x0 x1 x2 fA cdv A outer s H Q E ND HU hr h=>?_;obtain⟨hN,h1⟩:=h;obtain⟨p,rfl,h2⟩:=asR.inv h1;obtain⟨l,rfl,hl,h3⟩:=asT.inv h2;obtain⟨day,rfl,hd,d,cs,u,J,hu,pu,e,un,uf,ub,k⟩:=asI.inv h3;obtain⟨dx,hp⟩:=J.ob;refine⟨_,(af (aW (bK (bx (aI (mV T) hr aD (fa1 (fv 1))))) (ag (bN T.lB T.k9 ba)) aL)
  (af (aT 3 ND (bI (fv 0) T.a_ (b8 T) (hr.mono (by decide)) aD (fa1 (fv 1))))
  (af (aW (L2.PW.pt (fI (bK (bx (aI (iP T) hr aD (fa1 (fv 2))))) (eD (aS d_ (fv 2) (aY K (fv 3)))))) (ag (bN T.jT T.jM ba)) aL)
  (af (aW (dN (cJ (aY K (fv 3)))) (ag (bN T.gN T.gO ba)) aL)
  (af (aW (jq (bx (aH (xa K rfl) rfl T.D6 BI (fa1 (bz rfl (cl:=_) (x:="lower") (xs:=["lower"]) (fr:=["day","self"]) (ks:=[2,0]) (by walk_at "cq") rfl (bw K (aY K (fv 3))) (fun _ _ _ _ _=>(aM (i:=0) (cc (l:=["lower","day","self"]) (by decide)) rfl (Or.inl rfl))) (fun _ _ _ _ _=>dU) (fun _ _ _ _ _=>(bI (bL (Zp HU) (aY K (fv 2)) (fv 0) (fun _ _=>rfl)) T.a7 (gT T) (hr.mono (by decide)) pO (fa1 (fv 1))))))))) (ag (bN T.vG T.vg ba)) aL)
  (ag (df K (fv 3) (fv 2)))))))),?_⟩
 walk_at "rd";refine⟨hN,hl,itn (by rw[e];decide) ?_⟩;refine⟨_,_,hp,fM _,hN,d,cs,u,J,hu,pu,?_⟩;obtain⟨du,ho⟩:=(J.ac u hu).ob;refine⟨hN,?_⟩;have ed:amg (.int day) 0 146096=true:=by show(decide (0<=day)&&decide (day<=146096))=true;rw[decide_eq_true hd.1,decide_eq_true hd.2];rfl
 rw[ed];refine itn (by decide) ⟨_,_,_,_,ho,T.a7,T.eW,ff ..,?_⟩;walk_at "rd";refine itn (by lia) ⟨_,_,_,_,ho,T.a7,T.bP,fu ..,?_⟩;rw[un];refine itp rfl ⟨hN,?_⟩;have hb:SqL K H u.bl []:=SqL.of (by rw[(J.ac u hu).ls,ub];rfl);refine cmL u.bl [] (fun H'=>SqL K H' u.bl []) (fun D ys hD=>hb.same (aj _ hD)) (fun H' c=>c) (fun _=>true) (fun x=>x) (fun R r=>?_) hb (xm _) (fun x hx=>nomatch hx) (fun x hx=>nomatch hx) (fun D hD=>?_)
 ·walk_at "rd"
  exact⟨_,_,_,_,ho,T.a7,T.eU,fb ..,r⟩
 ·refine⟨[],SqL.of ad,H,Gc.none (aj _ hD),itn (by decide) ⟨_,_,_,ho,T.a7,T.bP,by show 5<1000;decide,?_⟩⟩
  rw[Hv];have J1:=J.shutA hu day ho;rw[pu]at J1;exact k _ J1 (Keep.refl.put (xp hu)) (az hN rfl)
end
open PySem L2 K19 K22
section
variable{P:Program}{w:World}{K:W.Frag}{mg:Str->Option Value}{base:Heap}{a:Adr}
open K3
theorem iO(i lo hi:Int):amg (.int i) lo hi=(decide (lo<=i)&&decide (i<=hi)):=rfl
def cZ(C dx:Addr)(v:V):HO:=.ins C dx [("last_closed",v)]
def sp_xp(C:Addr):Sp:=sp1 fun x H Q _=>asR x fun p=>∃dx,H p=some (.ins C dx [])/\Q .non (upd H p (cZ C dx .non))
theorem lG(T:Txt K mg a):Mo P w K mg base a.a8 "__init__" 1 (sp_xp a.a8):=by
 refine T.lZ.x1 ["self"] fun x0 fA cdv A outer s H Q E ND HU hr h=>?_;obtain⟨p,rfl,dx,hp,k⟩:=asR.inv h;refine⟨_,(ag (df K (fv 0) da)),?_⟩;walk_at "rd";exact⟨_,_,_,hp,T.bW,T.bj,by decide,k⟩
theorem lk1(v:V):xt (zI "last_closed") [(zI "last_closed",v)]=some v:=by simp[xt]
def sp_sT(C:Addr):Sp:=sp1 fun x H Q _=>NoT H/\asR x fun p=>∃dx v,H p=some (cZ C dx v)/\Q v H
theorem cQ(T:Txt K mg a):Mo P w K mg base a.a8 "closed" 1 (sp_sT a.a8):=by
 refine T.o5.g1 ["self"] fun x0 fA cdv A outer s H Q E ND HU hr h=>?_;obtain⟨hN,h1⟩:=h;obtain⟨p,rfl,dx,v,hp,k⟩:=asR.inv h1;refine⟨hN,_,(ag (aJ (aY K (fv 0)))),?_⟩;walk_at "rd";exact⟨_,_,_,_,hp,T.bW,T.bj,lk1 v,k⟩
def sp_yj(C:Addr):Sp:=sp2 fun x y H Q _=>NoT H/\asR x fun p=>asI y fun d=>(0<=d/\d<=146096)/\∃dx o,H p=some (cZ C dx (cl o))/\Q (.bl (match o with|none=>true|some m=>decide (m<MO d))) H
theorem qF(T:Txt K mg a):Mo P w K mg base a.a8 "lets" 5 (sp_yj a.a8):=by
 refine T.sI.g2 ["self","day"] fun x0 x1 fA cdv A outer s H Q E ND HU hr h=>?_;obtain⟨hN,h1⟩:=h;obtain⟨p,rfl,h2⟩:=asR.inv h1;obtain⟨d,rfl,hd,dx,o,hp,k⟩:=asI.inv h2;refine⟨hN,_,(ag (aJ (Bj (qG (nW (aY K (fv 0)))) (dH (cY lO (aI (tU T) hr aD (fa1 (fv 1))) (aY K (fv 0)) (dY _)))))),?_⟩;walk_at "rd";refine⟨_,_,_,_,hp,T.bW,T.bj,lk1 _,?_⟩;cases o with
 |none=>exact k
 |some m=>
  rw[if_neg (by intro z;cases z)];exact⟨hN,hd,_,_,_,_,hp,T.bW,T.bj,lk1 _,H,Gc.refl,k⟩
def sp_xC(C:Addr):Sp:=sp2 fun x y H Q _=>NoT H/\asR x fun p=>asI y fun m=>∃dx o,H p=some (cZ C dx (cl o))/\(0<=m/\m<=4799)/\(o=none\/o=some (m-1))/\Q .non H
theorem gb(T:Txt K mg a):Mo P w K mg base a.a8 "need_next" 4 (sp_xC a.a8):=by
 refine T.kX.g2 ["self","month"] fun x0 x1 fA cdv A outer s H Q E ND HU hr h=>?_;obtain⟨hN,h1⟩:=h;obtain⟨p,rfl,h2⟩:=asR.inv h1;obtain⟨m,rfl,dx,o,hp,hm,ho,k⟩:=asI.inv h2;refine⟨hN,_,(af (aW (bK (bx (aI (iC T) hr aD (fa1 (fv 1))))) (ag (bN T.og T.ot ba)) aL)
  (ag (aW (L2.PW.pt (fO (dN (cJ (aY K (fv 0)))) (d7 (aS (bV K HU) (fv 1) (av aN (aY K (fv 0)) aa))))) (ag (bN T.xB T.yl ba)) aL))),?_⟩
 walk_at "rd";rw[iO,decide_eq_true hm.1,decide_eq_true hm.2];refine⟨hN,itn (by decide) ⟨_,_,_,_,hp,T.bW,T.bj,lk1 _,?_⟩⟩;rcases ho with rfl|rfl
 ·exact k
 ·refine itn (by intro z;cases z) ⟨_,_,_,_,hp,T.bW,T.bj,lk1 _,?_⟩
  show yf (.int (m-1)) (.int 1) H _;walk_at "rd";exact itp (by lia) k
def sp_x_(C:Addr):Sp:=sp2 fun x y H Q _=>NoT H/\asR x fun p=>asI y fun m=>∃dx o,H p=some (cZ C dx (cl o))/\(0<=m/\m<=4799)/\(o=none\/o=some (m-1))/\Q .non (upd H p (cZ C dx (.int m)))
theorem qw(T:Txt K mg a):Mo P w K mg base a.a8 "shut" 5 (sp_x_ a.a8):=by
 refine T.sj.x2 ["self","month"] fun x0 x1 fA cdv A outer s H Q E ND HU hr h=>?_;obtain⟨hN,h1⟩:=h;obtain⟨p,rfl,h2⟩:=asR.inv h1;obtain⟨m,rfl,dx,o,hp,hm,ho,k⟩:=asI.inv h2;refine⟨_,(af (bd (bI (fv 0) T.bW (gb T) (hr.mono (by decide)) aD (fa1 (fv 1))))
  (ag (df K (fv 0) (fv 1)))),?_⟩
 walk_at "rd";have pf:dI (zI "last_closed") (.int m) [(zI "last_closed",cl o)]=[(zI "last_closed",.int m)]:=by simp[dI]
 refine⟨_,_,hp,aR (by decide +kernel),hN,dx,o,hp,hm,ho,_,_,_,hp,T.bW,T.bj,by show 1<1000;decide,?_⟩;rw[pf];exact k
def G9(C dx b u:Addr):HO:=.ins C dx [("bookings",.ref b),("undoings",.ref u)]
theorem lkb(x y:V):xt (zI "bookings") [(zI "bookings",x),(zI "undoings",y)]=some x:=by simp[xt]
theorem lku(x y:V):xt (zI "undoings") [(zI "bookings",x),(zI "undoings",y)]=some y:=by rw[aR (by decide +kernel)];exact iA
structure JAt(C:Addr)(H:Hp)(p b u:Addr)(bs:List V)(kvs:List (Key × V)):Prop where
 ob:∃dx,H p=some (G9 C dx b u)
 ls:H b=some (.lst bs)
 dc:H u=some (.dK kvs)
theorem JAt.keep{C:Addr}{S:List Addr}{H H':Hp}{p b u:Addr}{bs:List V}{kvs:List (Key × V)}(j:JAt C H p b u bs kvs)(x:Keep S H H')(hp:p∉S)(hb:b∉S)(hu:u∉S):JAt C H' p b u bs kvs:=
 ⟨by obtain⟨dx,e⟩:=j.ob;exact⟨dx,x _ _ e hp⟩,x _ _ j.ls hb,x _ _ j.dc hu⟩
def sp_xx(C:Addr):Sp:=sp1 fun x H Q _=>NoT H/\asR x fun p=>∃dx,H p=some (.ins C dx [])/\∀b u H',H b=none->H u=none->JAt C H' p b u [] []->Keep [p] H H'->NoT H'->Q .non H'
theorem je(T:Txt K mg a):Mo P w K mg base a.aP "__init__" 1 (sp_xx a.aP):=by
 refine T.jG.x1 ["self"] fun x0 fA cdv A outer s H Q E ND HU hr h=>?_;obtain⟨hN,h1⟩:=h;obtain⟨p,rfl,dx,hp,k⟩:=asR.inv h1;refine⟨_,(af (df K (fv 0) (bU (FA.pa cn)))
  (ag (df K (fv 0) qP))),?_⟩
 walk_at "rd";refine⟨xm _,fun b hb=>?_⟩;have np:p≠b:=aC hp hb;refine⟨_,_,_,(ah np).trans hp,T.bc,T.bn,by show 0<1000;decide,fun u hu=>?_⟩;have nu:p≠u:=fun q=>by rw[<- q,ad]at hu;cases hu
 have nb:b≠u:=fun q=>by rw[<- q,ah (Ne.symm np),ad]at hu;cases hu
 refine⟨_,_,_,(ah nu).trans ad,T.bc,T.dF,by show 1<1000;decide,?_⟩;have hu0:H u=none:=by
  rw[ah (Ne.symm nu),ah (Ne.symm nb)]at hu;exact hu
 refine k b u _ hb hu0 ⟨⟨dx,?_⟩,?_,?_⟩ ?_ ?_
 ·rw[ad]
  have e:dI (zI "undoings") (V.ref u) (dI (zI "bookings") (V.ref b) [])=[(zI "bookings",.ref b),(zI "undoings",.ref u)]:=by
   have q:¬ (zI "bookings" = zI "undoings"):=by decide +kernel
   simp[dI,q]
  rw[e];rfl
 ·rw[ah (Ne.symm np),ah nb,ah (Ne.symm np),ad]
 ·rw[ah (Ne.symm nu),ad]
 ·exact(((Keep.refl.new hb).put (zv.2 rfl)).new hu).put (zv.2 rfl)
 ·exact az (az (az (az hN rfl) rfl) rfl) rfl
def sp_At(K:W.Frag)(C:Addr):Sp:=sp5 fun x d n r o H Q _=>NoT H/\asR x fun p=>asR r fun r=>∃b u bs kvs rs,JAt C H p b u bs kvs/\bs.length<=100/\kvs.length<=100/\(SqL K H r rs\/H r=some (.tup rs))/\(o = .non\/∃i,o = .int i) /\
 ∀t q H',H t=none\/H t=some (.tup rs)->H' t=some (.tup rs)->H q=none->H' q=some (.tup [.int bs.length,d,n,.ref t,o])->JAt C H' p b u (bs++[.ref q]) (match o with | .int i=>e9 kvs (.inl i) (.int bs.length)|_=>kvs)->Keep [b,u] H H'->NoT H'->Q (.int bs.length) H'
theorem fJ(T:Txt K mg a):Mo P w K mg base a.aP "put" 1 (sp_At K a.aP):=by
 refine T.oI.x5 ["self","day","note","rows","undoes","number"] fun x0 x1 x2 x3 x4 fA cdv A outer s H Q E ND HU hr h=>?_;obtain⟨hN,h1⟩:=h;obtain⟨p,rfl,h2⟩:=asR.inv h1;obtain⟨r,rfl,b,u,bs,kvs,rs,J,l1,l2,hs,ho,k⟩:=asR.inv h2;obtain⟨dx,hp⟩:=J.ob;refine⟨_,(af (aT 5 ND (aH (bh K) rfl T.b6 bA (fa1 (aY K (fv 0)))))
  (af (bd (eA K Zh ZX ZY eh (aY K (fv 0)) (fa1 (bG (fa5 (fv 5) (fv 1) (fv 2) (b5 (kx K) rfl T.ky iy (fa1 (fv 3))) (fv 4))))))
  (af (aW (dN (cJ (fv 4))) (ag (gj (Zp HU) (aY K (fv 0)) (fv 4) (fv 5) rfl)) aL)
  (ag (aJ (fv 5)))))),?_⟩
 walk_at "rd";refine⟨_,_,_,_,hp,T.bc,T.bn,lkb _ _,bs,.inl (.inl (.inl J.ls)),_,_,_,_,hp,T.bc,T.bn,lkb _ _,.inl ⟨rfl,bs,.inl (.inl J.ls)⟩,rs,?_⟩;have five:5<=sizeLine:=by rw[xM];decide
 have sml:bs.length<sizeLine:=by rw[xM];lia
 have smk:kvs.length<sizeLine:=by rw[xM];lia
 have nb:p≠b:=aU hp J.ls;have nu:p≠u:=aU hp J.dc;have bu:b≠u:=aU J.ls J.dc;have fin:∀t H1,H t=none\/H t=some (.tup rs)->H1 t=some (.tup rs)->Same H H1->NoT H1->∀q,H1 q=none->∃l xs y,V.ref b=V.ref l/\V.ref q=y/\upd H1 q (HO.tup [.int bs.length,x1,x2,V.ref t,x4]) l=some (HO.lst xs)/\xs.length<sizeLine /\
  if x4=V.non then Q (.int bs.length) (upd (upd H1 q (HO.tup [.int bs.length,x1,x2,V.ref t,x4])) l (HO.lst (xs++[y]))) else
   ∃C dx fs v,upd (upd H1 q (HO.tup [V.int bs.length,x1,x2,V.ref t,x4])) l (HO.lst (xs++[y])) p=some (HO.ins C dx fs)/\Cls K C/\NoAttr K C (zI "undoings")/\xt (zI "undoings") fs=some v /\
    ∃a H4,v=V.ref a/\DPut (upd (upd H1 q (HO.tup [V.int bs.length,x1,x2,V.ref t,x4])) l (HO.lst (xs++[y]))) a x4 (V.int bs.length) H4/\Q (V.int bs.length) H4:=by
  intro t H1 ht1 ht2 kp n1 q hq;have mb:b∈[b,u]:=.head _;have mu:u∈[b,u]:=.tail _ (.head _);have hp1:=kp _ _ hp;have hb1:=kp _ _ J.ls;have hu1:=kp _ _ J.dc;have qb:b≠q:=aC hb1 hq;have qu:u≠q:=aC hu1 hq;have qp:p≠q:=aC hp1 hq;have qt:t≠q:=aC ht2 hq;have tb:t≠b:=aU ht2 hb1;have tu:t≠u:=aU ht2 hu1;have q0:H q=none:=kp.free hq;generalize hz:HO.tup [V.int bs.length,x1,x2,V.ref t,x4]=z at *;have dz:iI z=true:=by rw[<- hz];rfl
  refine⟨b,bs,_,rfl,rfl,(ah qb).trans hb1,sml,?_⟩;have K2:Keep [b,u] H (upd (upd H1 q z) b (.lst (bs++[.ref q]))):=((Keep.same kp).new hq).put mb;have N2:NoT (upd (upd H1 q z) b (.lst (bs++[.ref q]))):=az (az n1 dz) rfl;rcases ho with rfl|⟨i,rfl⟩
  ·rw[if_pos rfl]
   refine k t q _ ht1 ?_ q0 ?_ ⟨⟨dx,?_⟩,ad,?_⟩ K2 N2
   ·rw[ah tb,ah qt];exact ht2
   ·rw[ah (Ne.symm qb),ad,hz]
   ·rw[ah nb,ah qp];exact hp1
   ·rw[ah (Ne.symm bu),ah qu];exact hu1
  ·rw[if_neg (by intro z;cases z)]
   refine⟨_,dx,[(zI "bookings",.ref b),(zI "undoings",.ref u)],_,?_,T.bc,T.dF,lku _ _,u,_,rfl,DPut.k (k:=.inl i) (kvs:=kvs) ?_ smk,?_⟩
   ·rw[ah nb,ah qp];exact hp1
   ·rw[ah (Ne.symm bu),ah qu];exact hu1
   ·refine k t q _ ht1 ?_ q0 ?_ ⟨⟨dx,?_⟩,?_,ad⟩ (K2.put mu) (az N2 rfl)
    ·rw[ah tu,ah tb,ah qt];exact ht2
    ·rw[ah (Ne.symm qu),ah (Ne.symm qb),ad,hz]
    ·rw[ah nu,ah nb,ah qp];exact hp1
    ·rw[ah bu,ad]
 rcases hs with hs|hs
 ·refine .inl ⟨hs,fun l hl=>⟨five,fin l _ (.inl hl) ad (aj _ hl) (az hN rfl)⟩⟩
 ·exact .inr ⟨.inl (.inl hs),five,fin r _ (.inr hs) hs (Same.refl _) hN⟩
def sp_xm(C:Addr):Sp:=sp1 fun x H Q _=>NoT H/\asR x fun p=>∃b u bs kvs,JAt C H p b u bs kvs/\Q (.int bs.length) H
theorem mD(T:Txt K mg a):Mo P w K mg base a.aP "many" 1 (sp_xm a.aP):=by
 refine T.ng.g1 ["self"] fun x0 fA cdv A outer s H Q E ND HU hr h=>?_;obtain⟨hN,h1⟩:=h;obtain⟨p,rfl,b,u,bs,kvs,J,k⟩:=asR.inv h1;obtain⟨dx,hp⟩:=J.ob;refine⟨hN,_,(ag (aJ (aH (bh K) rfl T.b6 bA (fa1 (aY K (fv 0)))))),?_⟩;walk_at "rd";exact⟨_,_,_,_,hp,T.bc,T.bn,lkb _ _,bs,.inl (.inl (.inl J.ls)),H,Gc.refl,k⟩
def sp_qU(C nb:Addr):Sp:=sp2 fun x y H Q E=>NoT H/\asR x fun p=>asI y fun i=>∃b u bs kvs,JAt C H p b u bs kvs/\0<=i/\((bs.length:Int)<=i->E (.ref nb) none H)/\∀(n:Nat) v,i=n->bs[n]? = some v->Q v H
theorem fR(T:Txt K mg a):Mo P w K mg base a.aP "booking" 3 (sp_qU a.aP a.b_):=by
 refine T.j5.g2 ["self","number"] fun x0 x1 fA cdv A outer s H Q E ND HU hr h=>?_;obtain⟨hN,h1⟩:=h;obtain⟨p,rfl,h2⟩:=asR.inv h1;obtain⟨i,rfl,b,u,bs,kvs,J,i0,k0,k⟩:=asI.inv h2;obtain⟨dx,hp⟩:=J.ob;refine⟨hN,_,(af (aW (bK (bx (aI (f_ T) hr aD (fa3 (fv 1) aa (av eC (aH (bh K) rfl T.b6 bA (fa1 (aY K (fv 0)))) aa))))) (ag (bN T.uj T.uo ba)) aL)
  (ag (aJ (aA K (aY K (fv 0)) (fv 1))))),?_⟩
 walk_at "rd";refine⟨_,_,_,_,hp,T.bc,T.bn,lkb _ _,bs,.inl (.inl (.inl J.ls)),?_⟩;show gI _ (.int _) (.int 1) H _;walk_at "rd";refine⟨hN,?_⟩;rw[iO,decide_eq_true i0];by_cases hi:i<=(bs.length:Int)-1
 ·obtain⟨n,rfl⟩:=Zn i0
  have hn:n<bs.length:=by lia
  rw[decide_eq_true hi];exact itn (by decide) ⟨_,_,_,_,hp,T.bc,T.bn,lkb _ _,bs,bs[n],.inl (.inl (.inl J.ls)),aq (List.getElem?_eq_getElem hn),H,Gc.refl,k n _ rfl (List.getElem?_eq_getElem hn)⟩
 ·rw[decide_eq_false hi]
  exact itp rfl ⟨by rw[xM];decide,k0 (by lia)⟩
def sp_vJ(C:Addr):Sp:=sp1 fun x H Q _=>NoT H/\asR x fun p=>∃b u bs kvs,JAt C H p b u bs kvs/\∀q,H q=none->Q (.ref q) (upd H q (.lst bs))
theorem gZ(T:Txt K mg a):Mo P w K mg base a.aP "every" 1 (sp_vJ a.aP):=by
 refine T.lX.g1 ["self"] fun x0 fA cdv A outer s H Q E ND HU hr h=>?_;obtain⟨hN,h1⟩:=h;obtain⟨p,rfl,b,u,bs,kvs,J,k⟩:=asR.inv h1;obtain⟨dx,hp⟩:=J.ob;refine⟨hN,_,(ag (aJ (b5 (qi K) rfl T.jy hG (fa1 (aY K (fv 0)))))),?_⟩;walk_at "rd";exact⟨_,_,_,_,hp,T.bc,T.bn,lkb _ _,bs,.inl (.inl (.inl J.ls)),fun l hl=>⟨_,Gc.one (aj _ hl) hl ad rfl,k l hl⟩⟩
def sp_ui(C nb:Addr):Sp:=sp2 fun x y H Q _=>NoT H/\asR x fun p=>asI y fun i=>∃b u bs kvs,JAt C H p b u bs kvs/\∃(n:Nat) (q:Addr) (l:List V),i=n/\bs[n]? = some (.ref q)/\H q=some (.tup (.int i::l))/\Q ((dR kvs (.inl i)).getD .non) H
theorem iM(T:Txt K mg a):Mo P w K mg base a.aP "undone_by" 4 (sp_ui a.aP a.b_):=by
 refine T.jc.g2 ["self","number"] fun x0 x1 fA cdv A outer s H Q E ND HU hr h=>?_;obtain⟨hN,h1⟩:=h;obtain⟨p,rfl,h2⟩:=asR.inv h1;obtain⟨_,rfl,b,u,bs,kvs,J,n,q,l,rfl,h3,h4,k⟩:=asI.inv h2;obtain⟨dx,hp⟩:=J.ob;refine⟨hN,_,(ag (aJ (Aq (Zp HU) (aY K (fv 0)) (aA K (bI (fv 0) T.bc (fR T) (hr.mono (by decide)) aD (fa1 (fv 1))) aa) ⟨rfl,rfl,rfl,rfl⟩))),?_⟩;walk_at "rd";have hn:n<bs.length:=(List.getElem?_eq_some_iff.mp h3).1;refine⟨_,_,_,_,hp,T.bc,T.dF,lku _ _,u,rfl,.inl ⟨_,.inl J.dc⟩,_,_,hp,?_,hN,b,u,bs,kvs,J,by lia,fun z=>by lia,fun n' v e1 e2=>?_⟩
 ·rw[aR (by decide +kernel),aR (by decide +kernel)];rfl
 ·have:n=n':=by lia
  subst this;rw[h3]at e2;cases e2;exact⟨_,.int n,.inr (.inl (.inl h4)),aq (j:=0) rfl,_,DGet.k (k:=.inl (n:Int)) J.dc,H,Gc.refl,k⟩
end
open PySem L2 K19 K22
section
variable{P:Program}{w:World}{K:W.Frag}{mg:Str->Option Value}{base:Heap}{a:Adr}
open K3
theorem fP{H H':Hp}{D:Addr}{o:HO}(s:Same H H')(h:H D=none):Same H (upd H' D o):=fun c z e=>by
 rw[ah (aC e h)];exact s c z e
def RwAt(H:Hp)(v:V)(r:Row):Prop:=∃q,v = .ref q/\H q=some (.tup [L2.T r.pa,L2.T r.cu,.int r.am])
def BkAt(H:Hp)(v:V)(b:Bk):Prop:=∃q t vs nt un,v = .ref q/\H q=some (.tup [.int b.k,.int b.d,L2.T nt,.ref t,cl un])/\H t=some (.tup vs)/\A2 (RwAt H) vs b.rs
def LW(W:List Addr)(H:Hp):Prop:=∀s∈W,∃l,H s=some (.lst l)
theorem LW.nil{H:Hp}:LW [] H:=fun _ h=>nomatch h
theorem LW.one{H:Hp}{s:Addr}{xs:List V}(h:H s=some (.lst xs)):LW [s] H:=fun z m=>by rw[zv.mp m];exact⟨_,h⟩
theorem LW.no{W:List Addr}{H:Hp}(t:LW W H){q:Addr}{o:HO}(h:H q=some o)(n:∀l,o ≠ .lst l):q∉W:=fun m=>by
 obtain⟨l,e⟩:=t q m;rw[h]at e;cases e;exact n _ rfl
theorem LW.tup{W:List Addr}{H:Hp}(t:LW W H){q:Addr}{l:List V}(h:H q=some (.tup l)):q∉W:=t.no h (by intro _ z;cases z)
section
variable{W:List Addr}{H H':Hp}(x:Keep W H H')(t:LW W H)
include x t
theorem RwAt.keep{v:V}{r:Row}(h:RwAt H v r):RwAt H' v r:=by
 obtain⟨q,rfl,e⟩:=h;exact⟨q,rfl,x _ _ e (t.tup e)⟩
theorem fz{vs:List V}{rs:List Row}(h:A2 (RwAt H) vs rs):A2 (RwAt H') vs rs:=h.imp fun _ _ _ _ r=>r.keep x t
theorem BkAt.keep{v:V}{b:Bk}(h:BkAt H v b):BkAt H' v b:=by
 obtain⟨q,u,vs,nt,un,rfl,e1,e2,r⟩:=h;exact⟨q,u,vs,nt,un,rfl,x _ _ e1 (t.tup e1),x _ _ e2 (t.tup e2),fz x t r⟩
theorem tI{vs:List V}{bs:List Bk}(h:A2 (BkAt H) vs bs):A2 (BkAt H') vs bs:=h.imp fun _ _ _ _ r=>r.keep x t
end
theorem bB{H H':Hp}(s:Same H H'){vs:List V}{rs:List Row}(h:A2 (RwAt H) vs rs):A2 (RwAt H') vs rs:=fz (W:=[]) (Keep.same s) LW.nil h
theorem mR{H H':Hp}(s:Same H H'){vs:List V}{bs:List Bk}(h:A2 (BkAt H) vs bs):A2 (BkAt H') vs bs:=tI (W:=[]) (Keep.same s) LW.nil h
def rOk(r:Row):Prop:=cur r.cu=true/\(-1000000000000000<=r.am/\r.am<=1000000000000000)/\r.am≠0
def sp_yI:Sp:=sp1 fun x H Q _=>NoT H/\∃r,RwAt H x r/\rOk r/\Q (.bl true) H
theorem yq(T:Txt K mg a):Fo P w K mg base "is_row" 4 sp_yI:=by
 refine T.Bx.g1 ["thing"] fun x0 fA cdv A outer s H Q E ND HU hr h=>?_;obtain⟨hN,r,⟨q,rfl,hq⟩,⟨hc,ha,h0⟩,k⟩:=h;refine⟨hN,_,(af (aW (L2.PW.pt (fI (bK (bx (aH (eI K) rfl T.bD bq (fa2 (fv 0) (eK (v:=.ty "tuple") rfl T.ky iy rfl))))) (eD (aS (bV K HU) (aH (bh K) rfl T.b6 bA (fa1 (fv 0))) aa)))) (ag (aJ iH)) aL)
  (ag (aJ (c_ (aH (eI K) rfl T.bD bq (fa2 (aA K (fv 0) aa) (eK (v:=.ty "str") rfl T.pA lj rfl))) (c_ (aI (iJ T) hr aD (fa1 (aA K (fv 0) aa))) (c_ (aI (rm T) hr aD (fa1 (aA K (fv 0) aa))) (dH (cY (bV K HU) (aA K (fv 0) aa) aa (dY _))))))))),?_⟩
 have et:ip H (.ref q)=some "tuple":=by simp[ip,hq]
 have hS:=SqT.of (K:=K) hq;walk_at "rd";simp only[et];refine itn (by decide) ⟨_,.inr hS,itp rfl ⟨_,_,.inr hS,aq (j:=0) rfl,?_⟩⟩;walk_at "rd";refine⟨_,_,.inr hS,aq (j:=1) rfl,hN,hc,?_⟩;walk_at "rd";refine⟨_,_,.inr hS,aq (j:=2) rfl,hN,?_⟩;walk_at "rd";rw[iO,decide_eq_true ha.1,decide_eq_true ha.2];refine itp rfl ⟨_,_,.inr hS,aq (j:=2) rfl,?_⟩;walk_at "rd";rw[decide_eq_false h0];exact k
def sp_B6:Sp:=sp1 fun x H Q _=>NoT H/\asR x fun q=>∃vs rs,H q=some (.lst vs)/\A2 (RwAt H) vs rs/\(2<=rs.length/\rs.length<=200)/\(∀r∈rs,rOk r)/\Q .non H
theorem qK(T:Txt K mg a):Fo P w K mg base "need_form" 5 sp_B6:=by
 refine T.r8.g1 ["rows","row"] fun x0 fA cdv A outer s H Q E ND HU hr h=>?_;obtain⟨hN,h1⟩:=h;obtain⟨q,rfl,vs,rs,hq,ha,ln,ho,k⟩:=asR.inv h1;have lv:=ha.len;refine⟨hN,_,(af (aW (L2.PW.pt (fI (bK (bx (aH (eI K) rfl T.bD bq (fa2 (fv 0) (eK (v:=.ty "list") rfl T.jy hG rfl))))) (eD (bK (zl d_ d_ aa (aH (bh K) rfl T.b6 bA (fa1 (fv 0))) aa))))) (ag (bN T.tY T.uw ba)) aL)
  (ag (dS (by passes_own) rfl (bw K (fv 0)) (aM (i:=1) ND rfl (Or.inl rfl)) (ag (aW (bK (bx (aI (yq T) hr aD (fa1 (fv 1))))) (ag (bN T.tY T.uw ba)) aL))))),?_⟩
 have et:ip H (.ref q)=some "list":=by simp[ip,hq]
 walk_at "rd";simp only[et];refine itn (by decide) ⟨_,.inl (SqL.of hq),itp (by lia) (itp (by lia) (gP ?_))⟩;walk_at "rd";refine gU (xs:=vs) (SqL.of hq) (gQ (fun i σ' H'=>H'=H/\∃z,σ'=[some (.ref q),z]) ⟨rfl,none,rfl⟩ (fun i σ' H' _ h=>by rw[h.1];exact SqL.of hq) ?_ ?_)
 ·rintro i x σ' H' hx ⟨rfl,z,rfl⟩
  obtain⟨r,hr,rr⟩:=ha.at_ hx;walk_at "rd";refine⟨hN,r,rr,ho r (yO hr),_,rfl⟩
 ·rintro σ' H' ⟨rfl,z,rfl⟩
  exact⟨H',Gc.none (Same.refl _),k⟩
end
open PySem L2 K19 K22
section
variable{P:Program}{w:World}{K:W.Frag}{mg:Str->Option Value}{base:Heap}{a:Adr}
open K3
theorem dQ{α:Type}{l:List α}{i:Nat}{x:α}(h:l[i]? = some x):l.take (i+1)=l.take i++[x]:=by rw[Z4,h];rfl
theorem xi(o:Option Int)(j:Int):(o.map V.int).getD (.int j) = .int (o.getD j):=by cases o <;> rfl
def EO(H:Hp)(Q:VK)(rs:List Row):Prop:=∀out r ws H',out.Perm ((dk rs).map (·.1))->mS out->H r=none->H' r=some (.lst ws)->A2 (RwAt H') ws (res rs out)->Same H H'->NoT H'->Q (.ref r) H'
def flt(H H':Hp):Hp:=fun p=>match H p with
 |some o=>some o
 |none=>match H' p with
  |some o=>if jt o=true then some o else none
  |none=>none
theorem wU{H H':Hp}{p:Addr}{o:HO}(h:H p=some o):flt H H' p=some o:=by unfold flt;rw[h]
theorem uP{H H':Hp}(s:Same H H'){p:Addr}{o:HO}(h:H' p=some o)(n:jt o=true):flt H H' p=some o:=by
 cases e:H p with
 |some z=>rw[s _ _ e]at h;cases h;exact wU e
 |none=>unfold flt;simp only[e,h,n,if_true]
theorem qc{H H':Hp}{p:Addr}{o:HO}(h:flt H H' p=some o):H p=some o\/(H' p=some o/\jt o=true):=by
 unfold flt at h;cases e:H p with
 |some z=>rw[e]at h;exact .inl h
 |none=>
  simp only[e]at h;cases e2:H' p with
  |none=>rw[e2]at h;cases h
  |some z=>
   simp only[e2]at h;split at h
   ·rename_i q;cases h;exact .inr ⟨rfl,q⟩
   ·cases h
theorem Gc.flt{H H':Hp}(s:Same H H'):Gc H (flt H H') H':=⟨fun _ _ e=>wU e,fun p o e=>(qc e).elim (s p o) (·.1),fun p o e=>(qc e).imp id (·.2)⟩
theorem v_{H H':Hp}(n:NoT H):NoT (flt H H'):=fun p o e=>by
 rcases qc e with q|⟨_,q⟩
 ·exact n p o q
 ·cases o <;> first|rfl|cases q
theorem rO{H H':Hp}(s:Same H H'){vs:List V}{rs:List Row}(h:A2 (RwAt H') vs rs):A2 (RwAt (flt H H')) vs rs:=h.imp fun _ _ _ _ ⟨q,e,r⟩=>⟨q,e,uP s r rfl⟩
theorem uq{H0 F:Hp}{D p:Addr}{ys:List V}{rs:List Row}(r:Row)(s:Same H0 F)(fD:H0 D=none)(hD:F D=some (.lst ys))(hp:F p=none)(aw:A2 (RwAt F) ys rs) :
 upd F p (.tup [L2.T r.pa,L2.T r.cu,.int r.am]) D=some (.lst ys)/\Same H0 (upd (upd F p (.tup [L2.T r.pa,L2.T r.cu,.int r.am])) D (.lst (ys++[.ref p])))/\A2 (RwAt (upd (upd F p (.tup [L2.T r.pa,L2.T r.cu,.int r.am])) D (.lst (ys++[.ref p])))) (ys++[.ref p]) (rs++[r]):=by
 have s1:=aj (HO.tup [L2.T r.pa,L2.T r.cu,.int r.am]) hp;have hD1:=s1 _ _ hD;have kp:Keep [D] (upd F p (.tup [L2.T r.pa,L2.T r.cu,.int r.am])) (upd (upd F p (.tup [L2.T r.pa,L2.T r.cu,.int r.am])) D (.lst (ys++[.ref p]))):=Keep.refl.put (.head _);exact⟨hD1,fP (s.trans s1) fD,(fz kp (LW.one hD1) (bB s1 aw)).snoc ⟨p,rfl,(ah (Ne.symm (aC hD hp))).trans ad⟩⟩
def sp_Du:Sp:=sp1 fun x H Q _=>NoT H/\asR x fun p=>∃vs rs,H p=some (.lst vs)/\A2 (RwAt H) vs rs/\rs.length<=1000/\(dk rs).length<64/\EO H Q rs
theorem tj(d:List (Pt × Int)):(d.map jj).map (·.1)=(d.map (·.1)).map kP:=by rw[uR,uR];rfl
theorem jC(T:Txt K mg a):Fo P w K mg base "sums_of" 1 sp_Du:=by
 refine T.yx.g1 ["rows","together","path","currency","amount"] fun x0 fA cdv A outer s H Q E ND HU hr h=>?_;obtain⟨hN,h1⟩:=h;obtain⟨p,rfl,vs,rs,hp,ha,len,l64,k⟩:=asR.inv h1;have sz:=szl;refine⟨hN,_,(af (aT 1 ND rV)
  (af (dS (by passes_own) rfl (bw K (fv 0)) (kh K (n:=3) rfl (bp (aM (i:=2) ND rfl (Or.inl rfl)) (bp (aM (i:=3) ND rfl (Or.inl rfl)) (bp (aM (i:=4) ND rfl (Or.inl rfl)) g_)))) (ag (gj (Zp HU) (fv 1) (bG (fa2 (fv 2) (fv 3))) (av aN (tB (Zp HU) (fv 1) (bG (fa2 (fv 2) (fv 3))) aa ⟨rfl,rfl,rfl,rfl⟩) (fv 4)) rfl)))
  (ag (aJ (bz rfl (cl:=_) (x:="path") (xs:=["path","currency"]) (fr:=["together"]) (ks:=[1]) (by walk_at "cq") rfl (bw K (aH (pM rfl) rfl T.sO pQ (fa1 (fv 1)))) (fun _ _ _ _ _=>(kh K (n:=2) rfl (bp (aM (i:=0) (cc (l:=["path","currency","together"]) (by decide)) rfl (Or.inl rfl)) (bp (aM (i:=1) (cc (l:=["path","currency","together"]) (by decide)) rfl (Or.inl rfl)) g_)))) (fun _ _ _ _ _=>(dv (aS (bV K HU) (bL (Zp HU) (fv 2) (bG (fa2 (fv 0) (fv 1))) (fun _ _=>rfl)) aa))) (fun _ _ _ _ _=>(bG (fa3 (fv 0) (fv 1) (bL (Zp HU) (fv 2) (bG (fa2 (fv 0) (fv 1))) (fun _ _=>rfl)))))))))),?_⟩
 walk_at "rd";intro d hd;refine gP ?_;walk_at "rd";refine gU (SqL.of ((aj _ hd) _ _ hp)) (gQ (fun i σ' H'=>Same H H'/\∃x2 x3 x4,H' d=some (.dT ((dk (rs.take i)).map jj))/\σ'=[some (.ref p),some (.ref d),x2,x3,x4]) ⟨aj _ hd,none,none,none,ad,rfl⟩ (fun i σ' H' _ h=>SqL.of (h.1 _ _ hp)) ?_ ?_)
 ·rintro i x σ' H' hx ⟨sm,x2,x3,x4,hd',rfl⟩
  obtain⟨r,hr,q,rfl,hq⟩:=ha.at_ hx;have hq':=sm _ _ hq;walk_at "rd";refine⟨_,_,rfl,SqT.of hq',rfl,_,_,rfl,_,_,rfl,_,_,rfl,rfl,?_⟩;walk_at "rd";have l1:=(iG (rs.take i)).2.2;have l2:(rs.take i).length<=1000:=by rw[vm];lia
  refine⟨.inr ⟨_,.inl hd'⟩,by walk_at "om",fun p1 hp1=>⟨_,DGet.t (k:=kP (r.pa,r.cu)) ((aj _ hp1) _ _ hd') ad,?_⟩⟩;rw[fN,xi];walk_at "rd";have s1:=aj (HO.tup [L2.T r.pa,L2.T r.cu]) hp1;refine⟨by walk_at "om",fun p2 hp2=>?_⟩;have s2:=s1.trans (aj (HO.tup [L2.T r.pa,L2.T r.cu]) hp2);refine⟨d,_,rfl,DPut.t (k:=kP (r.pa,r.cu)) (s2 _ _ hd') ad (by rw[zB,xM];lia),?_⟩;rw[nv];refine⟨fP (sm.trans s2) hd,_,_,_,?_,rfl,rfl,rfl⟩;rw[ad,dQ hr,mK];rfl
 ·rintro σ' H' ⟨sm,x2,x3,x4,hd',rfl⟩
  rw[ha.len,sf]at hd';walk_at "rd";refine jn ?_;walk_at "rd";refine⟨_,(dk rs).map (·.1),hd',tj _,by rw[zB];exact l64,fun out as po oo ao l hl=>?_⟩;have sl:=aj (HO.lst (as.map V.ref)) hl;have lo:=po.length_eq;rw[zB]at lo;have la:=ao.len;refine⟨⟨_,SqL.of ad⟩,wN l (as.map V.ref) (fun D i ys G=>Same (upd H' l (.lst (as.map V.ref))) G/\G D=some (.lst ys)/\upd H' l (.lst (as.map V.ref)) D=none/\A2 (RwAt G) ys (res rs (out.take i))) (by rw[zB,xM];lia) (fun D hD=>⟨aj _ hD,ad,hD,.nil⟩) (fun D i ys G h=>⟨h.2.1,SqL.of (h.1 _ _ ad),?_⟩) ?_ ?_⟩
  ·rw[h.2.2.2.len]
   exact xx (kK _ _) (by rw[vm];lia)
  ·rintro D i y ys G zs N1 N0 hy ⟨sG,hD,fD,aG⟩ hz n1 n0
   rw[List.getElem?_map]at hy;obtain⟨b,hb,rfl⟩:=u8.mp hy;obtain⟨e,he,kb⟩:=ao.at_ hb;have kG:=sG _ _ (sl _ _ kb);have dG:=sG _ _ (sl _ _ hd');have ve:=Bl (po.mem_iff.mp (yO he));obtain⟨z1,z2,rfl⟩:=ex2 hz;walk_at "rd";refine⟨_,_,rfl,SqT.of kG,rfl,_,_,rfl,_,_,rfl,rfl,?_⟩;walk_at "rd";have gd:∀(F:Hp) (q:Addr),KAt F q e->F d=some (.dT ((dk (rs)).map jj))->DGet F d (.ref q) (some (.int (val (rs) e))):=fun F q h1 h2=>by
    have g:=DGet.t (k:=kP e) h2 h1
    rwa [fN,ve]at g
   rw[dQ he,tw]at n1 n0;refine⟨⟨[some (L2.T e.1),some (L2.T e.2)],rfl,rfl⟩,by walk_at "om",fun p1 hp1=>?_⟩;have s1:=aj (HO.tup (tP e)) hp1;refine⟨d,_,rfl,gd _ p1 ad (s1 _ _ dG),?_⟩;walk_at "rd";by_cases hv:val rs e=0
   ·rw[if_neg fun z=>z hv,u6]at n0
    exact itp hv (n0 _ ⟨sG.trans s1,s1 _ _ hD,fD,bB s1 aG⟩)
   ·rw[if_pos hv]at n1
    refine itn hv ⟨by walk_at "om",fun p2 hp2=>?_⟩;have s2:=s1.trans (aj (HO.tup (tP e)) hp2);refine⟨d,_,rfl,gd _ p2 ad (s2 _ _ dG),by walk_at "om",fun p3 hp3=>?_⟩;obtain⟨m1,m2,m3⟩:=uq ⟨e.1,e.2,val rs e⟩ (sG.trans s2) fD (s2 _ _ hD) hp3 (bB s2 aG);exact n1 _ _ m1 ⟨m2,ad,fD,m3⟩
  ·rintro D ys G ⟨sG,hD,fD,aG⟩
   rw[zB,la,sf]at aG;have sg:=(sm.trans sl).trans sG;exact⟨_,Gc.flt sg,k out D ys _ po oo ((sm.trans sl).free fD) (uP sg hD rfl) (rO sg aG) (Gc.flt sg).a (v_ hN)⟩
def ev(rs:List Row):List Row:=rs.map fun r=>⟨[],r.cu,r.am⟩
def EvR(rs:List Row):Prop:=∀c,sm (ev rs) ([],c)=0
theorem RwAt.mv(G G':Hp)(v:V)(r:Row)(k:∀t l,G t=some (.tup l)->G' t=some (.tup l))(h:RwAt G v r):RwAt G' v r:=by
 obtain⟨q,e,h⟩:=h;exact⟨q,e,k _ _ h⟩
def sp_BG(U:Addr):Sp:=sp2 fun x _ H Q _=>asR x fun p=>H p=some (ExN U p)/\Q .non (upd H p (ExD U p))
theorem jD(T:Txt K mg a):Mo P w K mg base a.cp "__init__" 1 (sp_BG a.cp):=by
 refine T.jY.x2 ["self","currency"] fun x0 x1 fA cdv A outer s H Q E ND HU hr h=>?_;obtain⟨p,rfl,hp,k⟩:=asR.inv h;refine⟨_,(ag (C3 T.kj (fv 0) (fv 1))),?_⟩;walk_at "rd";exact⟨hp,k⟩
theorem Fl{rs:List Row}{out:List Pt}(po:out.Perm ((dk (ev rs)).map (·.1))):res (ev rs) out=[]↔EvR rs:=by
 constructor
 ·intro h c
  by_cases m:([],c)∈out
  ·by_cases z:val (ev rs) ([],c)=0
   ·rw[<- qo];exact z
   ·unfold res at h
    have:=List.map_eq_nil_iff.mp h;have:=ZB.mp this _ m;exact absurd (by simpa using this) z
  ·exact mF fun r mr e=>m (po.mem_iff.mpr (by rw[<- e];exact AS r mr))
 ·intro h
  unfold res;rw[List.map_eq_nil_iff,ZB];intro e me;obtain⟨r,mr,rfl⟩:=(iG (ev rs)).2.1 e (po.mem_iff.mp me);obtain⟨r',m',rfl⟩:=yb.mp mr;have:=h r'.cu;rw[<- qo]at this
  simpa using this
def sp_C6(U:Addr):Sp:=sp1 fun x H Q E=>NoT H/\asR x fun p=>∃vs rs,H p=some (.lst vs)/\A2 (RwAt H) vs rs/\rs.length<=40/\∀H',Same H H'->NoT H'->(EvR rs->Q .non H')/\E (.ref U) none H'
theorem rA(T:Txt K mg a):Fo P w K mg base "need_even" 4 (sp_C6 a.cp):=by
 refine T.ua.x1 ["rows","uneven"] fun x0 fA cdv A outer s H Q E ND HU hr h=>?_;obtain⟨hN,h1⟩:=h;obtain⟨p,rfl,vs,rs,hp,ha,len,k⟩:=asR.inv h1;have lv:=ha.len;have sz:=szl;refine⟨_,(af (aT 1 ND (aI (jC T) hr aD (fa1 (bz rfl (cl:=_) (x:="row") (xs:=["row"]) (fr:=[]) (ks:=[]) (by walk_at "cq") rfl (bw K (fv 0)) (fun _ _ _ _ _=>(aM (i:=0) (cc (l:=["row"]) (by decide)) rfl (Or.inl rfl))) (fun _ _ _ _ _=>dU) (fun _ _ _ _ _=>(bG (fa3 (aQ []) (aA K (fv 0) aa) (aA K (fv 0) aa))))))))
  (ag (aW (aS lO (aH (bh K) rfl T.b6 bA (fa1 (fv 1))) aa) (ag (GR T.yY (jD T) (hr.mono (by decide)) aD Dw rfl rfl T.zO (fa1 (aA K (aA K (fv 1) aa) aa)))) aL))),?_⟩
 walk_at "rd";refine jn ?_;walk_at "rd";refine⟨⟨vs,SqL.of hp⟩,ceA RwAt.mv p vs rs (RwAt H) (fun _=>true) (fun r=>⟨[],r.cu,r.am⟩) hp hN ha (by lia) (fun v b mb rb G zs N1 N0 sG nG hz n1 n0=>?_) fun D ws G hD sG nG gD aG=>?_⟩
 ·obtain⟨q,rfl,hq⟩:=rb
  have hq:=sG _ _ hq;obtain⟨z1,rfl⟩:=ex1 hz;walk_at "rd";exact⟨⟨[_],rfl,rfl⟩,_,_,.inr (SqT.of hq),aq (j:=1) rfl,_,_,.inr (SqT.of hq),aq (j:=2) rfl,by walk_at "om",fun p1 hp1=>n1 rfl _ _ (aj _ hp1) (az nG rfl) ⟨p1,rfl,ad⟩⟩
 ·walk_at "rd"
  rw[qU.mpr (fun _ _=>rfl)]at aG;have le:(ev rs).length<=40:=by unfold ev;rw[zB];exact len
  refine⟨nG,ws,ev rs,gD,aG,by lia,Y1 (iG _).2.2 (by lia),fun out r ws' H' po _ fr hr' ar s' n'=>?_⟩;obtain⟨k1,k0⟩:=k H' (sG.trans s') n';walk_at "rd";refine⟨_,.inl (SqL.of hr'),?_⟩;have er:=Fl po;cases hre:res (ev rs) out with
  |nil=>
   rw[hre]at ar;cases ar;exact k1 (er.mp hre)
  |cons y ys=>
   rw[hre]at ar;cases ar with
   |cons r1 ar=>
   obtain⟨q1,rfl,hq1⟩:=r1;refine itp (Int.ofNat_lt.mpr (Nat.succ_pos _)) ⟨_,_,.inl (SqL.of hr'),aq (j:=0) rfl,?_⟩;walk_at "rd";exact⟨_,_,.inr (SqT.of hq1),aq (j:=1) rfl,by walk_at "om",n',fun p hp=>⟨ad,ad,by rw[j8];exact aj _ hp,k0⟩⟩
def sp_xU:Sp:=sp1 fun x H Q _=>NoT H/\asR x fun p=>∃vs rs,(H p=some (.lst vs)\/H p=some (.tup vs))/\A2 (RwAt H) vs rs/\rs.length<=900/\∀t ws H',H t=none->H' t=some (.tup ws)->A2 (RwAt H') ws (trn rs)->Same H H'->NoT H'->Q (.ref t) H'
theorem pN(T:Txt K mg a):Fo P w K mg base "turned" 1 sp_xU:=by
 refine T.Ap.x1 ["rows"] fun x0 fA cdv A outer s H Q E ND HU hr h=>?_;obtain⟨hN,h1⟩:=h;obtain⟨p,rfl,vs,rs,hp,ha,len,k⟩:=asR.inv h1;have sz:=szl;refine⟨_,(ag (aJ (b5 (kx K) rfl T.ky iy (fa1 (bz rfl (cl:=_) (x:="path") (xs:=["path","currency","amount"]) (fr:=[]) (ks:=[]) (by walk_at "cq") rfl (Di K (fv 0)) (fun _ _ _ _ _=>(kh K (n:=3) rfl (bp (aM (i:=0) (cc (l:=["path","currency","amount"]) (by decide)) rfl (Or.inl rfl)) (bp (aM (i:=1) (cc (l:=["path","currency","amount"]) (by decide)) rfl (Or.inl rfl)) (bp (aM (i:=2) (cc (l:=["path","currency","amount"]) (by decide)) rfl (Or.inl rfl)) g_))))) (fun _ _ _ _ _=>dU) (fun _ _ _ _ _=>(bG (fa3 (fv 0) (fv 1) (Au vt (fv 2)))))))))),?_⟩;walk_at "rd";have lv:=ha.len;refine Hg ?_;walk_at "rd";rcases hp with hp|hp
 ·refine .inl ⟨⟨vs,SqL.of hp⟩,ceA RwAt.mv p vs rs (RwAt H) (fun _=>true) (fun r=>⟨r.pa,r.cu,-r.am⟩) hp hN ha (by lia) (fun v b mb rb G zs N1 N0 sG nG hz n1 n0=>?_) fun D ws G hD sG nG gD aG=>?_⟩
  ·obtain⟨q,rfl,hq⟩:=rb
   have hq:=sG _ _ hq;obtain⟨z1,z2,z3,rfl⟩:=ex3 hz;walk_at "rd";refine⟨_,_,rfl,SqT.of hq,rfl,_,_,rfl,_,_,rfl,_,_,rfl,rfl,?_⟩;walk_at "rd";exact⟨⟨[_,_,_],rfl,rfl⟩,by walk_at "om",fun p1 hp1=>n1 rfl _ _ (aj _ hp1) (az nG rfl) ⟨p1,rfl,ad⟩⟩
  ·walk_at "rd"
   rw[qU.mpr (fun _ _=>rfl)]at aG;exact⟨ws,.inl ⟨SqL.of gD,fun t ht=>k t ws _ (sG.free ht) ad (bB (aj _ ht) aG) (sG.trans (aj _ ht)) (az nG rfl)⟩⟩
 ·refine .inr ⟨⟨vs,SqT.of hp⟩,Fv RwAt.mv p vs rs (RwAt H) (fun _=>true) (fun r=>⟨r.pa,r.cu,-r.am⟩) hp hN ha (by lia) (fun v b mb rb G zs N1 N0 sG nG hz n1 n0=>?_) fun D ws G hD sG nG gD aG=>?_⟩
  ·obtain⟨q,rfl,hq⟩:=rb
   have hq:=sG _ _ hq;obtain⟨z1,z2,z3,rfl⟩:=ex3 hz;walk_at "rd";refine⟨_,_,rfl,SqT.of hq,rfl,_,_,rfl,_,_,rfl,_,_,rfl,rfl,?_⟩;walk_at "rd";exact⟨⟨[_,_,_],rfl,rfl⟩,by walk_at "om",fun p1 hp1=>n1 rfl _ _ (aj _ hp1) (az nG rfl) ⟨p1,rfl,ad⟩⟩
  ·walk_at "rd"
   rw[qU.mpr (fun _ _=>rfl)]at aG;exact⟨ws,.inl ⟨SqL.of gD,fun t ht=>k t ws _ (sG.free ht) ad (bB (aj _ ht) aG) (sG.trans (aj _ ht)) (az nG rfl)⟩⟩
end
open PySem L2 K19 K22
section
variable{P:Program}{w:World}{K:W.Frag}{mg:Str->Option Value}{base:Heap}{a:Adr}
open K3
def RF(a:Adr):List Addr:=[a.b_,a.gX,a.gK,a.gY,a.fB,a.cz,a.cp,a.ft]
theorem RF.all{a:Adr}{p:Addr->Prop}(h:∀c∈RF a,p c):p a.b_/\p a.gX/\p a.gK/\p a.gY/\p a.fB/\p a.cz/\p a.cp/\p a.ft:=by
 refine⟨h _ ?_,h _ ?_,h _ ?_,h _ ?_,h _ ?_,h _ ?_,h _ ?_,h _ ?_⟩ <;> unfold RF <;> simp only[z6,true_or,or_true]
def CuV(v:V):Prop:=v = .non\/∃l,v=L2.T l
def sp_BP(a:Adr):Sp:=sp4 fun x y z u H Q E=>NoT H/\asR x fun p=>asI y fun t=>asT z fun l=>asT u fun cy=>∃d cs c,CAt a.aO a.aE H p d cs/\c∈cs/\c.pa=l/\CuV c.cu/\(opn c.fi c.un t=true->(c.cu = .non\/c.cu=L2.T cy)->Q .non H)/\∀e∈RF a,E (.ref e) none H
theorem lU(T:Txt K mg a):Fo P w K mg base "need_account" 4 (sp_BP a):=by
 refine T.om.g4 ["chart","day","path","currency"] fun x0 x1 x2 x3 fA cdv A outer s H Q E ND HU hr h=>?_;obtain⟨hN,h1⟩:=h;obtain⟨p,rfl,h2⟩:=asR.inv h1;obtain⟨t,rfl,h3⟩:=asI.inv h2;obtain⟨l,rfl,h4⟩:=asT.inv h3;obtain⟨cy,rfl,d,cs,c,J,hc,rfl,hcu,k1,k0⟩:=asT.inv h4;obtain⟨_,_,_,_,kn,kc,_⟩:=RF.all k0;have sz:=szl;obtain⟨dx,hp⟩:=J.ob;refine⟨hN,_,(af (aW (bK (bx (bI (fv 0) T.a_ (eg T) (hr.mono (by decide)) aD (fa2 (fv 2) (fv 1))))) (ag (bN T.gN T.gO ba)) aL)
  (ag (aW (L2.PW.pt (fO (dN (cJ (bI (fv 0) T.a_ (cP T) (hr.mono (by decide)) aD (fa1 (fv 2))))) (d7 (aS (bV K HU) (bI (fv 0) T.a_ (cP T) (hr.mono (by decide)) aD (fa1 (fv 2))) (fv 3))))) (ag (bN T.gv T.gw ba)) aL))),?_⟩
 walk_at "rd";refine⟨_,_,hp,aR (by decide +kernel),hN,d,cs,c,J,hc,rfl,?_⟩;cases ho:opn c.fi c.un t with
 |false=>exact itp rfl ⟨by walk_at "om",kn⟩
 |true=>
  refine itn (by decide) ⟨_,_,hp,aR (by decide +kernel),hN,d,cs,c,J,hc,rfl,?_⟩;rcases hcu with e|⟨l,e⟩
  ·exact itp e (k1 ho (.inl e))
  ·refine itn (by rw[e];intro z;cases z) ⟨_,_,hp,aR (by decide +kernel),hN,d,cs,c,J,hc,rfl,?_⟩
   rw[e];walk_at "rd";by_cases h:l=cy
   ·exact itp h (k1 ho (.inr (by rw[e,h])))
   ·exact itn h ⟨by walk_at "om",kc⟩
def acT(cs:List Acc)(t:Int)(r:Row):Prop:=∃c∈cs,c.pa=r.pa/\opn c.fi c.un t=true/\(c.cu = .non\/c.cu=L2.T r.cu)
def sp_AW(a:Adr):Sp:=sp3 fun x y z H Q E=>NoT H/\asR x fun p=>asI y fun t=>asR z fun q=>∃d cs vs rs,CAt a.aO a.aE H p d cs/\(∀c∈cs,CuV c.cu)/\H q=some (.lst vs)/\A2 (RwAt H) vs rs/\(2<=rs.length/\rs.length<=40)/\(∀r∈rs,rOk r/\∃c∈cs,c.pa=r.pa) /\
 ∀H',Same H H'->NoT H'->((∀r∈rs,acT cs t r)->EvR rs->Q .non H')/\∀e∈RF a,E (.ref e) none H'
theorem ql(T:Txt K mg a):Fo P w K mg base "need_rows" 6 (sp_AW a):=by
 refine T.tL.x3 ["chart","day","rows","path","currency","amount"] fun x0 x1 x2 fA cdv A outer s H Q E ND HU hr h=>?_;obtain⟨hN,h1⟩:=h;obtain⟨p,rfl,h2⟩:=asR.inv h1;obtain⟨t,rfl,h3⟩:=asI.inv h2;obtain⟨q,rfl,d,cs,vs,rs,J,hcu,hq,ha,ln,ho,k⟩:=asR.inv h3;have sz:=szl;refine⟨_,(af (bd (aI (qK T) hr aD (fa1 (fv 2))))
  (af (dS (by passes_own) rfl (bw K (fv 2)) (kh K (n:=3) rfl (bp (aM (i:=3) ND rfl (Or.inl rfl)) (bp (aM (i:=4) ND rfl (Or.inl rfl)) (bp (aM (i:=5) ND rfl (Or.inl rfl)) g_)))) (ag (bd (aI (lU T) hr aD (fa4 (fv 0) (fv 1) (fv 3) (fv 4))))))
  (ag (bd (aI (rA T) hr aD (fa1 (fv 2))))))),?_⟩
 walk_at "rd";refine⟨hN,vs,rs,hq,ha,by lia,fun r m=>(ho r m).1,?_⟩;refine gP ?_;walk_at "rd";refine gU (xs:=vs) (SqL.of hq) (gQ (fun i σ' H'=>H'=H/\(∀r∈rs.take i,acT cs t r)/\∃x3 x4 x5,σ'=[some (.ref p),some (.int t),some (.ref q),x3,x4,x5]) ⟨rfl,(fun _ z=>nomatch z),none,none,none,rfl⟩ (fun i σ' H' _ h=>by rw[h.1];exact SqL.of hq) ?_ ?_)
 ·rintro i x σ' H' hx ⟨rfl,hi,x3,x4,x5,rfl⟩
  obtain⟨r,hr,q1,rfl,hq1⟩:=ha.at_ hx;obtain⟨_,c,mc,ec⟩:=ho r (yO hr);walk_at "rd";refine⟨_,_,rfl,SqT.of hq1,rfl,_,_,rfl,_,_,rfl,_,_,rfl,rfl,?_⟩;walk_at "rd";refine⟨hN,d,cs,c,J,mc,ec,hcu c mc,fun h1 h2=>?_,(k _ (Same.refl _) hN).2⟩;refine⟨fun r' m'=>?_,_,_,_,rfl,rfl,rfl⟩;rw[dQ hr]at m';rcases yI.mp m' with m'|m'
  ·exact hi r' m'
  ·rw[zv.mp m'];exact⟨c,mc,ec,h1,h2⟩
 ·rintro σ' H' ⟨rfl,hi,x3,x4,x5,rfl⟩
  rw[ha.len,sf]at hi;walk_at "rd";refine⟨hN,vs,rs,hq,ha,ln.2,fun H1 s1 n1=>?_⟩;obtain⟨k1,k0⟩:=k H1 s1 n1;exact⟨fun e=>k1 hi e,(RF.all k0).2.2.2.2.2.2.1⟩
def lts(o:Option Int)(d:Int):Prop:=match o with|none=>True|some m=>m<MO d
def sp_AU(a:Adr):Sp:=sp3 fun x y z H Q E=>NoT H/\asR x fun p=>asI y fun d=>asT z fun l=>nt2 l/\(0<=d/\d<=146096)/\∃dx o,H p=some (cZ a.a8 dx (cl o))/\(lts o d->Q .non H)/\∀e∈RF a,E (.ref e) none H
theorem d9(T:Txt K mg a):Fo P w K mg base "need_note_and_gate" 6 (sp_AU a):=by
 refine T.iD.g3 ["gate","day","note"] fun x0 x1 x2 fA cdv A outer s H Q E ND HU hr h=>?_;obtain⟨hN,h1⟩:=h;obtain⟨p,rfl,h2⟩:=asR.inv h1;obtain⟨d,rfl,h3⟩:=asI.inv h2;obtain⟨l,rfl,hl,hd,dx,o,hp,k1,k0⟩:=asT.inv h3;have sz:=szl;have kc:=(RF.all k0).2.2.2.1;refine⟨hN,_,(af (aW (bK (bx (aI (vR T) hr aD (fa1 (fv 2))))) (ag (bN T.yd T.xQ ba)) aL)
  (ag (aW (bK (bx (bI (fv 0) T.bW (qF T) (hr.mono (by decide)) aD (fa1 (fv 1))))) (ag (bN T.AZ T.zS ba)) aL))),?_⟩
 walk_at "rd";refine⟨hN,hl,_,_,hp,aR (by decide +kernel),hN,hd,dx,o,hp,?_⟩;cases o with
 |none=>exact k1 trivial
 |some m=>
  by_cases h:m<MO d
  ·exact itn (by simp[h]) (k1 h)
  ·exact itp (by simp[h]) ⟨by walk_at "om",kc⟩
theorem vP(x y:V):xt (zI "put") [(zI "bookings",x),(zI "undoings",y)]=none:=by rw[aR (by decide +kernel),aR (by decide +kernel)];rfl
def F3(a:Adr)(H H':Hp)(j b u:Addr)(bs:List V)(kvs:List (Key × V))(d nt:V)(vs:List V)(o:V):Prop:=∃q t,H q=none/\H' q=some (.tup [.int bs.length,d,nt,.ref t,o])/\H' t=some (.tup vs)/\JAt a.aP H' j b u (bs++[.ref q]) kvs/\Keep [b,u] H H'/\NoT H'
def sp_Dk(a:Adr):Sp:=sp6 fun x y z u v r H Q E=>NoT H/\asR x fun p=>asR y fun g=>asR z fun j=>asI u fun t=>asT v fun nt=>asR r fun q=>nt2 nt/\(0<=t/\t<=146096) /\
 ∃d cs vs rs dx o b u bs kvs,CAt a.aO a.aE H p d cs/\(∀c∈cs,CuV c.cu)/\H q=some (.lst vs)/\A2 (RwAt H) vs rs/\(2<=rs.length/\rs.length<=40)/\(∀r∈rs,rOk r/\∃c∈cs,c.pa=r.pa)/\H g=some (cZ a.a8 dx (cl o))/\JAt a.aP H j b u bs kvs/\bs.length<=100/\kvs.length<=100 /\
 (∀H',F3 a H H' j b u bs kvs (.int t) (L2.T nt) vs .non->lts o t->(∀r∈rs,acT cs t r)->EvR rs->Q (.int bs.length) H')/\∀e∈RF a,∀H',Same H H'->NoT H'->E (.ref e) none H'
theorem Cn(T:Txt K mg a):Fo P w K mg base "book" 7 (sp_Dk a):=by
 refine T.El.x6 ["chart","gate","journal","day","note","rows"] fun x0 x1 x2 x3 x4 x5 fA cdv A outer s H Q E ND HU hr h=>?_;obtain⟨hN,h1⟩:=h;obtain⟨p,rfl,h2⟩:=asR.inv h1;obtain⟨g,rfl,h3⟩:=asR.inv h2;obtain⟨j,rfl,h4⟩:=asR.inv h3;obtain⟨t,rfl,h5⟩:=asI.inv h4;obtain⟨nt,rfl,h6⟩:=asT.inv h5;obtain⟨q,rfl,hnt,ht,d,cs,vs,rs,dx,o,b,u,bs,kvs,J,hcu,hq,ha,ln,ho,hg,JJ,l1,l2,k1,k0⟩:=asR.inv h6;have sz:=szl;refine⟨_,(af (aW (bK (bx (aI (iP T) hr aD (fa1 (fv 3))))) (ag (bN T.jT T.jM ba)) aL)
  (af (bd (aI (d9 T) hr aD (fa3 (fv 1) (fv 3) (fv 4))))
  (af (bd (aI (ql T) hr aD (fa3 (fv 0) (fv 3) (fv 5))))
  (ag (aJ (bI (fv 2) T.bc (fJ T) (hr.mono (by decide)) aD (fa4 (fv 3) (fv 4) (fv 5) da))))))),?_⟩
 walk_at "rd";rw[iO,decide_eq_true ht.1,decide_eq_true ht.2];refine⟨hN,itn (by decide) ⟨hN,hnt,ht,dx,o,hg,fun hl=>?_,fun e m=>k0 e m _ (Same.refl _) hN⟩⟩;refine⟨hN,d,cs,vs,rs,J,hcu,hq,ha,ln,ho,fun H1 s1 n1=>⟨fun hac hev=>?_,fun e m=>k0 e m _ s1 n1⟩⟩;have J1:=JJ.keep (S:=[]) (Keep.same s1) yj yj yj;obtain⟨dj,hj⟩:=J1.ob;exact⟨_,_,hj,vP _ _,n1,b,u,bs,kvs,vs,J1,l1,l2,.inl (SqL.of (s1 _ _ hq)),fun t' q' H' _ h2 h3 h4 h5 h6 h7=>k1 H' ⟨q',t',s1.free h3,h4,h2,h5,fun c z e n=>h6 c z (s1 c z e) n,h7⟩ hl hac hev⟩
end
open PySem L2 K19 K22
section
variable{P:Program}{w:World}{K:W.Frag}{mg:Str->Option Value}{base:Heap}{a:Adr}
open K3
theorem Hf(x y:V):xt (zI "booking") [(zI "bookings",x),(zI "undoings",y)]=none:=by rw[aR (by decide +kernel),aR (by decide +kernel)];rfl
theorem GP(x y:V):xt (zI "undone_by") [(zI "bookings",x),(zI "undoings",y)]=none:=by rw[aR (by decide +kernel),aR (by decide +kernel)];rfl
theorem JAt.tup{C:Addr}{H:Hp}{p b u:Addr}{bs:List V}{kvs:List (Key × V)}(J:JAt C H p b u bs kvs){t:Addr}{l:List V}(h:H t=some (.tup l)):t∉[b,u]:=fun m=>by
 rcases z6.mp m with e|e
 ·rw[e,J.ls]at h;cases h
 ·rw[zv.mp e,J.dc]at h;cases h
def opR(cs:List Acc)(t:Int)(r:Row):Bool:=match fnd cs r.pa with
 |some c=>opn c.fi c.un t
 |none=>false
theorem AK{ws:List V}{bs:List Bool}(h:A2 (fun v c=>v = .bl c) ws bs):ws=bs.map .bl:=by
 induction h with
 |nil=>rfl
 |cons e _ ih=>rw[e,ih];rfl
def sp_CU(a:Adr):Sp:=sp6 fun x y z u v r H Q E=>NoT H/\asR x fun p=>asR y fun g=>asR z fun j=>asI u fun i=>asI v fun t=>asT r fun nt=>nt2 nt/\0<=i/\0<=t /\
 ∃d cs dx o b u bs kvs bk,CAt a.aO a.aE H p d cs/\H g=some (cZ a.a8 dx (cl o))/\JAt a.aP H j b u bs kvs/\bs.length<=100/\kvs.length<=100/\A2 (BkAt H) bs bk/\(∀(n:Nat) x,bk[n]? = some x->x.k=n/\x.rs.length<=60/\∀r∈x.rs,∃c∈cs,c.pa=r.pa) /\
 (∀(n:Nat) x ws H',i=n->bk[n]? = some x->t<=146096->lts o t->A2 (RwAt H') ws (trn x.rs)->F3 a H H' j b u bs (e9 kvs (.inl n) (.int bs.length)) (.int t) (L2.T nt) ws (.int n)->Q (.int bs.length) H')/\∀e∈RF a,∀H',Same H H'->NoT H'->E (.ref e) none H'
theorem CS(T:Txt K mg a):Fo P w K mg base "undo" 7 (sp_CU a):=by
 refine T.F5.x6 ["chart","gate","journal","number","day","note","booking"] fun x0 x1 x2 x3 x4 x5 fA cdv A outer s H Q E ND HU hr h=>?_;obtain⟨hN,h1⟩:=h;obtain⟨p,rfl,h2⟩:=asR.inv h1;obtain⟨g,rfl,h3⟩:=asR.inv h2;obtain⟨j,rfl,h4⟩:=asR.inv h3;obtain⟨i,rfl,h5⟩:=asI.inv h4;obtain⟨t,rfl,h6⟩:=asI.inv h5;obtain⟨nt,rfl,hnt,i0,t0,d,cs,dx,o,b,u,bs,kvs,bk,J,hg,JJ,l1,l2,hb,hk,k1,k0⟩:=asT.inv h6;have sz:=szl;have kE:=fun e m=>k0 e m _ (Same.refl _) hN;obtain⟨eb,eu,ed,_,en,_⟩:=RF.all kE;obtain⟨dj,hj⟩:=JJ.ob;refine⟨_,(af (aT 6 ND (bI (fv 2) T.bc (fR T) (hr.mono (by decide)) aD (fa1 (fv 3))))
  (af (aW (L2.PW.pt (fI (dN (cJ (aA K (fv 6) aa))) (eD (dN (cJ (bI (fv 2) T.bc (iM T) (hr.mono (by decide)) aD (fa1 (fv 3)))))))) (ag (bN T.BA T.BD ba)) aL)
  (af (aW (L2.PW.pt (fI (bK (bx (aI (iP T) hr aD (fa1 (fv 4))))) (eD (aS n8 (fv 4) (aA K (fv 6) aa))))) (ag (bN T.jT T.jM ba)) aL)
  (af (bd (aI (d9 T) hr aD (fa3 (fv 1) (fv 4) (fv 5))))
  (af (aW (jq (bK (bx (aH (qM K rfl) rfl T.An uX (fa1 (bz rfl (cl:=_) (x:="row") (xs:=["row"]) (fr:=["day","chart"]) (ks:=[4,0]) (by walk_at "cq") rfl (rB K (aA K (fv 6) aa)) (fun _ _ _ _ _=>(aM (i:=0) (cc (l:=["row","day","chart"]) (by decide)) rfl (Or.inl rfl))) (fun _ _ _ _ _=>dU) (fun _ _ _ _ _=>(bI (fv 2) T.a_ (eg T) (hr.mono (by decide)) pO (fa2 (aA K (fv 0) aa) (fv 1)))))))))) (ag (bN T.gN T.gO ba)) aL)
  (ag (aJ (bI (fv 2) T.bc (fJ T) (hr.mono (by decide)) aD (fa4 (fv 4) (fv 5) (aI (pN T) hr aD (fa1 (aA K (fv 6) aa))) (fv 3)))))))))),?_⟩
 walk_at "rd";refine⟨_,_,hj,Hf _ _,hN,b,u,bs,kvs,JJ,i0,fun _=>eb,fun n v e1 e2=>?_⟩;subst e1;obtain⟨x,hx,q,tq,vs,nq,xu,rfl,hq,htq,hr⟩:=hb.at_ e2;obtain⟨xk,xl,xc⟩:=hk n x hx;walk_at "rd";refine⟨_,_,.inr (SqT.of hq),aq (j:=4) rfl,?_⟩;by_cases un:xu=none
 ·refine itp (by rw[un];rfl) ⟨_,_,hj,GP _ _,hN,b,u,bs,kvs,JJ,n,q,_,rfl,e2,by rw[hq,xk],?_⟩
  by_cases hv:(dR kvs (.inl (n:Int))).getD .non = .non
  ·refine itp hv ⟨hN,?_⟩
   rw[iO,decide_eq_true t0];by_cases ht:t<=146096
   ·rw[decide_eq_true ht]
    refine itn (by decide) ⟨_,_,.inr (SqT.of hq),aq (j:=1) rfl,?_⟩;walk_at "rd";by_cases hd:t<x.d
    ·exact itp hd ⟨by walk_at "om",ed⟩
    refine itn hd ⟨hN,hnt,⟨t0,ht⟩,dx,o,hg,fun hl=>⟨hN,DO ?_⟩,kE⟩;walk_at "rd";have lv:=hr.len;refine⟨_,_,.inr (SqT.of hq),aq (j:=3) rfl,tq,rfl,⟨vs,SqT.of htq⟩,Fv (S:=fun _ v c=>v = .bl c) (fun _ _ _ _ _ h=>h) tq vs x.rs (RwAt H) (fun _=>true) (opR cs t) htq hN hr (by lia) (fun v r mr rr G zs N1 N0 sG nG hz n1 n0=>?_) fun D ws G hD sG nG gD aG=>?_⟩
    ·obtain⟨q1,rfl,hq1⟩:=rr
     have hq1:=sG _ _ hq1;obtain⟨z1,rfl⟩:=ex1 hz;obtain⟨c,mc,ec⟩:=xc r mr;have J1:=J.same sG;obtain⟨dp,hp⟩:=J1.ob;walk_at "rd";refine⟨⟨[_],rfl,rfl⟩,_,_,hp,aR (by decide +kernel),_,_,.inr (SqT.of hq1),aq (j:=0) rfl,nG,⟨d,cs,c,J1,mc,ec,n1 rfl _ _ (Same.refl _) nG ?_⟩⟩;unfold opR;rw[<- ec,uJ J.np mc]
    ·walk_at "rd"
     rw[qU.mpr (fun _ _=>rfl)]at aG;have ew:=AK aG;rw[ew]at gD;refine⟨_,SqL.of gD,H,Gc.none sG,?_⟩;by_cases ha:(x.rs.map (opR cs t)).all id=true
     ·refine itn (by rw[ha];decide) ⟨_,_,hj,vP _ _,_,_,.inr (SqT.of hq),aq (j:=3) rfl,hN,?_⟩
      walk_at "rd";refine⟨vs,x.rs,.inr htq,hr,by lia,fun t1 ws1 H1 f1 h1 a1 s1 N1=>?_⟩;have J1:=JJ.keep (S:=[]) (Keep.same s1) yj yj yj;refine⟨N1,b,u,bs,kvs,ws1,J1,l1,l2,.inr h1,.inr ⟨_,rfl⟩,fun t2 q2 H2 _ g2 g3 g4 g5 g6 g7=>?_⟩;have kp:Keep [b,u] H H2:=fun c z e m=>g6 c z (s1 c z e) m;refine k1 n x ws1 H2 rfl hx ht hl ?_ ⟨q2,t2,s1.free g3,g4,g2,g5,kp,g7⟩;exact a1.imp fun v r _ _ h=>RwAt.mv _ _ v r (fun t l e=>g6 _ _ e (J1.tup e)) h
     ·exact itp (by simpa using ha) ⟨by walk_at "om",en⟩
   ·rw[decide_eq_false ht]
    exact itp rfl ⟨by walk_at "om",ed⟩
  ·exact itn hv ⟨by walk_at "om",eu⟩
 ·refine itn (fun z=>un ?_) ⟨by walk_at "om",eu⟩
  cases xu with
  |none=>rfl
  |some m=>cases z
end
open PySem L2 K19 K22
section
variable{P:Program}{w:World}{K:W.Frag}{mg:Str->Option Value}{base:Heap}{a:Adr}
open K3
def cA(ns:List Int)(k:Int):Int:=if k<ns.length then ns.getD k.toNat 0+ns.getD k.toNat 0 % 251*381840 else 0
def sp_at(K:W.Frag):Sp:=sp2 fun x y H Q _=>asR x fun p=>asI y fun k=>∃ns:List Int,SqL K H p (ns.map V.int)/\0<=k/\∀i,i=cA ns k->Q (.int i) H
theorem a6(T:Txt K mg a):Fo P w K mg base "_law_cell_at" 1 (sp_at K):=by
 refine T.oj.x2 ["_law_script","_law_k"] fun x0 x1 fA cdv A outer s H Q E ND HU hr h=>?_;obtain⟨p,rfl,h1⟩:=asR.inv h;obtain⟨k,rfl,ns,hp,k0,q⟩:=asI.inv h1;refine⟨_,(af (aW (aS n8 (fv 1) (aH (bh K) rfl T.b6 bA (fa1 (fv 0)))) (ag (aJ (av aN (aA K (fv 0) (fv 1)) (av eT (av a9 (aA K (fv 0) (fv 1)) aa) aa)))) aL)
  (ag (aJ aa))),?_⟩
 walk_at "rd";refine⟨_,.inl hp,?_⟩;rw[zB];by_cases hk:k<ns.length
 ·obtain⟨j,rfl⟩:∃j:Nat,k=j:=⟨k.toNat,by lia⟩
  have hj:j<ns.length:=by lia
  have e:atI (ns.map V.int) (j:Int)=some (.int ns[j]):=aq (by rw[List.getElem?_map,List.getElem?_eq_getElem hj];rfl);refine itp hk ⟨_,_,.inl hp,e,?_⟩;walk_at "rd";refine⟨_,_,.inl hp,e,?_⟩;walk_at "rd";refine q _ ?_;unfold cA;rw[if_pos hk,YQ,Y5,List.getElem?_eq_getElem hj];rfl
 ·exact itn hk (q _ (by unfold cA;rw[if_neg hk]))
def sp_y3:Sp:=sp1 fun x H Q _=>asI x fun y=>Q (.int (365*y+LD y)) H
theorem cD(T:Txt K mg a):Fo P w K mg base "_law_start" 1 sp_y3:=by
 refine T.qY.x1 ["_law_year"] fun x0 fA cdv A outer s H Q E ND HU hr h=>?_;obtain⟨y,rfl,k⟩:=asI.inv h;refine⟨_,(ag (aJ (av aN (av eC (av aN (av eT aa (fv 0)) (av aX (av aN (fv 0) aa) aa)) (av aX (av aN (fv 0) aa) aa)) (av aX (av aN (fv 0) aa) aa)))),?_⟩;walk_at "rd";have e:365*y+(y+3) / 4-(y+99) / 100+(y+399) / 400=365*y+LD y:=by unfold LD;lia
 rw[e];exact k
theorem Dy{y:Int}(h:0<=y):0<=LD y:=by unfold LD;lia
theorem DC(y:Int):FD (12*y)=365*y+LD y:=by
 unfold FD;rw[show 12*y / 12=y by lia,show 12*y % 12=0 by lia,if_neg (by decide)];show _+S 0=_;rw[show S 0=0 by decide];lia
abbrev LNG(y:Int):List Int:=31::(28+(LD (y+1)-LD y))::R10
theorem z8(y:Int):(28:Int)+(if 365*(y+1)+LD (y+1)-(365*y+LD y)=366 then 1 else 0)=28+(LD (y+1)-LD y):=by
 have h:LD (y+1)=LD y+1\/LD (y+1)=LD y:=by
  rw[wv];split
  ·exact .inl rfl
  ·exact .inr (Int.add_zero _)
 rcases h with h|h
 ·rw[h,if_pos (by lia)];lia
 ·rw[h,if_neg (by lia)];lia
def sp_vm:Sp:=sp1 fun x H Q _=>NoT H/\asI x fun y=>∀p,H p=none->Q (.ref p) (upd H p (.lst ((LNG y).map V.int)))
theorem mq(T:Txt K mg a):Fo P w K mg base "_law_lengths" 2 sp_vm:=by
 refine T.oq.x1 ["_law_year","_law_second"] fun x0 fA cdv A outer s H Q E ND HU hr h=>?_;obtain⟨hN,h1⟩:=h;obtain⟨y,rfl,k⟩:=asI.inv h1;have sz:=szl;refine⟨_,(af (aT 1 ND (av aN aa (b5 Cc rfl T.D0 y2 (fa1 (cY (cM K HU) (av eC (aI (cD T) hr aD (fa1 (av aN (fv 0) aa))) (aI (cD T) hr aD (fa1 (fv 0)))) aa (dY _))))))
  (ag (aJ (bU (FA.pa (aZ aa (aZ (fv 1) (aZ aa (aZ aa (aZ aa (aZ aa (aZ aa (aZ aa (aZ aa (aZ aa (aZ aa (aZ aa cn))))))))))))))))),?_⟩
 walk_at "rd";refine⟨by walk_at "om",fun p hp=>?_⟩;rw[z8];exact k p hp
def sp_BN:Sp:=sp1 fun x H Q _=>NoT H/\asI x fun m=>∀p H',Same H H'->NoT H'->H' p=some (.tup [.int (FD m),.int (FD (m+1)-1)])->Q (.ref p) H'
theorem dE(T:Txt K mg a):Fo P w K mg base "_law_month_ends" 3 sp_BN:=by
 refine T.kF.x1 ["_law_month_here","_law_lengths_here","_law_first"] fun x0 fA cdv A outer s H Q E ND HU hr h=>?_;obtain⟨hN,h1⟩:=h;obtain⟨m,rfl,k⟩:=asI.inv h1;have sz:=szl;refine⟨_,(af (aT 1 ND (aI (mq T) hr aD (fa1 (av aX (fv 0) aa))))
  (af (aT 2 ND (av aN (aI (cD T) hr aD (fa1 (av aX (fv 0) aa))) (aH (wb K rfl) rfl T.Ec zY (fa1 (cO (iF K) (fv 1) eF (cU (av a9 (fv 0) aa)))))))
  (ag (aJ (bG (fa2 (fv 2) (av eC (av aN (fv 2) (aA K (fv 1) (av a9 (fv 0) aa))) aa))))))),?_⟩
 walk_at "rd";refine⟨hN,fun p hp=>?_⟩;have s1:=aj (HO.lst ((LNG (m / 12)).map V.int)) hp;have N1:NoT (upd H p (HO.lst ((LNG (m / 12)).map V.int))):=az hN rfl;have g1:upd H p (HO.lst ((LNG (m / 12)).map V.int)) p=some (HO.lst ((LNG (m / 12)).map V.int)):=ad;change Fi K (V.ref p) none (some (m % 12)) (upd H p (HO.lst ((LNG (m / 12)).map V.int))) _;generalize upd H p (HO.lst ((LNG (m / 12)).map V.int))=G1 at s1 N1 g1 |-
 have m0:0<=m % 12/\m % 12<12:=by lia
 refine⟨p,_,rfl,SqL.of g1,fun q hq=>?_⟩;rw[Dx _ m0.1,<- List.map_take];have s2:=aj (HO.lst (((LNG (m / 12)).take (m % 12).toNat).map V.int)) hq;have g2:upd G1 q (HO.lst (((LNG (m / 12)).take (m % 12).toNat).map V.int)) q=some (HO.lst (((LNG (m / 12)).take (m % 12).toNat).map V.int)):=ad;have N2:NoT (upd G1 q (HO.lst (((LNG (m / 12)).take (m % 12).toNat).map V.int))):=az N1 rfl;generalize upd G1 q (HO.lst (((LNG (m / 12)).take (m % 12).toNat).map V.int))=G2 at s2 g2 N2 |-
 refine⟨_,.inl (SqL.of g2),?_⟩;walk_at "rd";rw[show 365*(m / 12)+LD (m / 12)+((LNG (m / 12)).take (m % 12).toNat).sum=FD m from GJ m];have hl:(m % 12).toNat<(LNG (m / 12)).length:=by show _<12;lia
 have ix:atI ((LNG (m / 12)).map V.int) (m % 12)=some (.int (LG (2000+m / 12) (1+m % 12))):=by
  have e:=HQ m;have e2:m % 12=((m % 12).toNat:Int):=by lia
  rw[<- e]
  conv=>lhs;rw[e2]
  exact aq (by rw[List.getElem?_map,List.getElem?_eq_getElem hl];simp[Y5,List.getElem?_eq_getElem hl])
 refine⟨_,_,.inl (SqL.of (s2 _ _ g1)),ix,?_⟩;walk_at "rd";rw[<- wB];refine⟨by walk_at "om",fun p3 hp3=>k p3 _ ((s1.trans s2).trans (aj _ hp3)) (az N2 rfl) ad⟩
def sp_BC:Sp:=sp1 fun x H Q _=>NoT H/\asI x fun d=>(0<=d/\d<=146096)/\∀H',Same H H'->NoT H'->Q (.int (MO d)) H'
theorem jr(T:Txt K mg a):Fo P w K mg base "_law_month" 4 sp_BC:=by
 refine T.qm.x1 ["_law_day_here","_law_year","_law_month_here"] fun x0 fA cdv A outer s H Q E ND HU hr h=>?_;obtain⟨hN,h1⟩:=h;obtain⟨d,rfl,⟨d0,d1⟩,k⟩:=asI.inv h1;have sz:=szl;refine⟨_,(af (aT 1 ND (av aX (av eT (fv 0) aa) aa))
  (af (iu (by passes_own) (aS lO (aI (cD T) hr aD (fa1 (fv 1))) (fv 0)) (ag (aT 1 ND (av eC (fv 1) aa))))
  (af (iu (by passes_own) (aS d_ (aI (cD T) hr aD (fa1 (av aN (fv 1) aa))) (fv 0)) (ag (aT 1 ND (av aN (fv 1) aa))))
  (af (aT 2 ND aa)
  (af (iu (by passes_own) (aS n8 (aA K (aI (dE T) hr aD (fa1 (av aN (av eT aa (fv 1)) (fv 2)))) aa) (fv 0)) (ag (aT 2 ND (av aN (fv 2) aa))))
  (ag (aJ (av aN (av eT aa (fv 1)) (fv 2))))))))),?_⟩
 walk_at "rd";refine⟨fun n σ H1=>∃y:Int,σ=[some (.int d),some (.int y),none]/\H=H1/\0<=y/\n=y.toNat,⟨_,_,rfl,rfl,by lia,rfl⟩,?_⟩;rintro n σ H1 ⟨y,rfl,rfl,y0,rfl⟩;walk_at "rd";by_cases h2:d<365*y+LD y
 ·have y1:1<=y:=by
   by_cases z:y=0
   ·rw[z]at h2
    have:LD 0=0:=by decide
    lia
   ·lia
  exact itp h2 ⟨_,fun σ' H' z=>z,(y-1).toNat,by lia,y-1,rfl,rfl,by lia,rfl⟩
 ·refine itn h2 ⟨fun n σ H1=>∃y:Int,σ=[some (.int d),some (.int y),none]/\H=H1/\0<=y/\365*y+LD y<=d/\n=(d-y).toNat,⟨_,_,rfl,rfl,y0,by lia,rfl⟩,?_⟩
  rintro n σ H1 ⟨y,rfl,rfl,y0,h3,rfl⟩;walk_at "rd";by_cases h4:365*(y+1)+LD (y+1)<=d
  ·have:=Dy (y:=y+1) (by lia)
   exact itp h4 ⟨_,fun σ' H' z=>z,(d-(y+1)).toNat,by lia,y+1,rfl,rfl,by lia,h4,rfl⟩
  ·refine itn h4 ?_
   walk_at "rd";refine⟨fun n σ H1=>∃m:Int,σ=[some (.int d),some (.int y),some (.int m)]/\Same H H1/\NoT H1/\0<=m/\m<=11/\FD (12*y+m)<=d/\n=(11-m).toNat,⟨_,_,rfl,Same.refl _,hN,by lia,by lia,by rw[Int.add_zero,DC];exact h3,rfl⟩,?_⟩;rintro n σ H1 ⟨m,rfl,s1,N1,m0,m1,mf,rfl⟩;walk_at "rd";refine⟨N1,fun p H2 s2 N2 hp=>⟨_,_,.inr (SqT.of hp),aq (j:=1) rfl,?_⟩⟩;walk_at "rd";by_cases h5:FD (12*y+m+1)-1<d
   ·have m2:m+1<=11:=by
     by_cases z:m=11
     ·exfalso
      rw[z,show 12*y+11+1=12*(y+1) by lia,DC]at h5;lia
     ·lia
    exact itp h5 ⟨_,fun σ' H' z=>z,(11-(m+1)).toNat,by lia,m+1,rfl,s1.trans s2,N2,by lia,m2,by rw[<- Int.add_assoc];lia,rfl⟩
   ·rw[A9 mf (by lia)]at k
    exact itn h5 (k _ (s1.trans s2) N2)
def sp_CM(K:W.Frag):Sp:=sp1 fun x H Q _=>asR x fun p=>∃ns:List Int,SqL K H p (ns.map V.int)/\∀i:Int,300<=i->i<=145721->Q (.int i) H
theorem jS(T:Txt K mg a):Fo P w K mg base "_law_base" 2 (sp_CM K):=by
 refine T.rS.x1 ["_law_script","_law_cell"] fun x0 fA cdv A outer s H Q E ND HU hr h=>?_;obtain⟨p,rfl,ns,hp,k⟩:=asR.inv h;refine⟨_,(af (aT 1 ND (aI (a6 T) hr aD (fa2 (fv 0) aa)))
  (ag (aJ (aH (vS rfl) rfl T.Bg v3 (fa2 aa (av aN (av eC (aI (cD T) hr aD (fa1 (av aN (av a9 (fv 1) aa) aa))) aa) (av a9 (av aX (fv 1) aa) aa))))))),?_⟩
 walk_at "rd";refine⟨ns,hp,fun i _=>?_⟩;have y1:1<=i % 399+1/\i % 399+1<=399:=by lia
 have z1:0<=i / 399 % 50/\i / 399 % 50<50:=by lia
 generalize i % 399+1=y at y1;generalize i / 399 % 50=z at z1;have f1:=Dy (show 0<=y by lia);have f2:LD y<=97:=by unfold LD;clear z1 f1;lia
 generalize LD y=t at f1 f2;refine k _ ?_ ?_
 ·split <;> lia
 ·split <;> lia
def sp_FU(K:W.Frag):Sp:=sp2 fun x y H Q _=>asR x fun p=>asI y fun k=>∃ns:List Int,SqL K H p (ns.map V.int)/\0<=k/\∀i:Int,0<=i->i<=145816->Q (.int i) H
theorem lQ(T:Txt K mg a):Fo P w K mg base "_law_day" 3 (sp_FU K):=by
 refine T.vE.x2 ["_law_script","_law_k"] fun x0 x1 fA cdv A outer s H Q E ND HU hr h=>?_;obtain⟨p,rfl,h1⟩:=asR.inv h;obtain⟨j,rfl,ns,hp,k0,k⟩:=asI.inv h1;refine⟨_,(ag (aJ (aH (BJ rfl) rfl T.DT zi (fa2 aa (av aN (aI (jS T) hr aD (fa1 (fv 0))) (av a9 (aI (a6 T) hr aD (fa2 (fv 0) (fv 1))) aa)))))),?_⟩;walk_at "rd";refine⟨ns,hp,fun i i0 i1=>⟨ns,hp,k0,fun x _=>?_⟩⟩;refine k _ ?_ ?_
 ·split <;> lia
 ·split <;> lia
end
open PySem L2 K19 K22
section
variable{P:Program}{w:World}{K:W.Frag}{mg:Str->Option Value}{base:Heap}{a:Adr}
open K3
theorem jV{ta:TA}{g:TG}{tb:TS}{D:fF}{σ:St}{H:Hp}(h:ta σ H fun vs H1=>∃j:Int,vs=[.int j] /\ -(2 ^ 62)<=j/\j<2 ^ 62/\FE (Itr 0 j.toNat) g tb D σ H1):o4 (DI ta) g tb D σ H:=h
theorem wt(l:List Nat)(lo hi:Option Int):(gL l lo hi).length<=l.length:=by
 unfold gL;rw[vm,List.length_drop];lia
theorem mJ{l:List Nat}{lo hi:Option Int}{x:Nat}(h:x∈gL l lo hi):x∈l:=by
 unfold gL at h;exact List.mem_of_mem_drop (Yr h)
abbrev AH:List Nat:=[97,98,99,100,101,102,103,104]
theorem wD{l:List Nat}(h:l.length=8)(x:Int):∃z∈l,atI l (x % 8)=some z:=by
 obtain⟨j,e⟩:=Zn (Ze x (show(8:Int)≠0 by decide));have b:=Zl x (show(0:Int)<8 by decide);rw[e]at b |-
 have hj:j<l.length:=by lia
 exact⟨l[j],Yh hj,aq (List.getElem?_eq_getElem hj)⟩
structure NmOk(ls:List (List Nat)):Prop where
 len:ls.length=5
 nd:ls.Nodup
 nm:∀l∈ls,nm l=true
def sgs:List (List Nat):=[[107],[109],[112],[107,109],[122]]
theorem Gq{u v s:List Nat}(hs:s∈sgs)(lu:u.length+v.length<=10)(hu:∀x∈u,x∈AH)(hv:∀x∈v,x∈AH):nm (u++s++v)=true:=by
 have hs2:1<=s.length/\s.length<=2/\∀x∈s,97<=x/\x<=122:=by
  have:∀s∈sgs,1<=s.length/\s.length<=2/\∀x∈s,97<=x/\x<=122:=by decide
  exact this s hs
 have ha:∀x∈AH,97<=x/\x<=122:=by decide
 have l:(u++s++v).length=u.length+s.length+v.length:=by rw[yk,yk]
 unfold nm lie;rw[decide_eq_true (by lia),decide_eq_true (by lia),Yn,Yn,Zj];intro x m;have:97<=x/\x<=122:=by
  rcases yI.mp m with m|m
  ·rcases yI.mp m with m|m
   ·exact ha x (hu x m)
   ·exact hs2.2.2 x m
  ·exact ha x (hv x m)
 rw[decide_eq_true this.1,decide_eq_true this.2];rfl
theorem NmOk.of{u v:List Nat}(lu:u.length+v.length<=10)(hu:∀x∈u,x∈AH)(hv:∀x∈v,x∈AH):NmOk (sgs.map fun s=>u++s++v):=by
 refine⟨rfl,?_,fun l m=>?_⟩
 ·refine YS.mpr ((show sgs.Nodup by decide).imp fun {x y} h e=>h ?_)
  exact List.append_cancel_left (List.append_cancel_right e)
 ·obtain⟨s,ms,rfl⟩:=yb.mp m
  exact Gq ms lu hu hv
theorem Ac:∀ls:List (List Nat),A2 (fun(v:V) (c:List Nat)=>v=L2.T c) (ls.map L2.T) ls
 | []=>.nil
 |_::r=>.cons rfl (Ac r)
theorem BS{ws:List V}{ls:List (List Nat)}(h:A2 (fun(v:V) (c:List Nat)=>v=L2.T c) ws ls):ws=ls.map L2.T:=by
 induction h with
 |nil=>rfl
 |cons e _ ih=>rw[yF,e,ih]
def sp_zB:Sp:=sp1 fun x H Q _=>NoT H/\asI x fun c=>∀p H' (ls:List (List Nat)),Same H H'->NoT H'->H p=none->H' p=some (.lst (ls.map L2.T))->NmOk ls->Q (.ref p) H'
theorem oW(T:Txt K mg a):Fo P w K mg base "_law_names" 1 sp_zB:=by
 refine T.qD.x1 ["_law_cell","_law_word","_law_more","_law_k","_law_at"] fun x0 fA cdv A outer s H Q E ND HU hr h=>?_;obtain⟨hN,h1⟩:=h;obtain⟨c,rfl,k⟩:=asI.inv h1;have sz:=szl;refine⟨_,(af (aT 1 ND (aQ []))
  (af (aT 2 ND (av aX (fv 0) aa))
  (af (dS (by passes_own) rfl (iT rfl T.iQ (fa1 (av a9 (fv 0) aa))) (aM (i:=3) ND rfl (Or.inl rfl)) (af (aT 1 ND (av aN (fv 1) (aA K (aQ [97,98,99,100,101,102,103,104]) (av a9 (fv 2) aa))))
  (ag (aT 2 ND (av aX (fv 2) aa)))))
  (af (aT 4 ND (av a9 (av aX (fv 0) aa) (av aN (aH (bh K) rfl T.b6 bA (fa1 (fv 1))) aa)))
  (ag (aJ (bz rfl (cl:=_) (x:="_law_sign") (xs:=["_law_sign"]) (fr:=["_law_word","_law_at"]) (ks:=[1,4]) (by walk_at "cq") rfl (bw K (bU (fa5 (aQ [107]) (aQ [109]) (aQ [112]) (aQ [107,109]) (aQ [122])))) (fun _ _ _ _ _=>(aM (i:=0) (cc (l:=["_law_sign","_law_word","_law_at"]) (by decide)) rfl (Or.inl rfl))) (fun _ _ _ _ _=>dU) (fun _ _ _ _ _=>(av aN (av aN (cO oB (fv 1) eF (cU (fv 2))) (fv 0)) (cO oB (fv 1) (cU (fv 2)) eF)))))))))),?_⟩
 walk_at "rd";refine jV ?_;walk_at "rd";refine⟨by lia,by lia,iY (lo:=0) (n:=(c % 6).toNat) (fun i σ' H'=>H=H'/\∃wd x2 x3,wd.length=i/\(∀x∈wd,x∈AH)/\σ'=[some (.int c),some (L2.T wd),some (.int x2),x3,none]) ⟨rfl,[],_,_,rfl,(fun _ m=>nomatch m),rfl⟩ ?_ ?_⟩
 ·rintro i σ' H' hi ⟨rfl,wd,x2,x3,lw,hw,rfl⟩
  obtain⟨z,mz,ez⟩:=wD (l:=AH) rfl x2;walk_at "rd";refine⟨by show 8<=sizeLine;lia,?_⟩;show match atI AH (x2 % 8) with|some c=>_|none=>False
  rw[ez];refine⟨by lia,wd++[z],_,_,by rw[yk,lw];rfl,fun x m=>?_,rfl,rfl,rfl⟩;rcases yI.mp m with m|m
  ·exact hw x m
  ·rw[zv.mp m];exact mz
 ·rintro σ' H' ⟨rfl,wd,x2,x3,lw,hw,rfl⟩
  walk_at "rd";refine⟨by lia,by lia,jn ?_⟩;walk_at "rd";refine⟨by walk_at "om",fun p hp=>⟨⟨_,SqL.of ad⟩,?_⟩⟩;generalize c / 8 % ((wd.length:Int)+1)=t;have l1:=wt wd none (some t);have l2:=wt wd (some t) none;have s1:=aj (HO.lst (sgs.map L2.T)) hp;refine ceA (S:=fun _ v c=>v=L2.T c) (fun _ _ _ _ _ h=>h) p (sgs.map L2.T) sgs (fun v c=>v=L2.T c) (fun _=>true) (fun s=>gL wd none (some t)++s++gL wd (some t) none) ad (az hN rfl) (Ac sgs) (by show 5<sizeLine;lia) (fun v s ms hs G zs M1 M0 sG nG hz n1 n0=>?_) fun D ws G hD sG nG gD aG=>?_
  ·subst hs
   obtain⟨z1,rfl⟩:=ex1 hz;have ls:s.length<=2:=(show ∀s∈sgs,s.length<=2 by decide) s ms;walk_at "rd";exact⟨⟨[_],rfl,rfl⟩,by lia,by lia,by lia,by rw[yk];lia,n1 rfl _ _ (Same.refl _) nG rfl⟩
  ·rw[qU.mpr (fun _ _=>rfl)]at aG
   rw[BS aG]at gD;exact k D G _ (s1.trans sG) nG (s1.free hD) gD (NmOk.of (by lia) (fun x m=>hw x (mJ m)) fun x m=>hw x (mJ m))
def HB(c:Int)(ls:List (List Nat)):Prop:=∃z1 z2,atI ([65,66,67,68,69,70,71,72]:List Nat) (c / 3 % 8)=some z1/\atI ([83,84,85,86,87,88,89,90]:List Nat) (c / 24 % 8)=some z2/\ls=[75,76,77].map fun x=>gL [z1,z2] none (some (c % 3))++[x]++gL [z1,z2] (some (c % 3)) none
def sp_Cm:Sp:=sp1 fun x H Q _=>NoT H/\asI x fun c=>∀p H' (ls:List (List Nat)),Same H H'->NoT H'->H p=none->H' p=some (.lst (ls.map L2.T))->ls.length=3->(∀l∈ls,cur l=true)->HB c ls->Q (.ref p) H'
theorem fK(T:Txt K mg a):Fo P w K mg base "_law_currencies" 1 sp_Cm:=by
 refine T.kr.x1 ["_law_cell","_law_two"] fun x0 fA cdv A outer s H Q E ND HU hr h=>?_;obtain⟨hN,h1⟩:=h;obtain⟨c,rfl,k⟩:=asI.inv h1;have sz:=szl;refine⟨_,(af (aT 1 ND (av aN (aA K (aQ [65,66,67,68,69,70,71,72]) (av a9 (av aX (fv 0) aa) aa)) (aA K (aQ [83,84,85,86,87,88,89,90]) (av a9 (av aX (fv 0) aa) aa))))
  (ag (aJ (bz rfl (cl:=_) (x:="_law_sign") (xs:=["_law_sign"]) (fr:=["_law_two","_law_cell"]) (ks:=[1,0]) (by walk_at "cq") rfl (AA (aQ [75,76,77])) (fun _ _ _ _ _=>(aM (i:=0) (cc (l:=["_law_sign","_law_two","_law_cell"]) (by decide)) rfl (Or.inl rfl))) (fun _ _ _ _ _=>dU) (fun _ _ _ _ _=>(av aN (av aN (cO oB (fv 1) eF (cU (av a9 (fv 2) aa))) (fv 0)) (cO oB (fv 1) (cU (av a9 (fv 2) aa)) eF))))))),?_⟩
 walk_at "rd";obtain⟨z1,m1,e1⟩:=wD (l:=[65,66,67,68,69,70,71,72]) rfl (c / 3);obtain⟨z2,m2,e2⟩:=wD (l:=[83,84,85,86,87,88,89,90]) rfl (c / 24);rw[e1];refine⟨by walk_at "om",?_⟩;dsimp only;rw[e2];refine⟨by walk_at "om",by walk_at "om",?_⟩;have up:∀x∈[z1,z2],65<=x/\x<=90:=by
  have a1:∀x∈([65,66,67,68,69,70,71,72]:List Nat),65<=x/\x<=90:=by decide
  have a2:∀x∈([83,84,85,86,87,88,89,90]:List Nat),65<=x/\x<=90:=by decide
  intro x m;simp only[z6,yj,or_false]at m;rcases m with rfl|rfl
  ·exact a1 _ m1
  ·exact a2 _ m2
 have l2:(gL [z1,z2] none (some (c % 3))).length+(gL [z1,z2] (some (c % 3)) none).length=2:=by
  rcases(by lia:c % 3=0\/c % 3=1\/c % 3=2) with e|e|e <;> rw[e] <;> rfl
 refine cmS (fun _=>True) (fun _ _ _=>trivial) [75,76,77] (fun _=>true) (fun x=>L2.T (gL [z1,z2] none (some (c % 3))++[x]++gL [z1,z2] (some (c % 3)) none)) (fun R r=>r) (by decide) (by show 3<=sizeLine;lia) (fun c _ H R _ r=>r) (fun x _ _ H R _ r=>?_) (fun D hD=>?_)
 ·walk_at "rd"
  exact⟨by walk_at "om",by lia,by walk_at "om",by rw[yk,si];lia,r⟩
 ·refine k D _ ([75,76,77].map fun x=>gL [z1,z2] none (some (c % 3))++[x]++gL [z1,z2] (some (c % 3)) none) (aj _ hD) (az hN rfl) hD ad rfl (fun l m=>?_) ⟨z1,z2,e1,e2,rfl⟩
  obtain⟨x,mx,rfl⟩:=yb.mp m;have hx:65<=x/\x<=90:=(show ∀x∈([75,76,77]:List Nat),65<=x/\x<=90 by decide) x mx;unfold cur lie;rw[decide_eq_true (by rw[yk,yk,si];lia),Yn,Zj];intro y my;have:65<=y/\y<=90:=by
   rcases yI.mp my with my|my
   ·rcases yI.mp my with my|my
    ·exact up y (mJ my)
    ·rw[zv.mp my];exact hx
   ·exact up y (mJ my)
  rw[decide_eq_true this.1,decide_eq_true this.2];rfl
end
open PySem L2 K19 K22
section
variable{P:Program}{w:World}{K:W.Frag}{mg:Str->Option Value}{base:Heap}{a:Adr}
open K3
theorem sd(x y:V):xt (zI "every") [(zI "bookings",x),(zI "undoings",y)]=none:=by rw[aR (by decide +kernel),aR (by decide +kernel)];rfl
def sp_uY:Sp:=sp1 fun x H Q _=>NoT H/\asR x fun p=>∃vs bs,H p=some (.lst vs)/\A2 (BkAt H) vs bs/\bs.length<=15/\(∀b∈bs,b.rs.length<=60)/\∀r ws H',H r=none->H' r=some (.lst ws)->A2 (RwAt H') ws (bs.flatMap (·.rs))->Same H H'->NoT H'->Q (.ref r) H'
theorem sZ:∀ {bs:List Bk},(∀b∈bs,b.rs.length<=60)->(bs.flatMap (·.rs)).length<=60*bs.length
 | [],_=>z5 _
 |b::r,h=>by
  have ih:=sZ (bs:=r) fun x m=>h x (.tail _ m);have hb:=h b (.head _);rw[Yu,yk,vq];lia
theorem vF(T:Txt K mg a):Fo P w K mg base "rows_of" 1 sp_uY:=by
 refine T.yg.x1 ["bookings","rows","booking"] fun x0 fA cdv A outer s H Q E ND HU hr h=>?_;obtain⟨hN,h1⟩:=h;obtain⟨p,rfl,vs,bs,hp,ha,len,ok,k⟩:=asR.inv h1;have sz:=szl;refine⟨_,(af (aT 1 ND (bU (FA.pa cn)))
  (af (dS (by passes_own) rfl (bw K (fv 0)) (aM (i:=2) ND rfl (Or.inl rfl)) (ag (bd (eA K Zh PySem.F.slot_list_extend PySem.F.type_list_extend Cg (fv 1) (fa1 (aA K (fv 2) aa))))))
  (ag (aJ (fv 1))))),?_⟩
 walk_at "rd";refine⟨xm _,fun r hr=>gP ?_⟩;walk_at "rd";refine gU (SqL.of ((aj _ hr) _ _ hp)) (gQ (fun i σ' H'=>Same H H'/\NoT H'/\∃ws x2,H' r=some (.lst ws)/\A2 (RwAt H') ws ((bs.take i).flatMap (·.rs))/\σ'=[some (.ref p),some (.ref r),x2]) ⟨aj _ hr,az hN rfl,[],none,ad,.nil,rfl⟩ (fun i σ' H' _ h=>SqL.of (h.1 _ _ hp)) ?_ ?_)
 ·rintro i x σ' H' hx ⟨sm,nT,ws,x2,hr',aw,rfl⟩
  obtain⟨b,hb,q,u,us,nt,un,rfl,e1,e2,ar⟩:=ha.at_ hx;have e1':=sm _ _ e1;have e2':=sm _ _ e2;have lw:=aw.len;have lf:=sZ (bs:=bs.take i) fun x m=>ok x (Yr m);rw[vm]at lf;have lb:=ok b (yO hb);have lu:=ar.len;walk_at "rd";refine⟨.inl ⟨_,SqL.of hr'⟩,_,_,.inr (SqT.of e1'),aq (j:=3) rfl,r,u,ws,us,rfl,rfl,hr',e2',by rw[xM];lia,fP sm hr,az nT rfl,_,_,ad,?_,rfl⟩;have kp:Keep [r] H' (upd H' r (.lst (ws++us))):=Keep.refl.put (.head _);rw[dQ hb,List.flatMap_append,Yu,List.flatMap_nil,u6];exact(fz kp (LW.one hr') aw).app (fz kp (LW.one hr') (bB sm ar))
 ·rintro σ' H' ⟨sm,nT,ws,x2,hr',aw,rfl⟩
  rw[ha.len,sf]at aw;walk_at "rd";exact k r ws H' hr hr' aw sm nT
def sp_yX(J:Addr):Sp:=sp2 fun x y H Q _=>NoT H/\asR x fun j=>asI y fun t=>∃b u vs kvs bs,JAt J H j b u vs kvs/\A2 (BkAt H) vs bs/\bs.length<=15/\∀r ws H',H r=none->H' r=some (.lst ws)->A2 (BkAt H') ws (bs.filter fun b=>decide (b.d<=t))->Same H H'->NoT H'->Q (.ref r) H'
theorem fW(T:Txt K mg a):Fo P w K mg base "bookings_up_to" 2 (sp_yX a.aP):=by
 refine T.lh.x2 ["journal","day"] fun x0 x1 fA cdv A outer s H Q E ND HU hr h=>?_;obtain⟨hN,h1⟩:=h;obtain⟨j,rfl,h2⟩:=asR.inv h1;obtain⟨t,rfl,b,u,vs,kvs,bs,JJ,hv,len,k⟩:=asI.inv h2;have sz:=szl;refine⟨_,(ag (aJ (bz rfl (cl:=_) (x:="booking") (xs:=["booking"]) (fr:=["day"]) (ks:=[1]) (by walk_at "cq") rfl (bw K (gz (fv 0) T.bc (gZ T) (hr.mono (by decide)) aD)) (fun _ _ _ _ _=>(aM (i:=0) (cc (l:=["booking","day"]) (by decide)) rfl (Or.inl rfl))) (fun _ _ _ _ _=>(dv (aS d_ (aA K (fv 0) aa) (fv 1)))) (fun _ _ _ _ _=>(fv 0))))),?_⟩;obtain⟨dj,hj⟩:=JJ.ob;walk_at "rd";refine jn ?_;walk_at "rd";refine⟨_,_,hj,sd _ _,hN,b,u,vs,kvs,JJ,fun l hl=>?_⟩;have sl:=aj (HO.lst vs) hl;have lv:=hv.len;refine⟨⟨_,SqL.of ad⟩,wN l vs (fun D i ys G=>Same (upd H l (.lst vs)) G/\NoT G/\G D=some (.lst ys)/\upd H l (.lst vs) D=none/\A2 (BkAt G) ys ((bs.take i).filter fun b=>decide (b.d<=t))) (by rw[xM];lia) (fun D hD=>⟨aj _ hD,az (az hN rfl) rfl,ad,hD,.nil⟩) (fun D i ys G h=>⟨h.2.2.1,SqL.of (h.1 _ _ ad),?_⟩) ?_ ?_⟩
 ·rw[h.2.2.2.2.len]
  exact xx (qZ _ _) (by rw[vm];lia)
 ·rintro D i y ys G zs N1 N0 hy ⟨sG,nG,hD,fD,aG⟩ hz n1 n0
  obtain⟨bb,hb1,hb2⟩:=hv.at_ hy;have hb3:=hb2.keep (W:=[]) (Keep.same (sl.trans sG)) LW.nil;obtain⟨qb,tb,vb,nt,un,rfl,e1,e2,rw_⟩:=id hb3;obtain⟨z1,rfl⟩:=ex1 hz;walk_at "rd";refine⟨⟨[some (.ref qb)],rfl,rfl⟩,_,_,.inr (SqT.of e1),aq (j:=1) rfl,?_⟩;walk_at "rd";rw[dQ hb1,Zm]at n1 n0;by_cases h:bb.d<=t
  ·rw[Zg (by simpa using h)]at n1
   have kp:Keep [D] G (upd G D (.lst (ys++[.ref qb]))):=Keep.refl.put (.head _);exact itp h (n1 _ _ hD ⟨fP sG fD,az nG rfl,ad,fD,(tI kp (LW.one hD) aG).snoc (hb3.keep kp (LW.one hD))⟩)
  ·rw[Zo (by simpa using h),Yz,u6]at n0
   exact itn h (n0 _ ⟨sG,nG,hD,fD,aG⟩)
 ·rintro D ys G ⟨sG,nG,hD,fD,aG⟩
  rw[lv,sf]at aG;exact k D ys G (sl.free fD) hD aG (sl.trans sG) nG
def sp_ES(J:Addr):Sp:=sp3 fun _ y z H Q _=>NoT H/\asR y fun j=>asI z fun t=>∃b u vs kvs bs,JAt J H j b u vs kvs/\A2 (BkAt H) vs bs/\bs.length<=15/\(∀b∈bs,b.rs.length<=60)/\(dk (rsd t bs)).length<64/\EO H Q (rsd t bs)
theorem lK(T:Txt K mg a):Fo P w K mg base "balances" 3 (sp_ES a.aP):=by
 refine T.uQ.x3 ["chart","journal","day"] fun x0 x1 x2 fA cdv A outer s H Q E ND HU hr h=>?_;obtain⟨hN,h1⟩:=h;obtain⟨j,rfl,h2⟩:=asR.inv h1;obtain⟨t,rfl,b,u,vs,kvs,bs,JJ,hv,len,ok,l64,k⟩:=asI.inv h2;refine⟨_,(ag (aJ (aI (jC T) hr aD (fa1 (aI (vF T) hr aD (fa1 (aI (fW T) hr aD (fa2 (fv 1) (fv 2))))))))),?_⟩;walk_at "rd";refine⟨hN,b,u,vs,kvs,bs,JJ,hv,len,fun r ws H1 fr hr aw s1 N1=>?_⟩;walk_at "rd";refine⟨N1,ws,_,hr,aw,xx (qZ _ _) len,fun x m=>ok x (qh.mp m).1,fun r2 ws2 H2 fr2 hr2 aw2 s2 N2=>?_⟩;walk_at "rd";rw[nU]at aw2;have lr:=nQ (t:=t) ok;exact⟨N2,ws2,_,hr2,aw2,by lia,l64,fun out r3 ws3 H3 po oo f3 h3 a3 s3 N3=>k out r3 ws3 H3 po oo ((s1.trans s2).free f3) h3 a3 ((s1.trans s2).trans s3) N3⟩
def sp_Dq:Sp:=sp2 fun x y H Q _=>NoT H/\asR x fun m=>asI y fun t=>∃ws bs,H m=some (.lst ws)/\A2 (BkAt H) ws bs/\bs.length<=15/\(∀b∈bs,b.rs.length<=60)/\(dk (rsd t bs)).length<64/\EO H Q (rsd t bs)
theorem kW(T:Txt K mg a):Fo P w K mg base "_law_balances" 3 sp_Dq:=by
 refine T.mw.g2 ["_law_bookings","_law_day_here","_law_found","_law_booking","_law_path","_law_currency","_law_amount"] fun x0 x1 fA cdv A outer s H Q E ND HU hr h=>?_;obtain⟨hN,h1⟩:=h;obtain⟨m0,rfl,h2⟩:=asR.inv h1;obtain⟨t,rfl,ws,bs,hm0,hv,len,ok,l64,k⟩:=asI.inv h2;have sz:=szl;refine⟨hN,_,(af (aT 2 ND rV)
  (af (dS (by passes_own) rfl (bw K (fv 0)) (aM (i:=3) ND rfl (Or.inl rfl)) (ag (aW (aS d_ (aA K (fv 3) aa) (fv 1)) (ag (dS (by passes_own) rfl (rB K (aA K (fv 3) aa)) (kh K (n:=3) rfl (bp (aM (i:=4) ND rfl (Or.inl rfl)) (bp (aM (i:=5) ND rfl (Or.inl rfl)) (bp (aM (i:=6) ND rfl (Or.inl rfl)) g_)))) (ag (gj (Zp HU) (fv 2) (bG (fa2 (fv 4) (fv 5))) (av aN (tB (Zp HU) (fv 2) (bG (fa2 (fv 4) (fv 5))) aa ⟨rfl,rfl,rfl,rfl⟩) (fv 6)) rfl)))) aL)))
  (ag (aJ (bz rfl (cl:=_) (x:="_law_pair") (xs:=["_law_pair"]) (fr:=["_law_found"]) (ks:=[2]) (by walk_at "cq") rfl (bw K (aH (pM rfl) rfl T.sO pQ (fa1 (fv 2)))) (fun _ _ _ _ _=>(aM (i:=0) (cc (l:=["_law_pair","_law_found"]) (by decide)) rfl (Or.inl rfl))) (fun _ _ _ _ _=>(dv (aS (bV K HU) (bL (Zp HU) (fv 1) (fv 0) (fun _ _=>rfl)) aa))) (fun _ _ _ _ _=>(bG (fa3 (aA K (fv 0) aa) (aA K (fv 0) aa) (bL (Zp HU) (fv 1) (fv 0) (fun _ _=>rfl)))))))))),?_⟩
 walk_at "rd";intro d hd;refine gP ?_;walk_at "rd";refine gU (SqL.of ((aj _ hd) _ _ hm0)) (gQ (fun i σ' H'=>Same H H'/\∃x3 x4 x5 x6,H' d=some (.dT ((dk (rsd t (bs.take i))).map jj))/\σ'=[some (.ref m0),some (.int t),some (.ref d),x3,x4,x5,x6]) ⟨aj _ hd,none,none,none,none,ad,rfl⟩ (fun i σ' H' _ h=>SqL.of (h.1 _ _ hm0)) ?_ ?_)
 ·rintro i x σ' H' hx ⟨sm,x3,x4,x5,x6,hd',rfl⟩
  obtain⟨b,hb,q,u,us,nt,un,rfl,e1,e2,ar⟩:=hv.at_ hx;have e1':=sm _ _ e1;have lb:=ok b (yO hb);have l1:(rsd t (bs.take i)).length<=900:=by
   have:=nQ (t:=t) (bs:=bs.take i) fun x m=>ok x (Yr m);rw[vm]at this;lia
  rw[dQ hb,nX];walk_at "rd";refine⟨_,_,.inr (SqT.of e1'),aq (j:=1) rfl,?_⟩;walk_at "rd";by_cases h:¬ b.d<=t
  ·refine itn h ⟨sm,_,_,_,_,?_,rfl,rfl,rfl,rfl⟩
   rw[if_neg h,u6];exact hd'
  have h:=Decidable.not_not.mp h;refine itp h (Aa ?_);walk_at "rd";refine⟨_,_,.inr (SqT.of e1'),aq (j:=3) rfl,?_⟩;refine Bp (SqT.of (sm _ _ e2)) (CA (fun j σ' G=>Same H G/\∃x4 x5 x6,G d=some (.dT ((dk (rsd t (bs.take i)++b.rs.take j)).map jj))/\σ'=[some (.ref m0),some (.int t),some (.ref d),some (.ref q),x4,x5,x6]) ⟨sm,_,_,_,by rw[List.take_zero,u6];exact hd',rfl⟩ (fun j σ' G _ h=>SqT.of (h.1 _ _ e2)) ?_ ?_)
  ·rintro j x σ' G hx ⟨sG,x4,x5,x6,dG,rfl⟩
   obtain⟨r,hr,q2,rfl,hq⟩:=ar.at_ hx;have hq':=sG _ _ hq;walk_at "rd";refine⟨_,_,rfl,SqT.of hq',rfl,_,_,rfl,_,_,rfl,_,_,rfl,rfl,?_⟩;walk_at "rd";have l2:=(iG (rsd t (bs.take i)++b.rs.take j)).2.2;have l3:(rsd t (bs.take i)++b.rs.take j).length<=1000:=by rw[yk,vm];lia
   refine⟨.inr ⟨_,.inl dG⟩,by walk_at "om",fun p1 hp1=>⟨_,DGet.t (k:=kP (r.pa,r.cu)) ((aj _ hp1) _ _ dG) ad,?_⟩⟩;rw[fN,xi];walk_at "rd";have s1:=aj (HO.tup [L2.T r.pa,L2.T r.cu]) hp1;refine⟨by walk_at "om",fun p2 hp2=>?_⟩;have s2:=s1.trans (aj (HO.tup [L2.T r.pa,L2.T r.cu]) hp2);refine⟨d,_,rfl,DPut.t (k:=kP (r.pa,r.cu)) (s2 _ _ dG) ad (by rw[zB,xM];lia),?_⟩;rw[nv];refine⟨fP (sG.trans s2) hd,_,_,_,?_,rfl,rfl,rfl⟩;rw[ad,dQ hr,<- YR,mK];rfl
  ·rintro σ' G ⟨sG,x4,x5,x6,dG,rfl⟩
   rw[ar.len,sf]at dG;exact⟨sG,_,_,_,_,by rw[if_pos h];exact dG,rfl⟩
 ·rintro σ' H' ⟨sm,x3,x4,x5,x6,hd',rfl⟩
  rw[hv.len,sf]at hd';walk_at "rd";refine jn ?_;walk_at "rd";refine⟨_,(dk (rsd t bs)).map (·.1),hd',tj _,by rw[zB];exact l64,fun out as po oo ao l hl=>?_⟩;have sl:=aj (HO.lst (as.map V.ref)) hl;have lo:=po.length_eq;rw[zB]at lo;have la:=ao.len;refine⟨⟨_,SqL.of ad⟩,wN l (as.map V.ref) (fun D i ys G=>Same (upd H' l (.lst (as.map V.ref))) G/\G D=some (.lst ys)/\upd H' l (.lst (as.map V.ref)) D=none/\A2 (RwAt G) ys (res (rsd t bs) (out.take i))) (by rw[zB,xM];lia) (fun D hD=>⟨aj _ hD,ad,hD,.nil⟩) (fun D i ys G h=>⟨h.2.1,SqL.of (h.1 _ _ ad),?_⟩) ?_ ?_⟩
  ·rw[h.2.2.2.len]
   exact xx (kK _ _) (by rw[vm];lia)
  ·rintro D i y ys G zs N1 N0 hy ⟨sG,hD,fD,aG⟩ hz n1 n0
   rw[List.getElem?_map]at hy;obtain⟨b,hb,rfl⟩:=u8.mp hy;obtain⟨e,he,kb⟩:=ao.at_ hb;have kG:=sG _ _ (sl _ _ kb);have dG:=sG _ _ (sl _ _ hd');have ve:=Bl (po.mem_iff.mp (yO he));obtain⟨z1,rfl⟩:=ex1 hz;have gd:∀(F:Hp) (q:Addr),KAt F q e->F d=some (.dT ((dk (rsd t bs)).map jj))->DGet F d (.ref q) (some (.int (val (rsd t bs) e))):=fun F q h1 h2=>by
    have g:=DGet.t (k:=kP e) h2 h1
    rwa [fN,ve]at g
   rw[dQ he,tw]at n1 n0;walk_at "rd";refine⟨⟨[some (.ref b)],rfl,rfl⟩,d,_,rfl,gd _ b kG dG,?_⟩;walk_at "rd";by_cases hv:val (rsd t bs) e=0
   ·rw[if_neg fun z=>z hv,u6]at n0
    exact itp hv (n0 _ ⟨sG,hD,fD,aG⟩)
   ·rw[if_pos hv]at n1
    refine itn hv ⟨_,_,.inr (SqT.of kG),aq (j:=0) rfl,_,_,.inr (SqT.of kG),aq (j:=1) rfl,d,_,rfl,gd _ b kG dG,by walk_at "om",fun p3 hp3=>?_⟩;obtain⟨m1,m2,m3⟩:=uq ⟨e.1,e.2,val (rsd t bs) e⟩ sG fD hD hp3 aG;exact n1 _ _ m1 ⟨m2,ad,fD,m3⟩
  ·rintro D ys G ⟨sG,hD,fD,aG⟩
   rw[zB,la,sf]at aG;have sg:=(sm.trans sl).trans sG;exact⟨_,Gc.flt sg,k out D ys _ po oo ((sm.trans sl).free fD) (uP sg hD rfl) (rO sg aG) (Gc.flt sg).a (v_ hN)⟩
end
open PySem L2 K19 K22
section
variable{P:Program}{w:World}{K:W.Frag}{mg:Str->Option Value}{base:Heap}{a:Adr}
open K3
structure SlAt(C:Addr)(H:Hp)(p b:Addr)(bs:List V):Prop where
 ob:∃dx,H p=some (.ins C dx [("told_seals",.ref b)])
 ls:H b=some (.lst bs)
theorem lks(x:V):xt (zI "told_seals") [(zI "told_seals",x)]=some x:=iA
def sp_yO(C:Addr):Sp:=sp1 fun x H Q _=>NoT H/\asR x fun p=>∃dx,H p=some (.ins C dx [])/\∀b H',H b=none->SlAt C H' p b []->Keep [p] H H'->NoT H'->Q .non H'
theorem kf(T:Txt K mg a):Mo P w K mg base a.cg "__init__" 1 (sp_yO a.cg):=by
 refine T.k8.x1 ["self"] fun x0 fA cdv A outer s H Q E ND HU hr h=>?_;obtain⟨hN,h1⟩:=h;obtain⟨p,rfl,dx,hp,k⟩:=asR.inv h1;refine⟨_,(ag (df K (fv 0) (bU (FA.pa cn)))),?_⟩;walk_at "rd";refine⟨xm _,fun b hb=>?_⟩;have np:p≠b:=aC hp hb;refine⟨_,_,_,(ah np).trans hp,T.g8,T.dD,by show 0<1000;decide,?_⟩;refine k b _ hb ⟨⟨dx,?_⟩,?_⟩ ((Keep.refl.new hb).put (zv.2 rfl)) (az (az hN rfl) rfl)
 ·rw[ad];simp[dI]
 ·rw[ah (Ne.symm np),ad]
def sp_z5(C:Addr):Sp:=sp2 fun x v H Q _=>NoT H/\asR x fun p=>∃b bs,SlAt C H p b bs/\bs.length<=100/\∀H',SlAt C H' p b (bs++[v])->Keep [b] H H'->NoT H'->Q .non H'
theorem qa(T:Txt K mg a):Mo P w K mg base a.cg "put" 1 (sp_z5 a.cg):=by
 refine T.sN.x2 ["self","told"] fun x0 x1 fA cdv A outer s H Q E ND HU hr h=>?_;obtain⟨hN,h1⟩:=h;obtain⟨p,rfl,b,bs,J,l1,k⟩:=asR.inv h1;obtain⟨dx,hp⟩:=J.ob;have nb:p≠b:=aU hp J.ls;refine⟨_,(ag (bd (eA K Zh ZX ZY eh (aY K (fv 0)) (fa1 (fv 1))))),?_⟩;walk_at "rd";refine⟨_,_,_,_,hp,T.g8,T.dD,lks _,.inl ⟨rfl,bs,SqL.of J.ls⟩,b,bs,_,rfl,rfl,J.ls,by rw[xM];lia,?_⟩;exact k _ ⟨⟨dx,(ah nb).trans hp⟩,ad⟩ (Keep.refl.put (.head _)) (az hN rfl)
def sp_vx(C:Addr):Sp:=sp1 fun x H Q _=>NoT H/\asR x fun p=>∃b bs,SlAt C H p b bs/\∀q,H q=none->Q (.ref q) (upd H q (.lst bs))
theorem iN(T:Txt K mg a):Mo P w K mg base a.cg "every" 1 (sp_vx a.cg):=by
 refine T.o0.g1 ["self"] fun x0 fA cdv A outer s H Q E ND HU hr h=>?_;obtain⟨hN,h1⟩:=h;obtain⟨p,rfl,b,bs,J,k⟩:=asR.inv h1;obtain⟨dx,hp⟩:=J.ob;refine⟨hN,_,(ag (aJ (b5 (qi K) rfl T.jy hG (fa1 (aY K (fv 0)))))),?_⟩;walk_at "rd";exact⟨_,_,_,_,hp,T.g8,T.dD,lks _,bs,.inl (SqL.of J.ls),fun l hl=>⟨_,Gc.one (aj _ hl) hl ad rfl,k l hl⟩⟩
def SeAt(H:Hp)(t:Addr)(m n:Int)(rs:List Row):Prop:=∃tr ws,H t=some (.tup [.int m,.int n,.ref tr])/\H tr=some (.tup ws)/\A2 (RwAt H) ws rs
theorem SeAt.same{H H':Hp}{t:Addr}{m n:Int}{rs:List Row}(h:SeAt H t m n rs)(s:Same H H'):SeAt H' t m n rs:=by
 obtain⟨tr,ws,e1,e2,e3⟩:=h;exact⟨tr,ws,s _ _ e1,s _ _ e2,bB s e3⟩
def mny(t:Int)(bs:List Bk):Int:=((bs.filter fun b=>decide (b.d<=t)).length:Nat)
structure JB(J:Addr)(H:Hp)(j b u:Addr)(vs:List V)(kvs:List (Key × V))(bs:List Bk):Prop where
 jo:JAt J H j b u vs kvs
 bk:A2 (BkAt H) vs bs
 l1:bs.length<=15
 l2:∀b∈bs,b.rs.length<=60
 l3:∀t,(dk (rsd t bs)).length<64
theorem JB.same{J:Addr}{H H':Hp}{j b u:Addr}{vs:List V}{kvs:List (Key × V)}{bs:List Bk}(h:JB J H j b u vs kvs bs)(s:Same H H'):JB J H' j b u vs kvs bs:=
 { h with jo:=h.jo.keep (S:=[]) (Keep.same s) yj yj yj,bk:=mR s h.bk }
def DG(H:Hp)(Q:VK)(m:Int)(bs:List Bk):Prop:=∀out t H',out.Perm ((dk (rsd (FD (m+1)-1) bs)).map (·.1))->mS out->H t=none->SeAt H' t m (mny (FD (m+1)-1) bs) (res (rsd (FD (m+1)-1) bs) out)->Same H H'->NoT H'->Q (.ref t) H'
def sp_CN(J:Addr):Sp:=sp3 fun _ y z H Q _=>NoT H/\asR y fun j=>asI z fun m=>(0<=m/\m<=4799)/\∃b u vs kvs bs,JB J H j b u vs kvs bs/\DG H Q m bs
theorem wA(T:Txt K mg a):Fo P w K mg base "seal" 4 (sp_CN a.aP):=by
 refine T.Fx.x3 ["chart","journal","month","day"] fun x0 x1 x2 fA cdv A outer s H Q E ND HU hr h=>?_;obtain⟨hN,h1⟩:=h;obtain⟨j,rfl,h2⟩:=asR.inv h1;obtain⟨m,rfl,hm,b,u,vs,kvs,bs,JJ,k⟩:=asI.inv h2;have sz:=szl;refine⟨_,(af (aW (bK (bx (aI (iC T) hr aD (fa1 (fv 2))))) (ag (bN T.og T.ot ba)) aL)
  (af (aT 3 ND (aI (gn T) hr aD (fa1 (fv 2))))
  (ag (aJ (bG (fa3 (fv 2) (aH (bh K) rfl T.b6 bA (fa1 (aI (fW T) hr aD (fa2 (fv 1) (fv 3))))) (b5 (kx K) rfl T.ky iy (fa1 (aI (lK T) hr aD (fa3 (fv 0) (fv 1) (fv 3))))))))))),?_⟩
 walk_at "rd";rw[iO,decide_eq_true hm.1,decide_eq_true hm.2];refine⟨hN,itn (by decide) ?_⟩;walk_at "rd";refine⟨hN,hN,b,u,vs,kvs,bs,JJ.jo,JJ.bk,JJ.l1,fun r ws H1 hr hr1 aw s1 N1=>?_⟩;have J1:=JJ.same s1;refine⟨ws,.inl (SqL.of hr1),N1,b,u,vs,kvs,bs,J1.jo,J1.bk,JJ.l1,JJ.l2,JJ.l3 _,?_⟩;intro out r2 ws2 H2 po oo hr2 hr3 a2 s2 N2;walk_at "rd";refine⟨ws2,.inl ⟨SqL.of hr3,fun t ht=>⟨by walk_at "om",fun p hp=>?_⟩⟩⟩;have s3:=aj (HO.tup ws2) ht;have s4:=s3.trans (aj (HO.tup [V.int m,V.int (ws.length:Nat),V.ref t]) hp);have em:((ws.length:Nat):Int)=mny (FD (m+1)-1) bs:=by rw[aw.len];rfl
 refine k out p _ po oo ((s1.trans (s2.trans s3)).free hp) ⟨t,ws2,by rw[ad,em],(aj _ hp) _ _ ad,bB s4 a2⟩ ((s1.trans s2).trans s4) (az (az N2 rfl) rfl)
theorem Dp(l m:List Nat):((⟨⟨l⟩⟩:Str)==⟨⟨m⟩⟩)=(l==m):=by
 rw[Yy,beq_iff_eq,beq_iff_eq];exact⟨fun h=>by injection h with h;injection h,fun h=>by rw[h]⟩
theorem rj{H:Hp}{n:Nat}{i j:Int}:EqH K H n (.int i) (.int j) (i==j):=EqH.flat (x:=.int i) (y:=.int j) rfl rfl
theorem wW{H:Hp}{n:Nat}{l m:List Nat}:EqH K H n (L2.T l) (L2.T m) (l==m):=by
 have:=EqH.flat (K:=K) (H:=H) (n:=n) (x:=L2.T l) (y:=L2.T m) rfl rfl
 rwa [show eqV (L2.T l) (L2.T m)=(l==m) by unfold eqV;exact Dp l m]at this
def rwB(r r':Row):Bool:=r.pa==r'.pa&&(r.cu==r'.cu&&r.am==r'.am)
theorem sw(r:Row):rwB r r=true:=by unfold rwB;rw[beq_self_eq_true,beq_self_eq_true,beq_self_eq_true];rfl
def xS(xs ys:List Row):Bool:=(Zi (min xs.length ys.length)).all (fun j=>(xs[j]?).any fun x=>(ys[j]?).any fun y=>rwB x y)&&xs.length==ys.length
theorem pR(xs:List Row):xS xs xs=true:=by
 unfold xS;rw[beq_self_eq_true,Bool.and_true,Zj];intro j m;have hj:j<xs.length:=by rw[Nat.min_self]at m;exact List.mem_range.mp m
 rw[List.getElem?_eq_getElem hj];exact sw _
theorem xh{H:Hp}{v:V}{r r':Row}(h:RwAt H v r)(h':RwAt H v r'):r=r':=by
 obtain⟨q,rfl,e⟩:=h;obtain⟨q',e',e2⟩:=h';cases e';rw[e]at e2;cases r;cases r';simp at e2;simp[e2]
theorem zG{H:Hp}{xs:List V}{rs rs':List Row}(h:A2 (RwAt H) xs rs):A2 (RwAt H) xs rs'->rs=rs':=by
 induction h generalizing rs' with
 |nil=>intro h';cases h';rfl
 |cons e _ ih=>intro h';cases h' with|cons e' t=>rw[xh e e',ih t]
theorem E5{H:Hp}{n:Nat}{v v':V}{r r':Row}(h:RwAt H v r)(h':RwAt H v' r'):EqH K H (n+1) v v' (rwB r r'):=by
 obtain⟨q,rfl,e1⟩:=id h;obtain⟨q',rfl,e2⟩:=id h';by_cases hq:q=q'
 ·subst hq;rw[xh h h',sw];exact .same
 ·have:=EqH.tup (K:=K) (H:=H) (n:=n) (e:=fun j=>[r.pa==r'.pa,r.cu==r'.cu,r.am==r'.am].getD j false) hq (SqT.of e1) (SqT.of e2) fun j x y gx gy=>by
   match j,gx with
   |0,gx=>cases gx;cases gy;exact wW
   |1,gx=>cases gx;cases gy;exact wW
   |2,gx=>cases gx;cases gy;exact rj
   |j+3,gx=>simp at gx
  have e:((r.pa==r'.pa&&(r.cu==r'.cu&&(r.am==r'.am&&true)))&&true)=rwB r r':=by rw[Bool.and_true,Bool.and_true];rfl
  exact e ▸ this
theorem CC{H:Hp}{n:Nat}{p q:Addr}{xs ys:List V}{rs rs':List Row}(hp:H p=some (.tup xs))(hq:H q=some (.tup ys))(h:A2 (RwAt H) xs rs)(h':A2 (RwAt H) ys rs'):EqH K H (n+2) (.ref p) (.ref q) (xS rs rs'):=by
 by_cases e:p=q
 ·subst e
  rw[hp]at hq;cases hq;rw[zG h h',pR];exact .same
 ·have:=EqH.tup (K:=K) (H:=H) (n:=n+1) (e:=fun j=>(rs[j]?).any fun x=>(rs'[j]?).any fun y=>rwB x y) e (SqT.of hp) (SqT.of hq) fun j x y gx gy=>by
   obtain⟨r,g1,r1⟩:=h.at_ gx;obtain⟨r',g2,r2⟩:=h'.at_ gy;rw[g1,g2];exact E5 r1 r2
  rw[h.len,h'.len]at this;exact this
def seB(m n:Int)(rs:List Row)(m' n':Int)(rs':List Row):Bool:=m==m'&&(n==n'&&xS rs rs')
theorem s_(m n:Int)(rs:List Row):seB m n rs m n rs=true:=by unfold seB;rw[pR,beq_self_eq_true,beq_self_eq_true];rfl
theorem D8{H:Hp}{p q:Addr}{m n m' n':Int}{rs rs':List Row}(h:SeAt H p m n rs)(h':SeAt H q m' n' rs'):EqR K H p q (seB m n rs m' n' rs'):=by
 obtain⟨tr,ws,e1,e2,e3⟩:=h;obtain⟨tr',ws',g1,g2,g3⟩:=h';have:=EqR.tup (K:=K) (e:=fun j=>[m==m',n==n',xS rs rs'].getD j false) (SqT.of e1) (SqT.of g1) fun j x y gx gy=>by
  match j,gx with
  |0,gx=>cases gx;cases gy;exact rj
  |1,gx=>cases gx;cases gy;exact rj
  |2,gx=>cases gx;cases gy;exact CC e2 g2 e3 g3
  |j+3,gx=>simp at gx
 have e:((m==m'&&(n==n'&&(xS rs rs'&&true)))&&true)=seB m n rs m' n' rs':=by rw[Bool.and_true,Bool.and_true];rfl
 exact e ▸ this
def sp_Af(J:Addr):Sp:=sp3 fun _ y z H Q _=>NoT H/\asR y fun j=>asR z fun t=>∃m n rs b u vs kvs bs,SeAt H t m n rs/\(0<=m/\m<=4799)/\JB J H j b u vs kvs bs /\
 ∀out,out.Perm ((dk (rsd (FD (m+1)-1) bs)).map (·.1))->mS out->Q (.bl (seB m (mny (FD (m+1)-1) bs) (res (rsd (FD (m+1)-1) bs) out) m n rs)) H
theorem zh(T:Txt K mg a):Fo P w K mg base "holds" 5 (sp_Af a.aP):=by
 refine T.C2.g3 ["chart","journal","told"] fun x0 x1 x2 fA cdv A outer s H Q E ND HU hr h=>?_;obtain⟨hN,h1⟩:=h;obtain⟨j,rfl,h2⟩:=asR.inv h1;obtain⟨t,rfl,m,n,rs,b,u,vs,kvs,bs,S,m0,JJ,k⟩:=asR.inv h2;have sz:=szl;refine⟨hN,_,(ag (aJ (c_ (aI (iC T) hr aD (fa1 (aA K (fv 2) aa))) (dH (cY (cM K HU) (aI (wA T) hr aD (fa3 (fv 0) (fv 1) (aA K (fv 2) aa))) (fv 2) (dY _)))))),?_⟩;walk_at "rd";obtain⟨tr,ws,e1,e2,e3⟩:=id S;have em:amg (.int m) 0 4799=true:=by unfold amg;simp[m0.1,m0.2]
 refine⟨_,_,.inr (SqT.of e1),aq (j:=0) rfl,hN,?_⟩;refine itp em ⟨_,_,.inr (SqT.of e1),aq (j:=0) rfl,hN,m0,b,u,vs,kvs,bs,JJ,fun out q H1 po oo hq hS sm nT=>?_⟩;exact⟨_,D8 hS (S.same sm),H,Gc.none sm,by rw[Bool.false_xor];exact k out po oo⟩
def sp_xM:Sp:=sp2 fun x y H Q _=>NoT H/\asR x fun p=>asI y fun m=>∃vs bs,H p=some (.lst vs)/\A2 (BkAt H) vs bs/\bs.length<=15/\(∀b∈bs,b.rs.length<=60)/\(dk (rsd (FD (m+1)-1) bs)).length<64 /\
 DG H Q m bs
theorem oh(T:Txt K mg a):Fo P w K mg base "_law_sealed" 5 sp_xM:=by
 refine T.oE.x2 ["_law_bookings","_law_month_here","_law_day_here","_law_many"] fun x0 x1 fA cdv A outer s H Q E ND HU hr h=>?_;obtain⟨hN,h1⟩:=h;obtain⟨p,rfl,h2⟩:=asR.inv h1;obtain⟨m,rfl,vs,bs,hp,hv,len,ok,l64,k⟩:=asI.inv h2;have sz:=szl;refine⟨_,(af (aT 2 ND (aA K (aI (dE T) hr aD (fa1 (fv 1))) aa))
  (af (aT 3 ND (aH (bh K) rfl T.b6 bA (fa1 (bz rfl (cl:=_) (x:="_law_booking") (xs:=["_law_booking"]) (fr:=["_law_day_here"]) (ks:=[2]) (by walk_at "cq") rfl (bw K (fv 0)) (fun _ _ _ _ _=>(aM (i:=0) (cc (l:=["_law_booking","_law_day_here"]) (by decide)) rfl (Or.inl rfl))) (fun _ _ _ _ _=>(dv (aS d_ (aA K (fv 0) aa) (fv 1)))) (fun _ _ _ _ _=>(fv 0))))))
  (ag (aJ (bG (fa3 (fv 1) (fv 3) (b5 (kx K) rfl T.ky iy (fa1 (aI (kW T) hr aD (fa2 (fv 0) (fv 2))))))))))),?_⟩
 walk_at "rd";have lv:=hv.len;refine⟨hN,fun q H1 s1 N1 hq=>⟨_,_,.inr (SqT.of hq),aq (j:=1) rfl,?_⟩⟩;refine jn ?_;walk_at "rd";refine⟨⟨_,SqL.of (s1 _ _ hp)⟩,ceA (S:=fun _ _ (_:Bk)=>True) (fun _ _ _ _ _ _=>trivial) p vs bs (BkAt H1) (fun b=>decide (b.d<=FD (m+1)-1)) id (s1 _ _ hp) N1 (mR s1 hv) (by lia) (fun v z mz hz F zs M1 M0 sF nF hzs n1 n0=>?_) fun D ws G hD sG nG gD aG=>?_⟩
 ·obtain⟨q,t,us,nt,un,rfl,b1,_⟩:=hz
  obtain⟨z1,rfl⟩:=ex1 hzs;walk_at "rd";refine⟨⟨[_],rfl,rfl⟩,_,_,.inr (SqT.of (sF _ _ b1)),aq (j:=1) rfl,?_⟩;walk_at "rd";by_cases h:z.d<=FD (m+1)-1
  ·exact itp h (n1 (decide_eq_true h) _ _ (fun _ _ e=>e) nF trivial)
  ·exact itn h (n0 (decide_eq_false h) _ (fun _ _ e=>e) nF)
 ·walk_at "rd"
  have sH:=s1.trans sG;have em:((ws.length:Nat):Int)=mny (FD (m+1)-1) bs:=by rw[aG.len,zB];rfl
  refine⟨_,.inl (SqL.of gD),nG,vs,bs,sH _ _ hp,mR sH hv,len,ok,l64,fun out r ws2 H2 po oo hr hr2 a2 s2 N2=>?_⟩;walk_at "rd";refine⟨ws2,.inl ⟨SqL.of hr2,fun t ht=>⟨by walk_at "om",fun p1 hp1=>?_⟩⟩⟩;have s3:=aj (HO.tup ws2) ht;have s4:=s3.trans (aj (HO.tup [V.int m,V.int (ws.length:Nat),V.ref t]) hp1);exact k out p1 _ po oo ((sH.trans (s2.trans s3)).free hp1) ⟨t,ws2,by rw[ad,em],(aj _ hp1) _ _ ad,bB s4 a2⟩ ((sH.trans s2).trans s4) (az (az N2 rfl) rfl)
end
open PySem L2 K19 K22
section
variable{P:Program}{w:World}{K:W.Frag}{mg:Str->Option Value}{base:Heap}{a:Adr}
open K3
structure La where
 pa:List Nat
 cu:Option (List Nat)
 fi:Int
 un:Option Int
 ki:List Nat
 ls:Addr
def cuV:Option (List Nat)->V
 |none=>.non
 |some l=>L2.T l
def kyL(x:La):Key × V:=(.inr ⟨⟨x.pa⟩⟩,.ref x.ls)
abbrev laL(x:La):HO:=.lst [cuV x.cu,.int x.fi,cl x.un,L2.T x.ki]
structure AcAt(H:Hp)(d:Addr)(as:List La):Prop where
 dc:Rd H d (.dK (as.map kyL))
 ls:∀x∈as,H x.ls=some (laL x)
theorem AcAt.val{H:Hp}{d:Addr}{as:List La}(nd:(as.map (·.pa)).Nodup){x:La}(m:x∈as):dR (as.map kyL) (.inr ⟨⟨x.pa⟩⟩)=some (.ref x.ls):=by
 induction as with
 |nil=>cases m
 |cons y r ih=>
  rw[yF]at nd;obtain⟨n1,n2⟩:=qI.mp nd;by_cases c:y.pa=x.pa
  ·rw[yF,bQ (by unfold kyL;rw[c])]
   rcases z6.mp m with rfl|m
   ·rfl
   ·exact absurd (c ▸ xp (f:=(·.pa)) m) n1
  ·rw[yF,bH (fun z=>c (by simpa [kyL] using z))]
   rcases z6.mp m with rfl|m
   ·exact absurd rfl c
   ·exact ih n2 m
theorem AcAt.get{H:Hp}{d:Addr}{as:List La}(h:AcAt H d as)(nd:(as.map (·.pa)).Nodup){x:La}(m:x∈as):DGet H d (L2.T x.pa) (some (.ref x.ls)):=
 .inl ⟨_,.inr ⟨⟨x.pa⟩⟩,h.dc,rfl,(AcAt.val (H:=H) (d:=d) nd m).symm⟩
theorem jN{l:List Nat}(h:nm l=true):58∉l:=fun m=>by have:=(lD h).2.2 58 m;lia
structure POk(l:List Nat):Prop where
 pn:jX l=true
 lo:∀c∈l,c<128
 ln:l.length+1<=13*(spN 58 l).length
theorem POk.len{l:List Nat}(h:POk l):l.length<=100:=by
 have:=h.pn;unfold jX at this;simp only[sT,decide_eq_true_eq]at this;have:=h.ln;lia
theorem POk.top{l:List Nat}(hl:nm l=true):POk l:=by
 have e:=jW 58 _ (jN hl);obtain⟨h1,h2,h3⟩:=lD hl;refine⟨?_,fun x hx=>by have:=h3 x hx;lia,by rw[e];simp;lia⟩;unfold jX;rw[e];simp[hl]
theorem POk.ext{u n:List Nat}(hn:nm n=true)(h:POk u)(l5:(spN 58 u).length<=5):POk (u++58::n):=by
 have e:=fU (v:=u) (jN hn);obtain⟨h1,h2,h3⟩:=lD hn;have hp:=h.pn;unfold jX at hp;simp only[sT,decide_eq_true_eq]at hp;refine⟨?_,fun x hx=>?_,?_⟩
 ·unfold jX
  rw[e,yk,List.all_append];simp only[sT,decide_eq_true_eq];exact⟨⟨by lia,by simp;lia⟩,hp.2,by simp[hn]⟩
 ·rcases yI.mp hx with m|m
  ·exact h.lo x m
  ·rcases z6.mp m with rfl|m
   ·decide
   ·have:=h3 x m;lia
 ·have:=h.ln
  rw[e,yk,yk,si,vq];lia
structure Ok1(as:List La)(x:La):Prop where
 nw:∀y∈as,y.pa≠x.pa
 po:POk x.pa
 ki:x.ki∈KDS
 fi:0<=x.fi/\x.fi<=10
 un:∀t,x.un=some t->10<t/\t<=146096
 cu:∀l,x.cu=some l->cur l=true
 st:(nm x.pa=true/\x.fi=0/\x.un=none/\x.cu=none)\/(∃u n,u∈as/\x.pa=u.pa++58::n/\58∉n/\u.un=none/\u.fi<=x.fi/\x.ki=u.ki)
def AsOk(as:List La):Prop:=∀i x,as[i]? = some x->Ok1 (as.take i) x
theorem AsOk.snoc{as:List La}{x:La}(h:AsOk as)(hx:Ok1 as x):AsOk (as++[x]):=fun i y e=>by
 rcases Nat.lt_trichotomy i as.length with l|l|l
 ·rw[List.getElem?_append_left l]at e
  rw[List.take_append_of_le_length (by lia)];exact h i y e
 ·subst l
  rw[List.getElem?_append_right (z5 _),Nat.sub_self]at e;cases e;rw[List.take_left']
  ·exact hx
  ·rfl
 ·rw[List.getElem?_append_right (by lia),show i-as.length=(i-as.length-1)+1 by lia]at e
  cases e
theorem AsOk.nd{as:List La}(h:AsOk as):(as.map (·.pa)).Nodup:=by
 rw[List.nodup_iff_pairwise_ne];refine Zd.mpr fun i j hi hj hij e=>?_;rw[zB]at hi hj;rw[List.getElem_map,List.getElem_map]at e;have o:=h j as[j] (by simp);refine o.nw as[i] ?_ e;rw[List.mem_iff_getElem];exact⟨i,by rw[vm];lia,by rw[List.getElem_take]⟩
structure Tp(x:La):Prop where
 nm:nm x.pa=true
 cu:x.cu=none
 fi:x.fi=0
 un:x.un=none
def Tp3(as:List La):Prop:=∃x y z r,as=x::y::z::r/\Tp x/\Tp y/\Tp z/\y.ki=[111,119,110]
structure As8(as:List La):Prop where
 ok:AsOk as
 len:as.length<=8
 top:Tp3 as
def P8(n:Nat->List Nat):List (List Nat):=[n 0,n 1,n 3,n 0++58::n 2,n 0++58::n 3,n 1++58::n 2,n 3++58::n 4,(n 0++58::n 2)++58::n 0]
theorem Bt{l:List Nat}(h:58∉l):spN 58 l=[l]:=jW 58 _ h
theorem Hr{n:Nat->List Nat}(hn:∀i,i<5->58∉n i)(ne:∀i j,i<j->j<5->n i≠n j):(P8 n).Nodup:=by
 have key:((P8 n).map (spN 58)).Nodup:=by
  have h0:=hn 0 (by decide);have h1:=hn 1 (by decide);have h2:=hn 2 (by decide);have h3:=hn 3 (by decide);have h4:=hn 4 (by decide);have e:(P8 n).map (spN 58)=[[n 0],[n 1],[n 3],[n 0,n 2],[n 0,n 3],[n 1,n 2],[n 3,n 4],[n 0,n 2,n 0]]:=by
   unfold P8;simp only[yF,Yd,fU h0,fU h2,fU h3,fU h4,Bt h0,Bt h1,Bt h3,ZU,List.nil_append]
  rw[e];have a01:=ne 0 1 (by decide) (by decide);have a03:=ne 0 3 (by decide) (by decide);have a13:=ne 1 3 (by decide) (by decide);have a23:=ne 2 3 (by decide) (by decide);have a31:=Ne.symm a13;simp[a01,a03,a13,a23,a31,Ne.symm a01,Ne.symm a03]
 exact(YS.mp key).imp fun h e=>h (by rw[e])
theorem wy{as:List La}{x:La}(h:∀y∈as,y.pa≠x.pa):e9 (as.map kyL) (.inr ⟨⟨x.pa⟩⟩) (.ref x.ls)=(as++[x]).map kyL:=by
 rw[nL,vx]
 ·rfl
 ·induction as with
  |nil=>rfl
  |cons y r ih=>rw[yF,bH (fun z=>h y (.head _) (by simpa [kyL] using z)),ih fun z m=>h z (.tail _ m)]
structure AF(n:Nat->List Nat)(as:List La)(m:Nat):Prop where
 pa:as.map (·.pa)=(P8 n).take m
 ok:AsOk as
 fi:∀x∈as,x.fi<=m
 un:∀j u,j<=3->as[j]? = some u->u.un=none
 tp:∀j u,j<3->as[j]? = some u->Tp u/\(j=1->u.ki=[111,119,110])
 le:m<=8
structure NF(n:Nat->List Nat):Prop where
 n_:∀i,i<5->nm (n i)=true
 nd:(P8 n).Nodup
 po:∀l∈P8 n,POk l
theorem NF.of{ls:List (List Nat)}(h:NmOk ls):NF fun i=>ls.getD i []:=by
 have hl:=h.len;have e:∀i,i<5->ls.getD i []∈ls:=fun i hi=>by
  have:i<ls.length:=by lia
  simp[Y5,List.getElem?_eq_getElem this]
 have a:∀i,i<5->nm (ls.getD i [])=true:=fun i hi=>h.nm _ (e i hi);refine⟨a,Hr (fun i hi=>jN (a i hi)) fun i j hij hj q=>?_,fun l m=>?_⟩
 ·have hi2:i<ls.length:=by lia
  have hj2:j<ls.length:=by lia
  simp only[Y5,List.getElem?_eq_getElem hi2,List.getElem?_eq_getElem hj2,Option.getD_some]at q;have:=Zd.mp h.nd i j hi2 hj2 hij;exact this q
 ·have t:=fun i hi=>POk.top (a i hi)
  have l1:∀i,i<5->(spN 58 (ls.getD i [])).length=1:=fun i hi=>by rw[Bt (jN (a i hi))];rfl
  have x:=fun i j hi hj=>(t i hi).ext (a j hj) (by rw[l1 i hi];decide);unfold P8 at m;simp only[z6,yj,or_false]at m;rcases m with rfl|rfl|rfl|rfl|rfl|rfl|rfl|rfl
  ·exact t 0 (by decide)
  ·exact t 1 (by decide)
  ·exact t 3 (by decide)
  ·exact x 0 2 (by decide) (by decide)
  ·exact x 0 3 (by decide) (by decide)
  ·exact x 1 2 (by decide) (by decide)
  ·exact x 3 4 (by decide) (by decide)
  ·exact(x 0 2 (by decide) (by decide)).ext (a 0 (by decide)) (by rw[fU (jN (a 2 (by decide))),yk,l1 0 (by decide)];show 1+1<=5;decide)
section
variable{n:Nat->List Nat}{as:List La}{m:Nat}{x:La}
theorem AF.len(h:AF n as m):as.length=m:=by
 have:=congrArg Y8 h.pa;rw[zB,vm]at this;have l8:(P8 n).length=8:=rfl;have:=h.le;lia
theorem AF.nw(h:AF n as m)(hn:NF n)(hx:(P8 n)[m]? = some x.pa):∀y∈as,y.pa≠x.pa:=fun y my e=>by
 have:y.pa∈(P8 n).take m:=h.pa ▸ xp my;obtain⟨i,hi,ei⟩:=List.mem_iff_getElem.mp this;rw[vm]at hi;rw[List.getElem_take]at ei;obtain⟨hm,em⟩:=List.getElem?_eq_some_iff.mp hx;have:=Zd.mp hn.nd i m (by lia) hm (by lia);exact this (ei.trans (e.trans em.symm))
theorem AF.snoc(h:AF n as m)(hx:(P8 n)[m]? = some x.pa)(o:Ok1 as x)(fi:x.fi<=m+1)(hu:m<=3->x.un=none)(hw:m<3->Tp x/\(m=1->x.ki=[111,119,110])):AF n (as++[x]) (m+1):=by
 have l8:(P8 n).length=8:=rfl;have hm:=(List.getElem?_eq_some_iff.mp hx).1;have ln:=h.len;have at_:∀j u,(as++[x])[j]? = some u->as[j]? = some u\/(j=m/\u=x):=fun j u e=>by
  rcases Nat.lt_trichotomy j as.length with l|l|l
  ·rw[List.getElem?_append_left l]at e
   exact .inl e
  ·subst l
   rw[List.getElem?_append_right (z5 _),Nat.sub_self]at e;cases e;exact .inr ⟨ln,rfl⟩
  ·rw[List.getElem?_append_right (by lia),show j-as.length=(j-as.length-1)+1 by lia]at e
   cases e
 refine⟨?_,h.ok.snoc o,fun y my=>?_,fun j u hj e=>?_,fun j u hj e=>?_,by lia⟩
 ·rw[vx,h.pa,Z4,hx];rfl
 ·rcases yI.mp my with my|my
  ·have:=h.fi y my;lia
  ·rw[zv.mp my];lia
 ·rcases at_ j u e with e|⟨rfl,rfl⟩
  ·exact h.un j u hj e
  ·exact hu hj
 ·rcases at_ j u e with e|⟨rfl,rfl⟩
  ·exact h.tp j u hj e
  ·exact hw hj
theorem AF.t3(h:AF n as m)(hm:3<=m):Tp3 as:=by
 have ln:=h.len;have tp:=h.tp
 match as,ln,tp with
 |x::y::z::r,_,tp=>exact⟨x,y,z,r,rfl,(tp 0 x (by decide) rfl).1,(tp 1 y (by decide) rfl).1,(tp 2 z (by decide) rfl).1,(tp 1 y (by decide) rfl).2 rfl⟩
 | [],e,_=>exact absurd e (by show 0≠m;lia)
 | [_],e,_=>exact absurd e (by show 1≠m;lia)
 | [_,_],e,_=>exact absurd e (by show 2≠m;lia)
theorem AF.at_(h:AF n as m){j:Nat}{p:List Nat}(hj:j<m)(e:(P8 n)[j]? = some p):∃u,as[j]? = some u/\u.pa=p:=by
 have:=congrArg (·[j]?) h.pa;rw[List.getElem?_map,List.getElem?_take,if_pos hj,e]at this;cases e2:as[j]? with
 |none=>rw[e2]at this;cases this
 |some u=>rw[e2]at this;exact⟨u,rfl,uF this⟩
end
end
open PySem L2 K19 K22
section
variable{P:Program}{w:World}{K:W.Frag}{mg:Str->Option Value}{base:Heap}{a:Adr}
open K3
theorem alloc{H:Hp}{p:Addr}(o:HO)(h:H p=none)(n:NoT H)(f:iI o=true):∃G,upd H p o=G/\Same H G/\G p=some o/\NoT G:=⟨_,rfl,aj _ h,ad,az n f⟩
abbrev sgA(sc pn pc:Addr)(c:Int)(pk pt d:Addr)(x7 x8 x9 x10 x11 x12:Option V):St:=[some (.ref sc),some (.ref pn),some (.ref pc),some (.int c),some (.ref pk),some (.ref pt),some (.ref d),x7,x8,x9,x10,x11,x12]
def GE:Stmt->List Stmt
 | .For _ _ b _ _=>b
 |_=>[]
noncomputable abbrev Ag:List Stmt:=GE ((au aV).getD 8 (.Pass ⟨0,0,0,0⟩))
theorem GL{c0 c1:List Nat}{H:Hp}{Q:VK}{i:Int}(h0:0<=i)(h1:i<4)(q:∀cu,(cu=none\/cu=some c0\/cu=some c1)->Q (cuV cu) H):j2 [V.non,V.non,L2.T c0,L2.T c1] H H Q (.int i):=by
 obtain⟨j,rfl⟩:∃j:Nat,i=j:=⟨i.toNat,by lia⟩;unfold j2;rcases(by lia:j=0\/j=1\/j=2\/j=3) with rfl|rfl|rfl|rfl
 ·exact q none (.inl rfl)
 ·exact q none (.inl rfl)
 ·exact q (some c0) (.inr (.inl rfl))
 ·exact q (some c1) (.inr (.inr rfl))
theorem bA4(T:Txt K mg a){fA:Addr}{cdv:Value}{A:Around}{outer:List Env}{s:Shared}{H:Hp}{E:XK}(hr:Room 2 (A.deeper (ZO "_law_accounts" (ae aV) s.heap.objs.size fA cdv))):∃u,PSs (cL (XE P w) P w K mg base cw "_law_accounts" (ae aV) fA cdv A outer s H E) (Z1 4 Ag) u /\
 ∀(D:fF) sc pn pc c pk pt d (i:Int) p5 (mo:Int) uls (un:Option Int) x12 (cy:List (List Nat)) svs q up (x:Nat) (xs:List V) nx kvs ucu (ufi:Int) uun uki G,NoT G->G pc=some (.lst (cy.map L2.T))->cy.length=3->(∀l∈cy,cur l=true)->G uls=some (.lst [ucu,.int ufi,uun,L2.T uki])->G p5=some (.lst svs)->atI svs i=some (.ref q)->G q=some (.tup [L2.T up,.int (x:Int)])->G pn=some (.lst xs)->atI xs (x:Int)=some (L2.T nx)->up.length<=100->nx.length<=12->G d=some (.dK kvs)->kvs.length<=100 ->
  (∀x12 p cu,(∀l,cu=some l->cur l=true)->G p=none->D.nx (sgA sc pn pc c pk pt d (some (.int i)) (some (.ref p5)) (some (.int mo)) (some (.ref uls)) (some (cl un)) x12) (upd (upd G p (.lst [cuV cu,.int (ufi+mo / 28 % 2),cl un,L2.T uki])) d (.dK (e9 kvs (.inr ⟨⟨up++[58]++nx⟩⟩) (.ref p))))) ->
  u D (sgA sc pn pc c pk pt d (some (.int i)) (some (.ref p5)) (some (.int mo)) (some (.ref uls)) (some (cl un)) x12) G:=by
 have sz:=szl;have ND:=gJ.nd;have HU:=cv hr;refine⟨_,(af (aT 12 ND (km (fa4 da da (aA K (fv 2) aa) (aA K (fv 2) aa)) (av a9 (av aX (fv 9) aa) aa) (fun _ _=>rfl)))
  (ag (gj (Zp HU) (fv 6) (av aN (av aN (aA K (aA K (fv 8) (fv 7)) aa) (aQ [58])) (aA K (fv 1) (aA K (aA K (fv 8) (fv 7)) aa))) (bU (fa4 (fv 12) (av aN (aA K (fv 10) aa) (av a9 (av aX (fv 9) aa) aa)) (fv 11) (aA K (fv 10) aa))) rfl))),fun D sc pn pc c pk pt d i p5 mo uls un x12 cy svs q up x xs nx kvs ucu ufi uun uki G nG hpc lcy ccy hu h5 e5 hq hpn ex lup lnx hd lkv k=>?_⟩
 obtain⟨c0,c1,c2,rfl⟩:=ex3 lcy;walk_at "rd";refine⟨nG,_,_,.inl (SqL.of hpc),aq (j:=0) rfl,_,_,.inl (SqL.of hpc),aq (j:=1) rfl,by walk_at "om",fun p _=>GL (by lia) (by lia) fun cu hcu=>?_⟩;refine⟨_,_,.inl (SqL.of hu),aq (j:=1) rfl,?_⟩;walk_at "rd";refine⟨_,_,.inl (SqL.of hu),aq (j:=3) rfl,by walk_at "om",fun p1 hp1=>?_⟩;obtain⟨G1,e1,s1,g1,N1⟩:=alloc (HO.lst [cuV cu,V.int (ufi+mo / 28 % 2),cl un,L2.T uki]) hp1 nG rfl;have k1:=k;rw[e1];refine⟨_,_,.inl (SqL.of (s1 _ _ h5)),e5,?_⟩;walk_at "rd";refine⟨_,_,.inr (SqT.of (s1 _ _ hq)),aq (j:=0) rfl,?_⟩;walk_at "rd";refine⟨by lia,_,_,.inl (SqL.of (s1 _ _ h5)),e5,?_⟩;walk_at "rd";refine⟨_,_,.inr (SqT.of (s1 _ _ hq)),aq (j:=1) rfl,?_⟩;walk_at "rd";refine⟨_,_,.inl (SqL.of (s1 _ _ hpn)),ex,?_⟩;walk_at "rd";refine⟨by rw[yk];show up.length+1+_<=_;lia,d,_,rfl,DPut.k (k:=.inr ⟨⟨up++[58]++nx⟩⟩) (s1 _ _ hd) (by rw[xM];lia),?_⟩;rw[<- e1];refine k _ p1 cu (fun l e=>?_) hp1;rcases hcu with h|h|h
 ·rw[h]at e;cases e
 ·rw[h]at e;cases e;exact ccy _ (.head _)
 ·rw[h]at e;cases e;exact ccy _ (.tail _ (.head _))
theorem bA0(T:Txt K mg a){fA:Addr}{cdv:Value}{A:Around}{outer:List Env}{s:Shared}{H:Hp}{E:XK}(hr:Room 2 (A.deeper (ZO "_law_accounts" (ae aV) s.heap.objs.size fA cdv))){u4:TS}(hu4:PSs (cL (XE P w) P w K mg base cw "_law_accounts" (ae aV) fA cdv A outer s H E) (Z1 4 Ag) u4):∃ub:TS,PSs (cL (XE P w) P w K mg base cw "_law_accounts" (ae aV) fA cdv A outer s H E) Ag ub /\
 ∀(D:fF) sc pn pc c pk pt d (i:Int) p5 x9 x10 x11 x12 svs q up (x:Int) (ns:List Int) kvs uls ucu (ufi:Int) uun uki G,SqL K G sc (ns.map V.int)->0<=i->G p5=some (.lst svs)->atI svs i=some (.ref q)->G q=some (.tup [L2.T up,.int x])->G d=some (.dK kvs)->dR kvs (.inr ⟨⟨up⟩⟩)=some (.ref uls)->G uls=some (.lst [ucu,.int ufi,uun,L2.T uki])->0<=ufi->ufi<=10 ->
  (∀mo un,(∀t,un=some t->10<t/\t<=146096)->(i=0->un=none)->u4 D (sgA sc pn pc c pk pt d (some (.int i)) (some (.ref p5)) (some (.int mo)) (some (.ref uls)) (some (cl un)) x12) G) ->
  ub D (sgA sc pn pc c pk pt d (some (.int i)) (some (.ref p5)) x9 x10 x11 x12) G:=by
 have sz:=szl;have ND:=gJ.nd;have HU:=cv hr
 skip
 refine⟨_,(af (aT 9 ND (aI (a6 T) hr aD (fa2 (fv 0) (av aN aa (fv 7)))))
  (af (aT 10 ND (bL (Zp HU) (fv 6) (aA K (aA K (fv 8) (fv 7)) aa) (fun _ _=>rfl)))
  (af (aT 11 ND da)
  (af (aW (L2.PW.pt (fO (aS (cM K HU) (av a9 (fv 9) aa) aa) (d7 (aS (bV K HU) (fv 7) aa)))) (ag (aT 11 ND (av aN (av aN (av aN (aA K (fv 10) aa) aa) (aH (vS rfl) rfl T.Bg v3 (fa2 aa (av eC (aI (jS T) hr aD (fa1 (fv 0))) (aA K (fv 10) aa))))) (av a9 (av aX (fv 9) aa) aa)))) aL)
  hu4)))),fun D sc pn pc c pk pt d i p5 x9 x10 x11 x12 svs q up x ns kvs uls ucu ufi uun uki G hS i0 h5 e5 hq hd hv hu f0 f1 k=>?_⟩
 have dget:=DGet.k (k:=.inr ⟨⟨up⟩⟩) hd;rw[hv]at dget;walk_at "rd";refine⟨ns,hS,by lia,fun mo _=>⟨_,_,.inl (SqL.of h5),e5,?_⟩⟩;walk_at "rd";refine⟨_,_,.inr (SqT.of hq),aq (j:=0) rfl,?_⟩;walk_at "rd";refine⟨d,_,rfl,dget,?_⟩;by_cases m1:mo % 4=1
 ·refine itp m1 ?_
  by_cases i1:i=0
  ·exact itp i1 (k mo none (fun t e=>nomatch e) fun _=>rfl)
  ·refine itn i1 ?_
   walk_at "rd";refine⟨_,_,.inl (SqL.of hu),aq (j:=1) rfl,?_⟩;walk_at "rd";refine⟨ns,hS,fun bs b0 b1=>⟨_,_,.inl (SqL.of hu),aq (j:=1) rfl,?_⟩⟩;walk_at "rd";refine k mo (some _) (fun t e=>?_) fun z=>absurd z i1;cases e;split <;> lia
 ·exact itn m1 (k mo none (fun t e=>nomatch e) fun _=>rfl)
end
open PySem L2 K19 K22
section
variable{P:Program}{w:World}{K:W.Frag}{mg:Str->Option Value}{base:Heap}{a:Adr}
open K3
theorem zj{ls:List (List Nat)}(nok:NmOk ls)(i:Nat)(hi:i<5):atI (ls.map L2.T) (i:Int)=some (L2.T (ls.getD i [])):=aq (by
 have:i<ls.length:=by rw[nok.len];exact hi
 rw[List.getElem?_map,List.getElem?_eq_getElem this];simp[Y5,List.getElem?_eq_getElem this])
def NL(H:Hp)(as:List La):Prop:=(as.map (·.ls)).Nodup/\∀x∈as,H x.ls=none
theorem NL.snoc{H:Hp}{as:List La}{x:La}(h:NL H as)(n:∀y∈as,y.ls≠x.ls)(f:H x.ls=none):NL H (as++[x]):=by
 refine⟨by rw[vx];exact eB h.1 fun m=>by obtain⟨y,my,e⟩:=yb.mp m;exact n y my e,fun y m=>?_⟩;rcases yI.mp m with m|m
 ·exact h.2 y m
 ·rw[zv.mp m];exact f
def sp_Ba(K:W.Frag):Sp:=sp1 fun x H Q _=>NoT H/\asR x fun sc=>∃ns:List Int,SqL K H sc (ns.map V.int)/\∀d as H',Same H H'->NoT H'->H d=none->H' d=some (.dK (as.map kyL))->AcAt H' d as->As8 as->NL H as->Q (.ref d) H'
theorem lm(T:Txt K mg a):Fo P w K mg base "_law_accounts" 3 (sp_Ba K):=by
 refine T.mn.x1 cw fun x0 fA cdv A outer s H Q E ND HU hr h=>?_;obtain⟨hN,h1⟩:=h;obtain⟨sc,rfl,ns,hS,k⟩:=asR.inv h1;have sz:=szl
 skip
 obtain⟨u4,hu4,k4⟩:=@bA4 P w K mg base a T (fA:=fA) (cdv:=cdv) (A:=A) (outer:=outer) (s:=s) (H:=H) (E:=E) hr;obtain⟨ub,hub,kb⟩:=bA0 T hr hu4;have c7:∃u,PSs (cL (XE P w) P w K mg base cw "_law_accounts" (ae aV) fA cdv A outer s H E) (Z1 7 (au aV)) u/\∀pn pc c pk pt d x7 (ls cy:List (List Nat)) (as:List La) H1,H1 pn=some (.lst (ls.map L2.T))->NmOk ls->H1 pc=some (.lst (cy.map L2.T))->cy.length=3->(∀l∈cy,cur l=true)->H1 pt=some (.lst [L2.T (ls.getD 0 []),L2.T (ls.getD 1 []),L2.T (ls.getD 3 [])])->H1 d=some (.dK (as.map kyL))->(∀x∈as,H1 x.ls=some (laL x))->AF (fun i=>ls.getD i []) as 3->Same H H1->NoT H1->H d=none->NL H as ->
  u { nx:=fun _ H'=>Q .non H',rt:=Q } (sgA sc pn pc c pk pt d x7 none none none none none) H1:=by
  refine⟨_,(af (aT 8 ND (bU (fa5 (bG (fa2 (aA K (fv 5) aa) aa)) (bG (fa2 (aA K (fv 5) aa) aa)) (bG (fa2 (aA K (fv 5) aa) aa)) (bG (fa2 (aA K (fv 5) aa) aa)) (bG (fa2 (av aN (av aN (aA K (fv 5) aa) (aQ [58])) (aA K (fv 1) aa)) aa)))))
   (af (dS (by passes_own) rfl (iT rfl T.iQ (fa1 aa)) (aM (i:=7) ND rfl (Or.inl rfl)) hub)
   (ag (aJ (fv 6))))),fun pn pc c pk pt d x7 ls cy as H1 hpn nok hpc lcy ccy hpt hd hls F s1 N1 hd0 nlA=>?_⟩
  have NFn:=NF.of nok;have l5:=nok.len;have at5:∀i:Nat,i<5->atI (ls.map L2.T) (i:Int)=some (L2.T (ls.getD i [])):=fun i hi=>aq (by
   have:i<ls.length:=by lia
   rw[List.getElem?_map,List.getElem?_eq_getElem this];simp[Y5,List.getElem?_eq_getElem this])
  generalize hn:(fun i=>ls.getD i [])=n at F NFn;have en:∀i,ls.getD i []=n i:=fun i=>congrFun hn i;simp only[en]at hpt at5 |-
  have pl:∀l∈P8 n,l.length<=100:=fun l m=>(NFn.po l m).len;have nl:∀i:Nat,i<5->(n i).length<=12:=fun i hi=>(lD (NFn.n_ i hi)).2.1;walk_at "rd";refine⟨_,_,.inl (SqL.of hpt),aq (j:=0) rfl,by walk_at "om",fun p0 h0=>?_⟩;obtain⟨G0,e0,s0,g0,N0⟩:=alloc (HO.tup [L2.T (n 0),V.int 2]) h0 N1 rfl;rw[e0];refine⟨_,_,.inl (SqL.of (s0 _ _ hpt)),aq (j:=0) rfl,by walk_at "om",fun p1 h1=>?_⟩;obtain⟨G1,e1,s11,g1,N11⟩:=alloc (HO.tup [L2.T (n 0),V.int 3]) h1 N0 rfl;rw[e1];have s01:=s0.trans s11;refine⟨_,_,.inl (SqL.of (s01 _ _ hpt)),aq (j:=1) rfl,by walk_at "om",fun p2 h2=>?_⟩;obtain⟨G2,e2,s12,g2,N12⟩:=alloc (HO.tup [L2.T (n 1),V.int 2]) h2 N11 rfl;rw[e2];have s02:=s01.trans s12;refine⟨_,_,.inl (SqL.of (s02 _ _ hpt)),aq (j:=2) rfl,by walk_at "om",fun p3 h3=>?_⟩;obtain⟨G3,e3,s13,g3,N13⟩:=alloc (HO.tup [L2.T (n 3),V.int 4]) h3 N12 rfl;rw[e3];have s03:=s02.trans s13;refine⟨_,_,.inl (SqL.of (s03 _ _ hpt)),aq (j:=0) rfl,?_⟩;have n0:=nl 0 (by decide);have n2:=nl 2 (by decide);walk_at "rd";refine⟨by lia,_,_,.inl (SqL.of (s03 _ _ hpn)),at5 2 (by decide),?_⟩;walk_at "rd";refine⟨by rw[yk];show(n 0).length+1+_<=_;lia,by walk_at "om",fun p4 h4=>?_⟩;obtain⟨G4,e4,s14,g4,N14⟩:=alloc (HO.tup [L2.T (n 0++[58]++n 2),V.int 0]) h4 N13 rfl;rw[e4];refine⟨by walk_at "om",fun p5 h5=>?_⟩;obtain⟨G5,e5,s15,g5,N15⟩:=alloc (HO.lst [V.ref p0,V.ref p1,V.ref p2,V.ref p3,V.ref p4]) h5 N14 rfl;rw[e5];have s45:=s14.trans s15;have s05:=s03.trans s45;have tab:∀i:Nat,i<5->∃q up x j,atI [V.ref p0,V.ref p1,V.ref p2,V.ref p3,V.ref p4] (0+(i:Int))=some (.ref q)/\G5 q=some (.tup [L2.T up,.int ((x:Nat):Int)])/\x<5/\j<=3/\j<3+i/\(P8 n)[j]? = some up/\(P8 n)[3+i]? = some (up++58::n x):=fun i hi=>by
   rw[Int.zero_add];rcases(by lia:i=0\/i=1\/i=2\/i=3\/i=4) with rfl|rfl|rfl|rfl|rfl
   ·exact⟨p0,n 0,2,0,aq rfl,(s11.trans (s12.trans (s13.trans s45))) _ _ g0,by decide,by decide,by decide,rfl,rfl⟩
   ·exact⟨p1,n 0,3,0,aq rfl,(s12.trans (s13.trans s45)) _ _ g1,by decide,by decide,by decide,rfl,rfl⟩
   ·exact⟨p2,n 1,2,1,aq rfl,(s13.trans s45) _ _ g2,by decide,by decide,by decide,rfl,rfl⟩
   ·exact⟨p3,n 3,4,2,aq rfl,s45 _ _ g3,by decide,by decide,by decide,rfl,rfl⟩
   ·refine⟨p4,n 0++58::n 2,0,3,aq rfl,?_,by decide,by decide,by decide,rfl,rfl⟩
    have:=s15 _ _ g4;rw[YR]at this;exact this
  have od:∀ {p:Addr} {l:List V},G5 p=some (.lst l)->p∉[d]:=fun {p l} e m=>by
   rw[zv.mp m,s05 _ _ hd]at e;cases e
  have odt:∀ {p:Addr} {l:List V},G5 p=some (.tup l)->p∉[d]:=fun {p l} e m=>by
   rw[zv.mp m,s05 _ _ hd]at e;cases e
  have hpn5:=s05 _ _ hpn;have hpc5:=s05 _ _ hpc;refine jV ?_;walk_at "rd";refine iY (lo:=0) (n:=5) (fun i σ' G=>Keep [d] G5 G/\NoT G/\∃as x7 x9 x10 x11 x12,G d=some (.dK (as.map kyL))/\(∀x∈as,G x.ls=some (laL x))/\AF n as (3+i)/\NL H as/\σ'=sgA sc pn pc c pk pt d x7 (some (.ref p5)) x9 x10 x11 x12) ⟨Keep.refl,N15,as,_,_,_,_,_,s05 _ _ hd,fun x m=>s05 _ _ (hls x m),F,nlA,rfl⟩ ?_ ?_
  ·rintro i σ' G hi ⟨kp,nG,as,x7,x9,x10,x11,x12,hdG,hlG,FG,nlG,rfl⟩
   obtain⟨q,up,x,j,eq,hq,lx,j3,ji,ej,ex⟩:=tab i hi;obtain⟨u,hu,pu⟩:=FG.at_ ji ej;have mu:=yO hu;have hqG:=kp _ _ hq (odt hq);have g5G:=kp _ _ g5 (od g5);have hnG:=kp _ _ hpn5 (od hpn5);have hcG:=kp _ _ hpc5 (od hpc5);have sH:Same H G:=fun p o e=>kp _ _ (s05 _ _ (s1 _ _ e)) (by intro m;rw[zv.mp m,hd0]at e;cases e);have hSG:=hS.same sH;have nd:=FG.ok.nd;have dget:DGet G d (L2.T up) (some (.ref u.ls)):=by
    have:=DGet.k (k:=.inr ⟨⟨u.pa⟩⟩) hdG;rw[AcAt.val (H:=G) (d:=d) nd mu]at this;rw[<- pu];exact this
   have key:∀(D:fF) (mo:Int) un x12,(∀t,un=some t->10<t/\t<=146096)->(i=0->un=none)->(∀σ' G',(Keep [d] G5 G'/\NoT G'/\∃as x7 x9 x10 x11 x12,G' d=some (.dK (as.map kyL))/\(∀x∈as,G' x.ls=some (laL x))/\AF n as (3+(i+1))/\NL H as/\σ'=sgA sc pn pc c pk pt d x7 (some (.ref p5)) x9 x10 x11 x12)->D.nx σ' G')->u4 D (sgA sc pn pc c pk pt d (some (.int (0+(i:Int)))) (some (.ref p5)) (some (.int mo)) (some (.ref u.ls)) (some (cl un)) x12) G:=fun D mo un x12 hun hun0 kD=>by
    have e58:up++[58]++n x=up++58::n x:=by rw[YR];rfl
    refine k4 D sc pn pc c pk pt d _ p5 mo u.ls un x12 cy _ q up x _ (n x) _ _ u.fi _ u.ki G nG hcG lcy ccy (hlG u mu) g5G eq hqG hnG (at5 x lx) (by rw[<- pu];exact(NFn.po _ (pu ▸ yO ej)).len) (nl x lx) hdG (by rw[zB];have:=FG.len;lia) fun x12 p cu hcu hp=>kD _ _ ?_;rw[e58];have ou:=(FG.ok j u hu);have X:Ok1 as ⟨up++58::n x,cu,u.fi+mo / 28 % 2,un,u.ki,p⟩:=⟨FG.nw NFn (x:=⟨up++58::n x,cu,u.fi+mo / 28 % 2,un,u.ki,p⟩) ex,NFn.po _ (yO ex),ou.ki,⟨by have:=ou.fi;show 0<=u.fi+mo / 28 % 2;lia,by have:=FG.fi u mu;show u.fi+mo / 28 % 2<=10;lia⟩,hun,hcu,.inr ⟨u,n x,mu,by rw[pu],jN (NFn.n_ x lx),FG.un j u j3 hu,by show u.fi<=u.fi+mo / 28 % 2;lia,rfl⟩⟩;rw[wy (x:=⟨up++58::n x,cu,u.fi+mo / 28 % 2,un,u.ki,p⟩) X.nw];have pd:p≠d:=Ne.symm (aC hdG hp);refine⟨(kp.new hp).put (.head _),az (az nG rfl) rfl,_,_,_,_,_,_,ad,fun y my=>?_,FG.snoc ex X (by have:=FG.fi u mu;show u.fi+mo / 28 % 2<=_;lia) (fun h3=>hun0 (by lia)) (fun h1=>by lia),nlG.snoc (fun y my z=>aC (hlG y my) hp z) (sH.free hp),rfl⟩;rcases yI.mp my with my|my
    ·have e:=hlG y my
     rw[ah (aU e hdG),ah (aC e hp)];exact e
    ·rw[zv.mp my]
     exact(ah pd).trans ad
   have dget:=AcAt.val (H:=G) (d:=d) nd mu;rw[pu]at dget;have ou:=(FG.ok j u hu).fi;walk_at "rd";refine kb _ sc pn pc c pk pt d _ p5 _ _ _ _ _ q up x ns _ u.ls _ u.fi _ u.ki G hSG (by lia) g5G eq hqG hdG dget (hlG u mu) ou.1 ou.2 fun mo un h1 h2=>key _ mo un _ h1 (fun z=>h2 (by lia)) fun _ _ h=>h
  ·rintro σ' G ⟨kp,nG,as,x7,x9,x10,x11,x12,hdG,hlG,FG,nlG,rfl⟩
   walk_at "rd";have sH:Same H G:=fun p o e=>kp _ _ (s05 _ _ (s1 _ _ e)) (by intro m;rw[zv.mp m,hd0]at e;cases e);exact k d as G sH nG hd0 hdG ⟨.inl hdG,hlG⟩ ⟨FG.ok,by have:=FG.len;lia,FG.t3 (by decide)⟩ nlG
 obtain⟨u7,hu7,c7⟩:=c7;refine⟨_,(af (aT 1 ND (aI (oW T) hr aD (fa1 (aI (a6 T) hr aD (fa2 (fv 0) aa)))))
  (af (aT 2 ND (aI (fK T) hr aD (fa1 (aI (a6 T) hr aD (fa2 (fv 0) aa)))))
  (af (aT 3 ND (av aX (aI (a6 T) hr aD (fa2 (fv 0) aa)) aa))
  (af (aT 4 ND (bU (fa3 (km (fa4 (aQ [103,97,105,110]) (aQ [99,111,115,116]) (aQ [103,97,105,110]) (aQ [104,97,118,101])) (av a9 (fv 3) aa) (fun _ _=>rfl)) (aQ [111,119,110]) (km (fa3 (aQ [99,111,115,116]) (aQ [111,119,101]) (aQ [104,97,118,101])) (av a9 (av aX (fv 3) aa) aa) (fun _ _=>rfl)))))
  (af (aT 5 ND (bU (fa3 (aA K (fv 1) aa) (aA K (fv 1) aa) (aA K (fv 1) aa))))
  (af (aT 6 ND qP)
  (af (dS (by passes_own) rfl (iT rfl T.iQ (fa1 aa)) (aM (i:=7) ND rfl (Or.inl rfl)) (ag (gj (Zp HU) (fv 6) (aA K (fv 5) (fv 7)) (bU (fa4 da aa da (aA K (fv 4) (fv 7)))) rfl)))
  hu7))))))),?_⟩
 walk_at "rd";refine⟨ns,hS,fun _ _=>⟨hN,fun pn H1 ls s1 N1 hpn0 hpn nok=>⟨ns,hS.same s1,fun _ _=>⟨N1,fun pc H2 cy s2 N2 hpc0 hpc lcy ccy _=>⟨ns,(hS.same s1).same s2,fun c _=>⟨N2,by walk_at "om",fun _ _=>pz (ls:=[[103,97,105,110],[99,111,115,116],[103,97,105,110],[104,97,118,101]]) (by lia) (by show _<(4:Int);lia) fun k0 mk0=>?_⟩⟩⟩⟩⟩⟩;refine⟨N2,by walk_at "om",fun _ _=>pz (ls:=[[99,111,115,116],[111,119,101],[104,97,118,101]]) (by lia) (by show _<(3:Int);lia) fun k2 mk2=>?_⟩;walk_at "rd";refine⟨by walk_at "om",fun pk hpk=>?_⟩;obtain⟨G1,e1,s11,g1,N11⟩:=alloc (HO.lst [L2.T k0,L2.T [111,119,110],L2.T k2]) hpk N2 rfl;rw[e1];have hpn1:=s11 _ _ (s2 _ _ hpn);refine⟨_,_,.inl (SqL.of hpn1),zj nok 0 (by decide),_,_,.inl (SqL.of hpn1),zj nok 1 (by decide),_,_,.inl (SqL.of hpn1),zj nok 3 (by decide),by walk_at "om",fun pt hpt d hd=>?_⟩;obtain⟨G2,e2,s12,g2,N12⟩:=alloc (HO.lst [L2.T (ls.getD 0 []),L2.T (ls.getD 1 []),L2.T (ls.getD 3 [])]) hpt N11 rfl;rw[e2]at hd |-
 obtain⟨G3,e3,s13,g3,N13⟩:=alloc (HO.dK []) hd N12 rfl;rw[e3];have s23:=s11.trans (s12.trans s13);have s03:=s1.trans (s2.trans s23);have d0:H d=none:=(s1.trans (s2.trans (s11.trans s12))).free hd;have NFn:=NF.of nok;have KD:k0∈KDS/\k2∈KDS:=⟨(show ∀k∈([[103,97,105,110],[99,111,115,116],[103,97,105,110],[104,97,118,101]]:List (List Nat)),k∈KDS by decide) _ mk0,(show ∀k∈([[99,111,115,116],[111,119,101],[104,97,118,101]]:List (List Nat)),k∈KDS by decide) _ mk2⟩;have tab:∀i:Nat,i<3->∃pa kd,atI [L2.T (ls.getD 0 []),L2.T (ls.getD 1 []),L2.T (ls.getD 3 [])] (0+(i:Int))=some (L2.T pa)/\(P8 fun i=>ls.getD i [])[i]? = some pa/\nm pa=true/\atI [L2.T k0,L2.T [111,119,110],L2.T k2] (0+(i:Int))=some (L2.T kd)/\kd∈KDS/\(i=1->kd=[111,119,110]):=fun i hi=>by
  rw[Int.zero_add];rcases(by lia:i=0\/i=1\/i=2) with rfl|rfl|rfl
  ·exact⟨_,k0,aq rfl,rfl,NFn.n_ 0 (by decide),aq rfl,KD.1,fun z=>by cases z⟩
  ·exact⟨_,_,aq rfl,rfl,NFn.n_ 1 (by decide),aq rfl,(show([111,119,110]:List Nat)∈KDS by decide),fun _=>rfl⟩
  ·exact⟨_,k2,aq rfl,rfl,NFn.n_ 3 (by decide),aq rfl,KD.2,fun z=>by cases z⟩
 obtain⟨n,hn⟩:∃n:Nat->List Nat,n=fun i=>ls.getD i []:=⟨_,rfl⟩;rw[<- hn]at NFn tab;have od:∀ {p:Addr} {l:List V},G3 p=some (.lst l)->p∉[d]:=fun {p l} e m=>by
  rw[zv.mp m,g3]at e;cases e
 have g1':=(s12.trans s13) _ _ g1;have g2':=s13 _ _ g2;refine jV ?_;walk_at "rd";refine iY (lo:=0) (n:=3) (fun i σ' G=>Keep [d] G3 G/\NoT G/\∃as x7,G d=some (.dK (as.map kyL))/\(∀x∈as,G x.ls=some (laL x))/\AF n as i/\NL H as/\σ'=sgA sc pn pc (c / 200) pk pt d x7 none none none none none) ⟨Keep.refl,N13,[],_,g3,(fun _ m=>nomatch m),⟨rfl,(fun _ _ e=>nomatch e),(fun _ m=>nomatch m),(fun _ _ _ e=>nomatch e),(fun _ _ _ e=>nomatch e),by decide⟩,⟨.nil,(fun _ z=>nomatch z)⟩,rfl⟩ ?_ ?_
 ·rintro i σ' G hi ⟨kp,nG,as,x7,hdG,hlG,FG,nlG,rfl⟩
  obtain⟨pa,kd,t1,t2,t3,t4,t5,t6⟩:=tab i hi;have sK:Same H G:=fun p o e=>kp _ _ (s03 _ _ e) fun m=>by rw[zv.mp m,d0]at e;cases e
  walk_at "rd";refine⟨_,_,.inl (SqL.of (kp _ _ g1' (od g1'))),t4,by walk_at "om",fun p hp=>?_⟩;refine⟨_,_,.inl (SqL.of ((ah (aC (kp _ _ g2' (od g2')) hp)).trans (kp _ _ g2' (od g2')))),t1,?_⟩;have X:Ok1 as ⟨pa,none,0,none,kd,p⟩:=⟨FG.nw NFn (x:=⟨pa,none,0,none,kd,p⟩) t2,NFn.po _ (yO t2),t5,⟨Ye _,(by decide:(0:Int)<=10)⟩,(fun t e=>nomatch e),(fun t e=>nomatch e),.inl ⟨t3,rfl,rfl,rfl⟩⟩;have pd:p≠d:=Ne.symm (aC hdG hp);refine⟨d,_,rfl,DPut.k (k:=.inr ⟨⟨pa⟩⟩) ((ah (Ne.symm pd)).trans hdG) (by rw[zB,xM];have:=FG.len;lia),?_⟩;rw[wy (x:=⟨pa,none,0,none,kd,p⟩) X.nw];refine⟨(kp.new hp).put (.head _),az (az nG rfl) rfl,_,_,ad,fun y my=>?_,FG.snoc t2 X (by show(0:Int)<=_;lia) (fun _=>rfl) (fun h1=>⟨⟨t3,rfl,rfl,rfl⟩,t6⟩),nlG.snoc (fun y my z=>aC (hlG y my) hp z) (sK.free hp),rfl⟩;rcases yI.mp my with my|my
  ·have e:=hlG y my
   rw[ah (aU e hdG),ah (aC e hp)];exact e
  ·rw[zv.mp my]
   exact(ah pd).trans ad
 ·rintro σ' G ⟨kp,nG,as,x7,hdG,hlG,FG,nlG,rfl⟩
  have ol:∀ {p:Addr} {l:List V},G3 p=some (.lst l)->G p=some (.lst l):=fun e=>kp _ _ e (od e);rw[hn]at FG;exact c7 pn pc _ pk pt d x7 ls cy as G (ol (s23 _ _ (s2 _ _ hpn))) nok (ol (s23 _ _ hpc)) lcy ccy (ol g2') hdG hlG FG (fun p o e=>kp _ _ (s03 _ _ e) fun m=>by rw[zv.mp m,d0]at e;cases e) nG d0 nlG
end
open PySem L2 K19 K22
section
variable{P:Program}{w:World}{K:W.Frag}{mg:Str->Option Value}{base:Heap}{a:Adr}
open K3
structure CR(as:List La)(c:Acc)(x:La):Prop where
 pa:c.pa=x.pa
 cu:c.cu=cuV x.cu
 ki:c.ki=L2.T x.ki
 fi:c.fi=x.fi
 bu:c.be≠[]->x.un=none
 be:c.be≠[]->∃y∈as,∃n,y.pa=x.pa++58::n
structure CF(as:List La)(c:Acc)(x:La):Prop where
 pa:c.pa=x.pa
 cu:c.cu=cuV x.cu
 ki:c.ki=L2.T x.ki
 fi:c.fi=x.fi
 un:c.un=x.un
 be:c.be≠[]->∃y∈as,∃n,y.pa=x.pa++58::n
theorem yn{α β:Type}{R:α->β->Prop}{xs:List α}{ys:List β}(h:A2 R xs ys){x:α}(m:x∈xs):∃y∈ys,R x y:=by
 induction h with
 |nil=>cases m
 |cons r _ ih=>
  rcases z6.mp m with rfl|m
  ·exact⟨_,.head _,r⟩
  ·obtain⟨y,my,r⟩:=ih m;exact⟨y,.tail _ my,r⟩
theorem yZ{α β:Type}{R:α->β->Prop}{xs:List α}{ys:List β}(h:A2 R xs ys){y:β}(m:y∈ys):∃x∈xs,R x y:=by
 induction h with
 |nil=>cases m
 |cons r _ ih=>
  rcases z6.mp m with rfl|m
  ·exact⟨_,.head _,r⟩
  ·obtain⟨y,my,r⟩:=ih m;exact⟨y,.tail _ my,r⟩
theorem qr{α β:Type}{R:α->β->Prop}{f:α->α}:∀ {xs:List α} {ys:List β},(∀x y,y∈ys->R x y->R (f x) y)->A2 R xs ys->A2 R (xs.map f) ys
 |_,_,_,.nil=>.nil
 |_,_,k,.cons r h=>.cons (k _ _ (.head _) r) (qr (fun x y m=>k x y (.tail _ m)) h)
theorem Bi{al:List La}{cs:List Acc}{as:List La}{l:List Nat}{f:Acc->Acc}(hf:∀z,(f z).pa=z.pa/\(f z).cu=z.cu/\(f z).ki=z.ki/\(f z).fi=z.fi)(hb:∀x∈as,x.pa=l->∀z:Acc,(f z).be≠[]->z.be≠[]\/(x.un=none/\∃y∈al,∃n,y.pa=x.pa++58::n))(h:A2 (CR al) cs as):A2 (CR al) (fS cs l f) as:=by
 refine qr (fun c x mx r=>?_) h;by_cases e:c.pa=l
 ·rw[if_pos e]
  refine⟨(hf c).1.trans r.pa,(hf c).2.1.trans r.cu,(hf c).2.2.1.trans r.ki,(hf c).2.2.2.trans r.fi,fun z=>?_,fun z=>?_⟩
  ·rcases hb x mx (r.pa.symm.trans e) c z with z|z
   ·exact r.bu z
   ·exact z.1
  ·rcases hb x mx (r.pa.symm.trans e) c z with z|z
   ·exact r.be z
   ·exact z.2
 ·rw[if_neg e];exact r
theorem wO{cs:List Acc}:∀ {as:List La} {R S:Acc->La->Prop},A2 R cs as->(∀(j:Nat) c x,cs[j]? = some c->as[j]? = some x->R c x->S c x)->A2 S cs as
 |_,_,_,.nil,_=>.nil
 |_,_,_,.cons r h,k=>.cons (k 0 _ _ rfl rfl r) (wO h fun j c x e1 e2=>k (j+1) c x e1 e2)
def OldK(H G:Hp)(d:Addr):Prop:=∀p o,H p=some o->p≠d->G p=some o
theorem OldK.keep{H G G':Hp}{d:Addr}{S:List Addr}(h:OldK H G d)(k:Keep S G G')(n:∀p∈S,H p=none):OldK H G' d:=fun p o e np=>k _ _ (h p o e np) fun m=>by rw[n p m]at e;cases e
theorem zU{cs:List Acc}{l:List Nat}(h:∀c∈cs,c.pa≠l):fnd cs l=none:=List.find?_eq_none.mpr fun c m=>by simpa using h c m
theorem z4{as:List La}(nd:(as.map (·.pa)).Nodup){x y:La}(mx:x∈as)(my:y∈as)(e:x.pa=y.pa):x=y:=by
 induction as with
 |nil=>cases mx
 |cons z r ih=>
  rw[yF]at nd;obtain⟨n1,n2⟩:=qI.mp nd;rcases z6.mp mx with rfl|mx1
  ·rcases z6.mp my with rfl|my1
   ·rfl
   ·exact absurd (by rw[e];exact xp (f:=(·.pa)) my1) n1
  ·rcases z6.mp my with rfl|my1
   ·exact absurd (by rw[<- e];exact xp (f:=(·.pa)) mx1) n1
   ·exact ih n2 mx1 my1
structure CI(C A:Addr)(H G:Hp)(d ch cd:Addr)(al:List La)(cs:List Acc)(as:List La)(n:Nat):Prop where
 old:OldK H G d
 nT:NoT G
 at_:CAt C A G ch cd cs
 cr:A2 (CR al) cs as
 fr:∀c∈cs,H c.ob=none/\H c.bl=none
 lb:∀c∈cs,c.be.length<=n
theorem CI.dict{C A:Addr}{H G:Hp}{d ch cd:Addr}{al:List La}{cs:List Acc}{as:List La}{n:Nat}{u:HO}(h:CI C A H G d ch cd al cs as n)(hd:H d=some u)(h1:H ch=none)(h2:H cd=none){o:HO}(f:iI o=true):CI C A H (upd G d o) d ch cd al cs as n:=by
 have ne:∀ {p:Addr},H p=none->p∉[d]:=fun e m=>by rw[zv.mp m,hd]at e;cases e
 exact⟨fun p z e np=>(ah np).trans (h.old p z e np),az h.nT f,h.at_.keep (S:=[d]) (Keep.refl.put (.head _)) (ne h1) (ne h2) fun c m=>⟨ne (h.fr c m).1,ne (h.fr c m).2⟩,h.cr,h.fr,h.lb⟩
theorem BH{G:Hp}{as:List La}{i:Nat}{y v:V}(h:pe G (.dK (as.map kyL)) i y v):∃x,as[i]? = some x/\y=L2.T x.pa/\v = .ref x.ls:=by
 obtain⟨kk,e,rfl⟩:=h;rw[List.getElem?_map]at e;obtain⟨x,ex,e2⟩:=u8.mp e;cases e2;exact⟨x,ex,rfl,rfl⟩
theorem w4(x:V):xt (zI "shut") [(zI "by_path",x)]=none:=by rw[aR (by decide +kernel)];rfl
theorem y_(x:V):xt (zI "add") [(zI "by_path",x)]=none:=by rw[aR (by decide +kernel)];rfl
theorem FN(x:V):xt (zI "add_top") [(zI "by_path",x)]=none:=by rw[aR (by decide +kernel)];rfl
theorem qd{G:Hp}{d:Addr}{o:Obj}{as:List La}(nd:(as.map (·.pa)).Nodup){x:La}(m:x∈as)(h:G d=some (.frz o (.dK (as.map kyL)))):DGet G d (L2.T x.pa) (some (.ref x.ls)):=
 .inl ⟨_,.inr ⟨⟨x.pa⟩⟩,.inr ⟨o,h⟩,rfl,(AcAt.val (H:=G) (d:=d) nd m).symm⟩
def sp_zI(C A:Addr):Sp:=sp1 fun x H Q _=>NoT H/\asR x fun d=>∃as,H d=some (.dK (as.map kyL))/\AcAt H d as/\As8 as/\∀ch cd cs H',CAt C A H' ch cd cs->A2 (CF as) cs as->(∀c∈cs,H c.ob=none/\H c.bl=none/\c.be.length<=8)->H ch=none->H cd=none->Same H H'->NoT H'->Q (.ref ch) H'
theorem oS(T:Txt K mg a):Fo P w K mg base "_law_chart" 8 (sp_zI a.aO a.aE):=by
 refine T.rJ.x1 ["_law_accounts_here","_law_chart_here","_law_path","_law_currency","_law_first","_law_until","_law_kind"] fun x0 fA cdv A outer s H Q E ND HU hr h=>?_;obtain⟨hN,h1⟩:=h;obtain⟨d,rfl,as,hd,AC,A8,k⟩:=asR.inv h1;have sz:=szl;have nd:=A8.ok.nd;have l8:=A8.len
 skip
 have c2:∃u,PSs (cL (XE P w) P w K mg base ["_law_accounts_here","_law_chart_here","_law_path","_law_currency","_law_first","_law_until","_law_kind"] "_law_chart" (ae (top 87)) fA cdv A outer s H E) (Z1 2 (au (top 87))) u/\∀ch cd cs x2 x3 x4 x5 x6 G,CI a.aO a.aE H G d ch cd as cs as 8->(∀c∈cs,c.un=none)->G d=some (.dK (as.map kyL))->H ch=none->H cd=none ->
  u { nx:=fun _ H'=>Q .non H',rt:=Q } [some (.ref d),some (.ref ch),x2,x3,x4,x5,x6] G:=by
  refine⟨_,(af (jJ (dS (by passes_own) rfl (iV (fv 0)) (aM (i:=2) ND rfl (Or.inl rfl)) (ag (aW (dN (cJ (aA K (bL (Zp HU) (fv 0) (fv 2) (fun _ _=>rfl)) aa))) (ag (bd (bI (fv 1) T.a_ (jk T) (hr.mono (by decide)) aD (fa2 (fv 2) (aA K (bL (Zp HU) (fv 0) (fv 2) (fun _ _=>rfl)) aa))))) aL))))
   (ag (aJ (fv 1)))),fun ch cd cs x2 x3 x4 x5 x6 G I un0 hdG hch0 hcd0=>zd ?_⟩
  walk_at "rd";refine⟨d,.dK (as.map kyL),rfl,rfl,.inl hdG,fun o _=>Br (fun i σ' G'=>G' d=some (.frz o (.dK (as.map kyL)))/\∃cs x2,CI a.aO a.aE H G' d ch cd as cs as 8/\(∀j c,i<=j->cs[j]? = some c->c.un=none)/\(∀j c x,j<i->cs[j]? = some c->as[j]? = some x->c.un=x.un)/\σ'=[some (.ref d),some (.ref ch),x2,x3,x4,x5,x6]) ⟨ad,cs,_,?_,(fun j c _ e=>un0 c (yO e)),(fun _ _ _ h=>absurd h (Nat.not_lt_zero _)),rfl⟩ (fun i σ' G' h=>h.1) ?_ ?_⟩
  ·exact I.dict hd hch0 hcd0 rfl
  ·rintro i y v σ' G' hi en ⟨hf,cs,x2,I,un,u2,rfl⟩
   obtain⟨x,ex,rfl,rfl⟩:=BH en;have mx:=yO ex;have ok:=A8.ok i x ex;have dg:=qd nd mx hf;have hx:G' x.ls=some (.lst [cuV x.cu,.int x.fi,cl x.un,L2.T x.ki]):=I.old _ _ (AC.ls x mx) (aU (AC.ls x mx) hd);have lp:=ok.po.len;obtain⟨dx,hch⟩:=I.at_.ob;walk_at "rd";refine⟨d,.ref x.ls,rfl,dg,?_⟩;walk_at "rd";refine⟨_,_,.inl (SqL.of hx),aq (j:=2) rfl,?_⟩;cases eu:x.un with
   |none=>
    refine itp rfl ⟨hf,cs,_,I,(fun j c hj e=>un j c (by lia) e),(fun j c y hj e1 e2=>?_),rfl⟩;rcases Nat.lt_or_eq_of_le (Nat.le_of_lt_succ hj) with lt|rfl
    ·exact u2 j c y lt e1 e2
    ·rw[ex]at e2;cases e2
     rw[un j c (z5 _) e1,eu]
   |some t=>
    refine itn (by intro z;cases z) ?_;walk_at "rd";have ut:=ok.un t eu;obtain⟨c,hc,rc⟩:∃c,cs[i]? = some c/\CR as c x:=by
     have l1:=I.cr.len;have l2:=(List.getElem?_eq_some_iff.mp ex).1;have hi:i<cs.length:=by lia
     obtain⟨y,ey,r⟩:=I.cr.at_ (List.getElem?_eq_getElem hi);rw[ex]at ey;cases ey;exact⟨cs[i],List.getElem?_eq_getElem hi,r⟩
    have mc:=yO hc;have fx:=ok.fi;have be0:c.be=[]:=by
     cases eb:c.be with
     |nil=>rfl
     |cons _ _=>have:=rc.bu (by rw[eb];intro z;cases z);rw[eu]at this;cases this
    have eV:cl (some t)=V.int t:=rfl;rw[eu,eV]at hx;refine⟨dx,_,hch,w4 _,d,.ref x.ls,rfl,dg,?_⟩;walk_at "rd";refine⟨_,_,.inl (SqL.of hx),aq (j:=2) rfl,I.nT,⟨ok.po.lo,by lia⟩,?_⟩;walk_at "rd";refine⟨⟨by lia,ut.2⟩,cd,cs,c,I.at_,mc,rc.pa,ok.po.pn,un i c (z5 _) hc,by rw[rc.fi];lia,be0,fun H2 J2 K2 N2=>?_⟩;have nob:∀p∈cs.map (·.ob),H p=none:=fun p m=>by
     obtain⟨z,mz,rfl⟩:=yb.mp m;exact(I.fr z mz).1
    have fr2:∀z∈fS cs x.pa (shu t),∃y∈cs,z.ob=y.ob/\z.bl=y.bl/\z.be=y.be:=fun z mz=>by
     obtain⟨y,my,e⟩:=eR mz;refine⟨y,my,?_⟩;rw[e];split <;> exact⟨rfl,rfl,rfl⟩
    refine⟨K2 _ _ hf (fun m=>by rw[nob _ m]at hd;cases hd),_,_,⟨I.old.keep K2 nob,N2,J2,Bi (fun _=>⟨rfl,rfl,rfl,rfl⟩) (fun y my ey z hz=>.inl hz) I.cr,fun z mz=>?_,fun z mz=>?_⟩,(fun j z hj e=>?_),(fun j z y hj e e3=>?_),rfl⟩
    ·obtain⟨y,my,e1,e2,_⟩:=fr2 z mz
     rw[e1,e2];exact I.fr y my
    ·obtain⟨y,my,_,_,e3⟩:=fr2 z mz
     rw[e3];exact I.lb y my
    ·unfold fS at e
     rw[List.getElem?_map]at e;obtain⟨y,ey,rfl⟩:=u8.mp e;obtain⟨w1,ew,r1⟩:=I.cr.at_ ey;have ne:¬ y.pa=x.pa:=fun z=>by
      have:=(A8.ok j w1 ew).nw x (by
       rw[List.mem_iff_getElem?];exact⟨i,by rw[List.getElem?_take,if_pos (by lia)];exact ex⟩)
      exact this (z.symm.trans r1.pa)
     rw[if_neg ne];exact un j y (by lia) ey
    ·unfold fS at e
     rw[List.getElem?_map]at e;obtain⟨y',ey,rfl⟩:=u8.mp e;rcases Nat.lt_or_eq_of_le (Nat.le_of_lt_succ hj) with lt|rfl
     ·obtain⟨w1,ew,r1⟩:=I.cr.at_ ey
      have ne:¬ y'.pa=x.pa:=fun z=>by
       refine ok.nw w1 ?_ (r1.pa.symm.trans z);rw[List.mem_iff_getElem?];exact⟨j,by rw[List.getElem?_take,if_pos lt];exact ew⟩
      rw[if_neg ne];exact u2 j y' y lt ey e3
     ·rw[ex]at e3;cases e3
      rw[hc]at ey;cases ey;rw[if_pos rc.pa,eu];rfl
  ·rintro σ' G' ⟨hf,cs,x2,I,un,u2,rfl⟩
   walk_at "rd";refine⟨d,o,_,hf,.inl ⟨hdG,rfl,?_⟩⟩;have I2:=I.dict (o:=.dK (as.map kyL)) hd hch0 hcd0 rfl;refine k ch cd cs _ I2.at_ (wO I2.cr fun j c x e1 e2 r=>⟨r.pa,r.cu,r.ki,r.fi,u2 j c x ?_ e1 e2,r.be⟩) (fun c m=>⟨(I2.fr c m).1,(I2.fr c m).2,I2.lb c m⟩) hch0 hcd0 (fun p z e=>?_) I2.nT
   ·have:=(List.getElem?_eq_some_iff.mp e2).1
    show j<(as.map kyL).length;rw[zB];exact this
   ·by_cases hp:p=d
    ·rw[hp,ad];rw[hp,hd]at e;exact e
    ·exact I2.old p z e hp
 obtain⟨u2,hu2,c2⟩:=c2;refine⟨_,(af (aT 1 ND (qW T.zr (jQ T) (hr.mono (by decide)) rfl T.Dv aD))
  (af (jJ (dS (by passes_own) rfl (iV (fv 0)) (aM (i:=2) ND rfl (Or.inl rfl)) (af (vX (bL (Zp HU) (fv 0) (fv 2) (fun _ _=>rfl)) (wX K (n:=4) rfl (bp (aM (i:=3) ND rfl (Or.inl rfl)) (bp (aM (i:=4) ND rfl (Or.inl rfl)) (bp (aM (i:=5) ND rfl (Or.inl rfl)) (bp (aM (i:=6) ND rfl (Or.inl rfl)) g_))))))
  (ag (aW (jx D1 (aQ [58]) (fv 2) (by with_unfolding_all rfl)) (ag (bd (bI (fv 1) T.a_ (j6 T) (hr.mono (by decide)) aD (fa3 (fv 2) (fv 3) (fv 4))))) (ag (bd (bI (fv 1) T.a_ (lF T) (hr.mono (by decide)) aD (fa2 (fv 2) (fv 6))))))))))
  hu2)),?_⟩
 walk_at "rd";intro ch dx hch hdx ndx;refine⟨az (az hN rfl) rfl,dx,ad,fun cd H1 hcd J1 kp N1=>zd ?_⟩;have k0:=fE hch hdx kp;have hcd0:=dP hcd;walk_at "rd";have I0:CI a.aO a.aE H H1 d ch cd as [] (as.take 0) 0:=⟨fun p o e _=>k0 _ _ e yj,N1,J1,.nil,(fun _ m=>nomatch m),fun _ m=>nomatch m⟩;refine⟨d,.dK (as.map kyL),rfl,rfl,.inl (k0 _ _ hd yj),fun o _=>Br (fun i σ' G'=>G' d=some (.frz o (.dK (as.map kyL)))/\∃cs x2 x3 x4 x5 x6,CI a.aO a.aE H G' d ch cd as cs (as.take i) i/\(∀c∈cs,c.un=none)/\σ'=[some (.ref d),some (.ref ch),x2,x3,x4,x5,x6]) ⟨ad,[],_,_,_,_,_,I0.dict hd hch hcd0 rfl,(fun _ m=>nomatch m),rfl⟩ (fun i σ' G' h=>h.1) ?_ ?_⟩
 ·rintro i y v σ' G' hi en ⟨hf,cs,x2,x3,x4,x5,x6,I,un,rfl⟩
  obtain⟨x,ex,rfl,rfl⟩:=BH en;have mx:=yO ex;have ok:=A8.ok i x ex;have dg:=qd nd mx hf;have hx:G' x.ls=some (.lst [cuV x.cu,.int x.fi,cl x.un,L2.T x.ki]):=I.old _ _ (AC.ls x mx) (aU (AC.ls x mx) hd);have lp:=ok.po.len;obtain⟨dx,hch1⟩:=I.at_.ob;have i8:i<as.length:=(List.getElem?_eq_some_iff.mp ex).1;have lc:cs.length<=8:=by have:=I.cr.len;rw[vm]at this;lia
  have ef:fnd cs x.pa=none:=zU fun c mc e=>by
   obtain⟨z,mz,r⟩:=yn I.cr mc;exact ok.nw z mz (r.pa.symm.trans e)
  have et:as.take (i+1)=as.take i++[x]:=by rw[Z4,ex];rfl
  walk_at "rd";refine⟨d,.ref x.ls,rfl,dg,x.ls,_,rfl,SqL.of hx,rfl,?_⟩;walk_at "rd";refine⟨_,_,⟨rfl,rfl⟩,_,_,rfl,_,_,rfl,_,_,rfl,rfl,?_⟩;have fre:∀ {p:Addr},G' p=none->H p=none:=fun {p} e=>by
   cases e1:H p with
   |none=>rfl
   |some z=>
    by_cases hp:p=d
    ·rw[hp,hf]at e;cases e
    ·rw[I.old p z e1 hp]at e;cases e
  have sub:∀ {y:La},y∈as.take i->y∈as:=fun m=>Yr m;rcases ok.st with ⟨t1,t2,t3,t4⟩|⟨u,n,mu,ep,n58,uu,uf,uk⟩
  ·refine itn (fun z=>jN t1 (of_decide_eq_true z)) ?_
   walk_at "rd";refine⟨dx,_,hch1,FN _,I.nT,t1,ok.ki,cd,cs,I.at_,by lia,ef,fun c H2 p1 pk p2 p3 p4 p5 p6 p7 J2 K2 N2=>?_⟩;refine⟨K2 _ _ hf (fun m=>by rw[zv.mp m,hcd0]at hd;cases hd),_,_,_,_,_,_,⟨I.old.keep K2 (fun p m=>by rw[zv.mp m];exact hcd0),N2,J2,?_,fun z mz=>?_,fun z mz=>?_⟩,fun z mz=>?_,rfl,rfl,rfl,rfl,rfl⟩
   ·rw[et];exact I.cr.snoc ⟨p1,by rw[p2,t4];rfl,pk,p3.trans t2.symm,(fun z=>absurd p5 z),fun z=>absurd p5 z⟩
   ·rcases yI.mp mz with mz|mz
    ·exact I.fr z mz
    ·rw[zv.mp mz];exact⟨fre p6,fre p7⟩
   ·rcases yI.mp mz with mz|mz
    ·have:=I.lb z mz;lia
    ·rw[zv.mp mz,p5];exact xm _
   ·rcases yI.mp mz with mz|mz
    ·exact un z mz
    ·rw[zv.mp mz];exact p4
  ·obtain⟨cu',mcu,rcu⟩:=yZ I.cr mu
   refine itp (by rw[ep];simp) ?_;walk_at "rd";have hc:cuV x.cu=V.non\/∃cl,cuV x.cu=L2.T cl/\cur cl=true:=by
    cases ec:x.cu with
    |none=>exact .inl rfl
    |some l=>exact .inr ⟨l,rfl,ok.cu l ec⟩
   have fx:=ok.fi;have ncl:∀p∈cd::cs.map (·.bl),H p=none:=fun p m=>by
    rcases z6.mp m with rfl|m
    ·exact hcd0
    ·obtain⟨z,mz,rfl⟩:=yb.mp m
     exact(I.fr z mz).2
   refine⟨dx,_,hch1,y_ _,I.nT,⟨ok.po.lo,by lia⟩,hc,⟨fx.1,by lia⟩,u.pa,n,cd,cs,cu',ep,n58,ok.po.pn,I.at_,by lia,(fun c m=>by have:=I.lb c m;lia),ef,mcu,rcu.pa,un cu' mcu,by rw[rcu.fi];exact uf,fun c H2 p1 pk p2 p3 p4 p5 p6 p7 J2 K2 N2=>?_⟩;have fr2:∀z∈fS cs u.pa (grw x.pa),∃y∈cs,z.ob=y.ob/\z.bl=y.bl/\z.un=y.un/\z.be.length<=y.be.length+1:=fun z mz=>by
    obtain⟨y,my,e⟩:=eR mz;refine⟨y,my,?_⟩;rw[e];split
    ·exact⟨rfl,rfl,rfl,by show(y.be++[x.pa]).length<=_;rw[yk];exact z5 _⟩
    ·exact⟨rfl,rfl,rfl,ZV _⟩
   refine⟨K2 _ _ hf (fun m=>by rw[ncl _ m]at hd;cases hd),_,_,_,_,_,_,⟨I.old.keep K2 ncl,N2,J2,?_,fun z mz=>?_,fun z mz=>?_⟩,fun z mz=>?_,rfl,rfl,rfl,rfl,rfl⟩
   ·rw[et]
    refine(Bi (f:=grw x.pa) (fun _=>⟨rfl,rfl,rfl,rfl⟩) (fun y my ey z hz=>.inr ⟨?_,x,mx,n,?_⟩) I.cr).snoc ⟨p1,p2,by rw[pk,rcu.ki,uk],p3,(fun z=>absurd p5 z),fun z=>absurd p5 z⟩
    ·rw[z4 nd (sub my) (sub mu) ey];exact uu
    ·rw[ep,ey]
   ·rcases yI.mp mz with mz|mz
    ·obtain⟨y,my,e1,e2,_⟩:=fr2 z mz
     rw[e1,e2];exact I.fr y my
    ·rw[zv.mp mz];exact⟨fre p6,fre p7⟩
   ·rcases yI.mp mz with mz|mz
    ·obtain⟨y,my,_,_,_,e3⟩:=fr2 z mz
     have:=I.lb y my;lia
    ·rw[zv.mp mz,p5];exact xm _
   ·rcases yI.mp mz with mz|mz
    ·obtain⟨y,my,_,_,e3,_⟩:=fr2 z mz
     rw[e3];exact un y my
    ·rw[zv.mp mz];exact p4
 ·rintro σ' G' ⟨hf,cs,x2,x3,x4,x5,x6,I,un,rfl⟩
  walk_at "rd";refine⟨d,o,_,hf,.inl ⟨k0 _ _ hd yj,rfl,?_⟩⟩;have el:as.take (gG (.dK (as.map kyL)))=as:=Zk (by show _<=(as.map kyL).length;rw[zB];exact z5 _);rw[el]at I;have ln:gG (.dK (as.map kyL))=as.length:=zB ..;have I2:=I.dict (o:=.dK (as.map kyL)) hd hch hcd0 rfl;exact c2 ch cd cs _ _ _ _ _ _ ⟨I2.old,I2.nT,I2.at_,I2.cr,I2.fr,fun c m=>by have:=I2.lb c m;lia⟩ un ad hch hcd0
end
open PySem L2 K19 K22
section
variable{P:Program}{w:World}{K:W.Frag}{mg:Str->Option Value}{base:Heap}{a:Adr}
open K3
structure AsI(as:List La)(m:Nat):Prop where
 nd:(as.map (·.pa)).Nodup
 len:as.length<=m
 ok:∀x∈as,POk x.pa/\(0<=x.fi/\x.fi<=145816)/\∀l,x.cu=some l->cur l=true
 top:Tp3 as
theorem As8.I{as:List La}(h:As8 as):AsI as 8:=⟨h.ok.nd,h.len,fun x m=>by
 obtain⟨i,e⟩:=List.getElem?_of_mem m;have o:=h.ok i x e;exact⟨o.po,⟨o.fi.1,by have:=o.fi.2;lia⟩,o.cu⟩,h.top⟩
def sp_CQ:Sp:=sp3 fun x y z H Q _=>NoT H/\asR x fun d=>asT y fun l=>asI z fun day=>∃as x,AcAt H d as/\(as.map (·.pa)).Nodup/\x∈as/\x.pa=l/\Q (.bl (opn x.fi x.un day)) H
theorem lW(T:Txt K mg a):Fo P w K mg base "_law_is_open" 1 sp_CQ:=by
 refine T.nP.g3 ["_law_accounts_here","_law_path","_law_day_here","_law_first","_law_until"] fun x0 x1 x2 fA cdv A outer s H Q E ND HU hr h=>?_;obtain⟨hN,h1⟩:=h;obtain⟨d,rfl,h2⟩:=asR.inv h1;obtain⟨l,rfl,h3⟩:=asT.inv h2;obtain⟨day,rfl,as,x,AC,nd,mx,rfl,k⟩:=asI.inv h3;have sz:=szl;refine⟨hN,_,(af (vX (cO (iF K) (bL (Zp HU) (fv 0) (fv 1) (fun _ _=>rfl)) (cU aa) (cU aa)) (wX K (n:=2) rfl (bp (aM (i:=3) ND rfl (Or.inl rfl)) (bp (aM (i:=4) ND rfl (Or.inl rfl)) g_))))
  (ag (aJ (c_ (cY d_ (fv 3) (fv 2) (dY _)) (dH (Bj (qG (nW (fv 4))) (dH (cY n8 (fv 2) (fv 4) (dY _))))))))),?_⟩
 walk_at "rd";refine⟨d,.ref x.ls,rfl,AC.get nd mx,?_⟩;walk_at "rd";refine⟨x.ls,_,rfl,SqL.of (AC.ls x mx),fun p hp=>?_⟩;have s1:=aj (HO.lst (gW [cuV x.cu,V.int x.fi,cl x.un,L2.T x.ki] (some 1) (some 3))) hp;have g1:upd H p (HO.lst (gW [cuV x.cu,V.int x.fi,cl x.un,L2.T x.ki] (some 1) (some 3))) p=some (HO.lst [V.int x.fi,cl x.un]):=ad.trans rfl;generalize upd H p (HO.lst (gW [cuV x.cu,V.int x.fi,cl x.un,L2.T x.ki] (some 1) (some 3)))=G1 at s1 g1 |-
 refine⟨p,[V.int x.fi,cl x.un],rfl,SqL.of g1,rfl,_,_,rfl,_,_,rfl,rfl,?_⟩;walk_at "rd";have fin:∀b:Bool,opn x.fi x.un day=b->∃G,Gc H G G1/\Q (.bl b) G:=fun b e=>⟨H,Gc.none s1,by rw[<- e];exact k⟩;by_cases h1:x.fi<=day
 ·refine itp h1 ?_
  have e1:opn x.fi x.un day=lat x.un day:=by unfold opn;rw[decide_eq_true h1];rfl
  cases eu:x.un with
  |none=>exact itp rfl (fin _ (by rw[e1,eu];rfl))
  |some t=>exact itn (by intro z;cases z) (fin _ (by rw[e1,eu];rfl))
 ·refine itn h1 (fin _ ?_)
  unfold opn;rw[decide_eq_false h1];rfl
def kA(as:List La)(q:La->Bool)(v:V):Bool:=as.any fun x=>decide (v=L2.T x.pa)&&q x
theorem io{as:List La}{q:La->Bool}(nd:(as.map (·.pa)).Nodup){x:La}(m:x∈as):kA as q (L2.T x.pa)=q x:=by
 unfold kA;cases e:q x with
 |true=>exact List.any_eq_true.mpr ⟨x,m,by rw[e,decide_eq_true rfl];rfl⟩
 |false=>
  refine List.any_eq_false.mpr fun y my=>?_;by_cases h:L2.T x.pa=L2.T y.pa
  ·have hp:x.pa=y.pa:=by simpa using h
   rw[<- z4 nd m my hp,e,Bool.and_false];decide
  ·rw[decide_eq_false h,YK];decide
def tk(as:List La)(day:Int)(cy:List Nat)(v:V):Bool:=kA as (fun x=>opn x.fi x.un day&&inV (cuV x.cu) [.non,L2.T cy]) v
theorem DJ{as:List La}{day:Int}{cy:List Nat}(nd:(as.map (·.pa)).Nodup){x:La}(m:x∈as):tk as day cy (L2.T x.pa)=(opn x.fi x.un day&&inV (cuV x.cu) [.non,L2.T cy]):=io nd m
theorem wx{G:Hp}{p pr:Addr}{ys:List V}{rs:List Row}(r:Row)(hpr:G pr=some (.lst ys))(hp:G p=none)(ay:A2 (RwAt G) ys rs)(nG:NoT G) :
 Keep [pr] G (upd (upd G p (.tup [L2.T r.pa,L2.T r.cu,.int r.am])) pr (.lst (ys++[.ref p])))/\NoT (upd (upd G p (.tup [L2.T r.pa,L2.T r.cu,.int r.am])) pr (.lst (ys++[.ref p])))/\upd (upd G p (.tup [L2.T r.pa,L2.T r.cu,.int r.am])) pr (.lst (ys++[.ref p])) pr=some (.lst (ys++[.ref p]))/\A2 (RwAt (upd (upd G p (.tup [L2.T r.pa,L2.T r.cu,.int r.am])) pr (.lst (ys++[.ref p])))) (ys++[.ref p]) (rs++[r]):=by
 have kG:Keep [pr] G (upd (upd G p (.tup [L2.T r.pa,L2.T r.cu,.int r.am])) pr (.lst (ys++[.ref p]))):=(Keep.refl.new hp).put (.head _);exact⟨kG,az (az nG rfl) rfl,ad,(fz kG (LW.one hpr) ay).snoc ⟨p,rfl,(ah (Ne.symm (aC hpr hp))).trans ad⟩⟩
def sp_yp:Sp:=sp4 fun x y z t H Q _=>NoT H/\asI x fun c=>asR y fun d=>asI z fun day=>asR t fun pc=>0<=day/\∃(as:List La) (m:Nat) (cy:List (List Nat)),H d=some (.dK (as.map kyL))/\AcAt H d as/\AsI as m/\m<=50/\H pc=some (.lst (cy.map L2.T))/\cy.length=3/\∀q vs rs H',H q=none->H' q=some (.lst vs)->A2 (RwAt H') vs rs->2<=rs.length->rs.length<=4->(∀r∈rs,(∃z∈as,z.pa=r.pa)/\r.cu∈cy/\r.am≠0 /\ -1000000000000000<=r.am/\r.am<=1000000000000000)->Same H H'->NoT H'->Q (.ref q) H'
theorem l_(T:Txt K mg a):Fo P w K mg base "_law_rows_by" 2 sp_yp:=by
 refine T.n9.x4 ["_law_cell","_law_accounts_here","_law_day_here","_law_currencies_here","_law_currency","_law_paths","_law_rows","_law_total","_law_k","_law_amount"] fun x0 x1 x2 x3 fA cdv A outer s H Q E ND HU hr h=>?_;obtain⟨hN,h1⟩:=h;obtain⟨c,rfl,h2⟩:=asI.inv h1;obtain⟨d,rfl,h3⟩:=asR.inv h2;obtain⟨day,rfl,h4⟩:=asI.inv h3;obtain⟨pc,rfl,d0,as,m,cy,hd,AC,AI,m50,hpc,lcy,k⟩:=asR.inv h4;have sz:=szl;have nd:=AI.nd;have l8:=AI.len;obtain⟨c1,mc1,ec⟩:∃c1∈cy,atI (cy.map L2.T) (c % 3)=some (L2.T c1):=by
  obtain⟨j,e⟩:=Zn (Ze c (show(3:Int)≠0 by decide));have b:=Zl c (show(0:Int)<3 by decide);rw[e]at b |-
  have hj:j<cy.length:=by lia
  exact⟨cy[j],Yh hj,aq (by simp[hj])⟩
 refine⟨_,(af (aT 4 ND (aA K (fv 3) (av a9 (fv 0) aa)))
  (af (jJ (jL (i0:=5) ND rfl (Or.inl rfl) rfl (cl:=_) (x:="_law_path") (xs:=["_law_path"]) (fr:=["_law_accounts_here","_law_day_here","_law_currency"]) (ks:=[1,2,4]) (by walk_at "cq") rfl (iV (fv 1)) (fun _ _ _ _ _=>(aM (i:=0) (cc (l:=["_law_path","_law_accounts_here","_law_day_here","_law_currency"]) (by decide)) rfl (Or.inl rfl))) (fun _ _ _ _ _=>(dv (jq (L2.PW.pt (fO (bx (aI (lW T) hr pO (fa3 (fv 1) (fv 0) (fv 2)))) (d7 (jx (vN K) (aA K (bL (Zp HU) (fv 1) (fv 0) (fun _ _=>rfl)) aa) (bG (fa2 da (fv 3))) (by with_unfolding_all rfl)))))))) (fun _ _ _ _ _=>(fv 0))))
  (af (aT 6 ND (bU (FA.pa cn)))
  (af (aT 7 ND aa)
  (af (dS (by passes_own) rfl (iT rfl T.iQ (fa1 (av aN aa (av a9 (av aX (fv 0) aa) aa)))) (aM (i:=8) ND rfl (Or.inl rfl)) (af (aT 9 ND (av aN aa (av a9 (av aN (av aX (fv 0) (av aN aa (av eT aa (fv 8)))) (av eT aa (fv 8))) (km (fa3 aa aa (av v5 aa aa)) (av a9 (av aX (fv 0) aa) aa) (fun _ _=>rfl)))))
  (af (aT 7 ND (av aN (fv 7) (fv 9)))
  (ag (bd (eA K Zh ZX ZY eh (fv 6) (fa1 (bG (fa3 (aA K (fv 5) (av a9 (av aX (fv 0) (av aN aa (av eT aa (fv 8)))) (aH (bh K) rfl T.b6 bA (fa1 (fv 5))))) (fv 4) (fv 9))))))))))
  (af (bd (eA K Zh ZX ZY eh (fv 6) (fa1 (bG (fa3 (aA K (fv 5) (av a9 (av aX (fv 0) aa) (aH (bh K) rfl T.b6 bA (fa1 (fv 5))))) (fv 4) (av eC aa (fv 7)))))))
  (ag (aJ (fv 6))))))))),?_⟩
 walk_at "rd";refine⟨_,_,.inl (SqL.of hpc),ec,?_⟩;refine cmK d (as.map kyL) (tk as day c1) (fun v=>v) (fun R r=>r) (.inl hd) (by rw[zB,xM];lia) (fun v mv D ys o R hD nD r=>?_) (fun v mv _ D ys o R hD nD r=>r) fun D hD=>?_
 ·have eV:∃x∈as,v=L2.T x.pa:=by
   obtain⟨e,me,rfl⟩:=yb.mp mv;obtain⟨x,mx,rfl⟩:=yb.mp me;exact⟨x,mx,rfl⟩
  obtain⟨x,mx,rfl⟩:=eV;have et:tk as day c1 (L2.T x.pa)=(opn x.fi x.un day&&inV (cuV x.cu) [.non,L2.T c1]):=DJ nd mx;rw[et]at r;have nG:NoT (upd (upd H d (HO.frz o (HO.dK (as.map kyL)))) D (HO.lst ys)):=az (az hN rfl) rfl;have AG:AcAt (upd (upd H d (HO.frz o (HO.dK (as.map kyL)))) D (HO.lst ys)) d as:=⟨.inr ⟨o,(ah (Ne.symm nD)).trans ad⟩,fun y my=>by
   have e:=AC.ls y my;rw[ah (aC e hD),ah (aU e hd)];exact e⟩
  generalize upd (upd H d (HO.frz o (HO.dK (as.map kyL)))) D (HO.lst ys)=G at r nG AG |-
  walk_at "rd";refine⟨nG,nG,as,x,AG,nd,mx,rfl,?_⟩;cases eo:opn x.fi x.un day with
  |false=>
   rw[eo,YK]at r;exact itn (by decide) r
  |true=>
   rw[eo,Yn]at r;refine itp rfl ⟨d,.ref x.ls,rfl,AG.get nd mx,?_⟩;walk_at "rd";exact⟨_,_,.inl (SqL.of (AG.ls x mx)),aq (j:=0) rfl,by walk_at "om",fun p hp=>⟨_,.inr (SqT.of ad),by cases x.cu <;> rfl,rfl,G,Gc.none (aj _ hp),r⟩⟩
 ·have vin:∀v∈((as.map kyL).map fun e=>kV e.1).filter (tk as day c1),∃x∈as,v=L2.T x.pa:=fun v m=>by
   obtain⟨e,me,rfl⟩:=yb.mp (qh.mp m).1;obtain⟨x,mx,rfl⟩:=yb.mp me;exact⟨x,mx,rfl⟩
  have vne:0<(((as.map kyL).map fun e=>kV e.1).filter (tk as day c1)).length:=by
   obtain⟨x0,x,z,r,ea,_,⟨_,x1,x2,x3⟩,_,_⟩:=AI.top;have mx:x∈as:=by rw[ea];exact .tail _ (.head _)
   refine YZ (a:=L2.T x.pa) (qh.mpr ⟨yb.mpr ⟨kyL x,xp mx,rfl⟩,?_⟩);rw[DJ nd mx,x1,x2,x3];unfold opn;rw[decide_eq_true d0];rfl
  have vl:(((as.map kyL).map fun e=>kV e.1).filter (tk as day c1)).length<=50:=xx (qZ _ _) (by rw[zB,zB];lia);rw[show ∀l:List V,l.map (fun v=>v)=l from fun l=>Y7 l];generalize ((as.map kyL).map fun e=>kV e.1).filter (tk as day c1)=vs at vin vne vl |-
  have pick:∀x:Int,∃y∈as,atI vs (x % (vs.length:Int))=some (L2.T y.pa):=fun x=>by
   have p0:(0:Int)<vs.length:=by lia
   obtain⟨j,e⟩:=Zn (Ze x (Int.ne_of_gt p0));have b:=Zl x p0;rw[e]at b |-
   have hj:j<vs.length:=by lia
   obtain⟨y,my,ey⟩:=vin vs[j] (Yh hj);exact⟨y,my,by rw[<- ey];exact aq (List.getElem?_eq_getElem hj)⟩
  obtain⟨G1,e1,s1,g1,N1⟩:=alloc (HO.lst vs) hD hN rfl;rw[e1];walk_at "rd";refine⟨xm _,fun pr hpr=>?_⟩;obtain⟨G2,e2,s2,g2,N2⟩:=alloc (HO.lst []) hpr N1 rfl;rw[e2];have s12:=s1.trans s2;have pr0:H pr=none:=s1.free hpr;have npr:D≠pr:=aC g1 hpr;refine jV ?_;walk_at "rd";refine⟨by lia,by lia,iY (lo:=0) (n:=(1+c / 3 % 3).toNat) (fun i σ' G=>Keep [pr] G2 G/\NoT G/\∃ys rs tot x8 x9,G pr=some (.lst ys)/\A2 (RwAt G) ys rs/\rs.length=i/\((i:Int)<=tot/\tot<=100000000000000*i)/\(∀r∈rs,(∃z∈as,z.pa=r.pa)/\r.cu∈cy/\r.am≠0 /\ -1000000000000000<=r.am/\r.am<=1000000000000000)/\σ'=[some (.int c),some (.ref d),some (.int day),some (.ref pc),some (L2.T c1),some (.ref D),some (.ref pr),some (.int tot),x8,x9]) ⟨Keep.refl,N2,[],[],_,_,_,g2,.nil,rfl,⟨by lia,by lia⟩,(fun _ m=>nomatch m),rfl⟩ ?_ ?_⟩
  ·rintro i σ' G hi ⟨kp,nG,ys,rs,tot,x8,x9,hpr',ay,lrs,ht,hin,rfl⟩
   have gD:=kp _ _ (s2 _ _ g1) (by simpa using npr);have li:i<4:=by lia
   obtain⟨y,my,ey⟩:=pick (c / (11+5*(0+(i:Int))));have ly:=ay.len;have pos:0<([9,1000,10 ^ Int.toNat 14]:List Int).getD (c / 9 % 3).toNat 0/\([9,1000,10 ^ Int.toNat 14]:List Int).getD (c / 9 % 3).toNat 0<=100000000000000:=by
    rcases(by lia:c / 9 % 3=0\/c / 9 % 3=1\/c / 9 % 3=2) with e|e|e <;> rw[e] <;> decide
   walk_at "rd";refine⟨⟨by lia,by lia⟩,nG,by decide,by walk_at "om",fun _ _=>yE (ns:=[9,1000,10 ^ Int.toNat 14]) (by lia) (by show _<(3:Int);lia) ?_⟩;generalize ([9,1000,10 ^ Int.toNat 14]:List Int).getD (c / 9 % 3).toNat 0=md at pos;walk_at "rd";refine⟨pos.1,.inl ⟨_,SqL.of hpr'⟩,⟨by lia,by lia⟩,_,.inl (SqL.of gD),by lia,_,_,.inl (SqL.of gD),ey,by walk_at "om",fun p hp=>⟨pr,ys,_,rfl,rfl,(ah (aC hpr' hp)).trans hpr',by lia,?_⟩⟩;obtain⟨q1,q2,q3,q4⟩:=wx ⟨y.pa,c1,1+(c / (9+14*(0+(i:Int)))+7*(0+(i:Int))) % md⟩ hpr' hp ay nG;have a0:=Ze (c / (9+14*(0+(i:Int)))+7*(0+(i:Int))) (Int.ne_of_gt pos.1);have a1:=Zl (c / (9+14*(0+(i:Int)))+7*(0+(i:Int))) pos.1;generalize (c / (9+14*(0+(i:Int)))+7*(0+(i:Int))) % md=am at a0 a1 q1 q2 q3 q4 |-
   have pm:=pos.2;refine⟨kp.trans q1,q2,_,_,_,_,_,q3,q4,by rw[yk,lrs];rfl,⟨by lia,by lia⟩,fun r m=>?_,rfl,rfl,rfl⟩;rcases yI.mp m with m|m
   ·exact hin r m
   ·rw[zv.mp m];exact⟨⟨y,my,rfl⟩,mc1,by dsimp only;lia,by dsimp only;lia,by dsimp only;lia⟩
  ·rintro σ' G ⟨kp,nG,ys,rs,tot,x8,x9,hpr',ay,lrs,ht,hin,rfl⟩
   have gD:=kp _ _ (s2 _ _ g1) (by simpa using npr);obtain⟨y,my,ey⟩:=pick (c / 13);have ly:=ay.len;walk_at "rd";refine⟨.inl ⟨_,SqL.of hpr'⟩,_,.inl (SqL.of gD),by lia,_,_,.inl (SqL.of gD),ey,by walk_at "om",fun p hp=>⟨pr,ys,_,rfl,rfl,(ah (aC hpr' hp)).trans hpr',by lia,?_⟩⟩;obtain⟨q1,q2,q3,q4⟩:=wx ⟨y.pa,c1,0-tot⟩ hpr' hp ay nG;refine k pr _ _ _ pr0 q3 q4 (by rw[yk,si];lia) (by rw[yk,si];lia) (fun r m=>?_) (fun p o e=>(kp.trans q1) _ _ (s12 _ _ e) fun m=>by rw[zv.mp m,pr0]at e;cases e) q2;rcases yI.mp m with m|m
   ·exact hin r m
   ·rw[zv.mp m];exact⟨⟨y,my,rfl⟩,mc1,by dsimp only;lia,by dsimp only;lia,by dsimp only;lia⟩
end
open PySem L2 K19 K22
section
variable{P:Program}{w:World}{K:W.Frag}{mg:Str->Option Value}{base:Heap}{a:Adr}
open K3
def Fh(as:List La)(l:List Nat):List Nat:=((as.find? fun x=>decide (x.pa=l)).map (·.ki)).getD []
abbrev GC:List (List Nat):=[[103,97,105,110],[99,111,115,116]]
def gcB(as:List La)(l:List Nat):Bool:=decide (Fh as l∈GC)
theorem DF(l:List Nat):∀ls:List (List Nat),inV (L2.T l) (ls.map L2.T)=decide (l∈ls)
 | []=>rfl
 |x::r=>by
  have ih:=DF l r;unfold inV at ih |-
  rw[yF,YD,ih];by_cases c:x=l
  ·subst c;simp[eqV]
  ·have c2:¬ l=x:=fun z=>c z.symm
   simp[eqV,c,c2]
structure Hy(C A:Addr)(H:Hp)(p:Addr)(as:List La)(d:Addr)(cs:List Acc):Prop where
 at_:CAt C A H p d cs
 kd:∀x∈as,∃c∈cs,c.pa=x.pa/\c.ki=L2.T x.ki
def Due(H:Hp)(Q:VK)(g:List Nat->Bool)(p:List Nat)(rs:List Row):Prop:=∀out out2 r ws H',out.Perm ((dk rs).map (·.1))->mS out->out2.Perm ((dk (mvd p (ir g rs out))).map (·.1))->mS out2->H r=none->H' r=some (.lst ws)->A2 (RwAt H') ws (due g p rs out out2)->(due g p rs out out2).length<=60->(∀r∈due g p rs out out2,(r.pa=p\/∃r0∈rs,r.pa=r0.pa)/\∃r0∈rs,r.cu=r0.cu)->Same H H'->NoT H'->Q (.ref r) H'
structure BsOk(as:List La)(cy:List (List Nat))(bs:List Bk):Prop where
 l1:bs.length<=15
 l2:∀b∈bs,b.rs.length<=60
 mem:∀b∈bs,∀r∈b.rs,r.pa∈as.map (·.pa)/\r.cu∈cy
theorem BsOk.row{as:List La}{cy:List (List Nat)}{bs:List Bk}(h:BsOk as cy bs){t:Int}:∀r∈rsd t bs,r.pa∈as.map (·.pa)/\r.cu∈cy:=fun r m=>by
 obtain⟨b,mb,mr⟩:=Dg m;exact h.mem b mb r mr
theorem BsOk.few{as:List La}{cy:List (List Nat)}{bs:List Bk}(h:BsOk as cy bs)(la:as.length<=18)(lc:cy.length=3){t:Int}:(dk (rsd t bs)).length<=54:=by
 have:=zn (h.row (t:=t));rw[zB,lc]at this;lia
def sp_zv(J C A:Addr):Sp:=sp4 fun x y z t H Q _=>NoT H/\asR x fun ch=>asR y fun j=>asT z fun path=>asI t fun yr=>∃b u vs kvs bs as cy d cs,JAt J H j b u vs kvs/\A2 (BkAt H) vs bs/\BsOk as cy bs/\as.length<=18/\cy.length=3/\(as.map (·.pa)).Nodup/\Hy C A H ch as d cs /\
 Due H Q (gcB as) path (rsd (FD (12*(yr-2000)+11+1)-1) bs)
theorem Ef{as:List La}(nd:(as.map (·.pa)).Nodup){x:La}(m:x∈as):Fh as x.pa=x.ki:=by
 unfold Fh
 induction as with
 |nil=>cases m
 |cons y r ih=>
  rw[yF]at nd;obtain⟨n1,n2⟩:=qI.mp nd;by_cases c:y.pa=x.pa
  ·rw[List.find?_cons_of_pos (by exact decide_eq_true c)]
   rcases z6.mp m with rfl|m
   ·rfl
   ·exact absurd (c ▸ xp (f:=(·.pa)) m) n1
  ·rw[List.find?_cons_of_neg (by simpa using c)]
   rcases z6.mp m with rfl|m
   ·exact absurd rfl c
   ·exact ih n2 m
theorem DR{as:List La}(nd:(as.map (·.pa)).Nodup){x:La}(m:x∈as){l:List Nat}(e:x.pa=l):inV (L2.T x.ki) [L2.T [103,97,105,110],L2.T [99,111,115,116]]=gcB as l:=by
 unfold gcB;rw[<- e,Ef nd m];exact DF x.ki GC
theorem Dc(x:V):xt (zI "kind_of") [(zI "by_path",x)]=none:=by rw[aR (by decide +kernel)];rfl
theorem oZ(T:Txt K mg a):Fo P w K mg base "carry_rows" 4 (sp_zv a.aP a.aO a.aE):=by
 refine T.qT.x4 ["chart","journal","path","year","day","carried"] fun x0 x1 x2 x3 fA cdv A outer s H Q E ND HU hr h=>?_;obtain⟨hN,h1⟩:=h;obtain⟨ch,rfl,h2⟩:=asR.inv h1;obtain⟨j,rfl,h3⟩:=asR.inv h2;obtain⟨path,rfl,h4⟩:=asT.inv h3;obtain⟨yr,rfl,b,u,vs,kvs,bs,as,cy,d,cs,JJ,hv,ok,la,lc,nd,CH,k⟩:=asI.inv h4;have sz:=szl;have sz1:=HY;refine⟨_,(af (aT 4 ND (aI (gn T) hr aD (fa1 (av aN (av eT aa (av eC (fv 3) aa)) aa))))
  (af (jL (i0:=5) ND rfl (Or.inl rfl) rfl (cl:=_) (x:="row") (xs:=["row"]) (fr:=["chart"]) (ks:=[0]) (by walk_at "cq") rfl (bw K (aI (lK T) hr aD (fa3 (fv 0) (fv 1) (fv 4)))) (fun _ _ _ _ _=>(aM (i:=0) (cc (l:=["row","chart"]) (by decide)) rfl (Or.inl rfl))) (fun _ _ _ _ _=>(dv (jq (jx (vN K) (bI (fv 1) T.a_ (gR T) (hr.mono (by decide)) pO (fa1 (aA K (fv 0) aa))) (bG (fa2 (aQ [103,97,105,110]) (aQ [99,111,115,116]))) (by with_unfolding_all rfl))))) (fun _ _ _ _ _=>(fv 0)))
  (ag (aJ (av F4 (b5 (qi K) rfl T.jy hG (fa1 (aI (pN T) hr aD (fa1 (fv 5))))) (aI (jC T) hr aD (fa1 (bz rfl (cl:=_) (x:="row") (xs:=["row"]) (fr:=["path"]) (ks:=[2]) (by walk_at "cq") rfl (bw K (fv 5)) (fun _ _ _ _ _=>(aM (i:=0) (cc (l:=["row","path"]) (by decide)) rfl (Or.inl rfl))) (fun _ _ _ _ _=>dU) (fun _ _ _ _ _=>(bG (fa3 (fv 1) (aA K (fv 0) aa) (aA K (fv 0) aa)))))))))))),?_⟩
 walk_at "rd";refine⟨hN,?_⟩;refine jn ?_;walk_at "rd";have few:=ok.few la lc (t:=FD (12*(yr-2000)+11+1)-1);refine⟨hN,b,u,vs,kvs,bs,JJ,hv,ok.l1,ok.l2,by lia,?_⟩;intro out r ws H1 po oo hr hr1 a1 s1 N1;have row:=ok.row (t:=FD (12*(yr-2000)+11+1)-1);unfold Due at k;have lo:out.length<=54:=by rw[po.length_eq,zB];exact few
 generalize rsd (FD (12*(yr-2000)+11+1)-1) bs=rs at po a1 k row |-
 have inA:∀z∈res rs out,(∃x∈as,x.pa=z.pa)/\z.cu∈cy:=fun z m=>by
  obtain⟨r0,mr,e⟩:=(iG rs).2.1 _ (po.mem_iff.mp (hZ m).1);obtain⟨e1,e2⟩:=Prod.mk.inj e;obtain⟨x,mx,ex⟩:=yb.mp (row r0 mr).1;exact⟨⟨x,mx,ex.trans e1.symm⟩,e2 ▸ (row r0 mr).2⟩
 have lr:=kK rs out;have lw:=a1.len;have CH1:=CH.at_.same s1;refine⟨r,rfl,⟨_,SqL.of hr1⟩,ceA RwAt.mv r ws (res rs out) (RwAt H1) (fun z=>gcB as z.pa) id hr1 N1 a1 (by lia) (fun v z mz hz G zs M1 M0 sG nG hzs n1 n0=>?_) fun D ws2 G hD sG nG gD aG=>?_⟩
 ·obtain⟨q,rfl,hq⟩:=hz
  have hq:=sG _ _ hq;obtain⟨z1,rfl⟩:=ex1 hzs;obtain⟨⟨x,mx,ex⟩,_⟩:=inA z mz;obtain⟨c,mc,c1,c2⟩:=CH.kd x mx;have CG:=CH1.same sG;obtain⟨dx,hch⟩:=CG.ob;walk_at "rd";refine⟨⟨[_],rfl,rfl⟩,nG,dx,_,hch,Dc _,_,_,.inr (SqT.of hq),aq (j:=0) rfl,nG,?_⟩;walk_at "rd";refine⟨d,cs,c,CG,mc,c1.trans ex,by walk_at "om",fun p1 hp1=>⟨_,.inr (SqT.of ad),by rw[c2];rfl,rfl,G,Gc.none (aj _ hp1),?_⟩⟩;rw[c2,DR nd mx ex];cases e:gcB as z.pa with
  |true=>exact itp rfl (n1 e _ _ (Same.refl _) nG ⟨q,rfl,hq⟩)
  |false=>exact itn (by decide) (n0 e _ (Same.refl _) nG)
 ·walk_at "rd"
  have aG:A2 (RwAt G) ws2 (ir (gcB as) rs out):=by rw[Y7]at aG;exact aG
  have lc1:(ir (gcB as) rs out).length<=54:=xx (qZ _ _) (by lia);have cin:∀z∈ir (gcB as) rs out,z.cu∈cy:=fun z m=>(inA z (qh.mp m).1).2;refine⟨nG,ws2,_,.inl gD,aG,by lia,fun t ts H2 ht ht2 at2 s2 N2=>⟨ts,.inr (SqT.of ht2),fun l hl=>?_⟩⟩;have s3:=s2.trans (aj (HO.lst ts) hl);have N3:NoT (upd H2 l (HO.lst ts)):=az N2 rfl;have gl:upd H2 l (HO.lst ts) l=some (HO.lst ts):=ad;have at3:=bB (aj (HO.lst ts) hl) at2;have l0:G l=none:=s2.free hl;generalize upd H2 l (HO.lst ts)=G3 at s3 N3 gl at3 |-
  refine jn ?_;walk_at "rd";have lc2:=aG.len;refine⟨⟨_,SqL.of (s3 _ _ gD)⟩,ceA RwAt.mv D ws2 _ (RwAt G3) (fun _=>true) (fun z=>⟨path,z.cu,z.am⟩) (s3 _ _ gD) N3 (bB s3 aG) (by lia) (fun v z mz hz F zs M1 M0 sF nF hzs n1 n0=>?_) fun D2 ws3 F hD2 sF nF gF aF=>?_⟩
  ·obtain⟨q,rfl,hq⟩:=hz
   have hq:=sF _ _ hq;obtain⟨z1,rfl⟩:=ex1 hzs;walk_at "rd";exact⟨⟨[_],rfl,rfl⟩,_,_,.inr (SqT.of hq),aq (j:=1) rfl,_,_,.inr (SqT.of hq),aq (j:=2) rfl,by walk_at "om",fun p1 hp1=>n1 rfl _ _ (aj _ hp1) (az nF rfl) ⟨p1,rfl,ad⟩⟩
  ·rw[qU.mpr (fun _ _=>rfl)]at aF
   have aF:A2 (RwAt F) ws3 (mvd path (ir (gcB as) rs out)):=aF;walk_at "rd";have few2:(dk (mvd path (ir (gcB as) rs out))).length<=3:=by
    have:=zn (rs:=mvd path (ir (gcB as) rs out)) (ps:=[path]) (cu:=cy) fun r m=>by
     obtain⟨z,mz,rfl⟩:=yb.mp m;exact⟨zv.mpr rfl,cin z mz⟩
    rw[lc]at this;simpa using this
   refine⟨nF,ws3,_,gF,aF,by unfold mvd;rw[zB];lia,Y1 few2 (by decide),?_⟩;intro out2 r3 ws4 H4 po2 oo2 hr3 hr4 a4 s4 N4;walk_at "rd";have l4:=a4.len;have l5:=at3.len;have lo2:=po2.length_eq;rw[zB]at lo2;have l6:=kK (mvd path (ir (gcB as) rs out)) out2;have l7:(trn (ir (gcB as) rs out)).length=(ir (gcB as) rs out).length:=zB ..;have sl:=sF.trans s4;refine⟨ts,ws4,sl _ _ gl,hr4,by lia,fun p5 hp5=>?_⟩;have s5:=aj (HO.lst (ts++ws4)) hp5;have dl:(due (gcB as) path rs out out2).length<=60:=by unfold due;rw[yk];lia
   have cin2:∀z∈ir (gcB as) rs out,∃r0∈rs,z.pa=r0.pa/\z.cu=r0.cu:=fun z m=>by
    obtain⟨r0,mr,e⟩:=(iG rs).2.1 _ (po.mem_iff.mp (hZ (qh.mp m).1).1);obtain⟨e1,e2⟩:=Prod.mk.inj e;exact⟨r0,mr,e1,e2⟩
   have dm:∀z∈due (gcB as) path rs out out2,(z.pa=path\/∃r0∈rs,z.pa=r0.pa)/\∃r0∈rs,z.cu=r0.cu:=fun z m=>by
    rcases yI.mp m with m|m
    ·obtain⟨y,my,rfl⟩:=yb.mp m
     obtain⟨r0,mr,e1,e2⟩:=cin2 y my;exact⟨.inr ⟨r0,mr,e1⟩,r0,mr,e2⟩
    ·obtain⟨y,my,e⟩:=(iG _).2.1 _ (po2.mem_iff.mp (hZ m).1)
     obtain⟨e1,e2⟩:=Prod.mk.inj e;obtain⟨y0,m0,rfl⟩:=yb.mp my;obtain⟨r0,mr,e3,e4⟩:=cin2 y0 m0;exact⟨.inl e1,r0,mr,e2.trans e4⟩
   exact k out out2 p5 _ _ po oo po2 oo2 (((s1.trans sG).trans (s3.trans sl)).free hp5) ad ((bB s5 (bB sl at3)).app (bB s5 a4)) dl dm (((s1.trans sG).trans (s3.trans sl)).trans s5) (az N4 rfl)
end
open PySem L2 K19 K22
section
variable{P:Program}{w:World}{K:W.Frag}{mg:Str->Option Value}{base:Heap}{a:Adr}
open K3
structure Se where
 m:Int
 n:Int
 rs:List Row
def SeV(H:Hp)(v:V)(s:Se):Prop:=∃t,v = .ref t/\SeAt H t s.m s.n s.rs
structure SeOk(bk:List Bk)(s:Se):Prop where
 m0:0<=s.m/\s.m<=4799
 n:s.n=mny (FD (s.m+1)-1) bk
 rs:∃out,out.Perm ((dk (rsd (FD (s.m+1)-1) bk)).map (·.1))/\mS out/\s.rs=res (rsd (FD (s.m+1)-1) bk) out
theorem SeOk.grow{bk:List Bk}{s:Se}{x:Bk}(h:SeOk bk s)(d:FD (s.m+1)-1<x.d):SeOk (bk++[x]) s:=by
 have e:rsd (FD (s.m+1)-1) (bk++[x])=rsd (FD (s.m+1)-1) bk:=by rw[nX,if_neg (by lia),u6]
 refine⟨h.m0,?_,by rw[e];exact h.rs⟩;rw[h.n];unfold mny;rw[Zm,Zo (by simpa using d),Yz,u6]
structure Wd where
 ch:Addr
 cd:Addr
 g:Addr
 gx:Addr
 j:Addr
 b:Addr
 u:Addr
 d:Addr
 sl:Addr
 sb:Addr
 as:List La
 cs:List Acc
 o:Option Int
 bs:List V
 bk:List Bk
 kvs:List (Key × V)
 ss:List V
 se:List Se
structure LS(a:Adr)(cy:List (List Nat))(m n:Nat)(H:Hp)(W:Wd):Prop where
 ca:CAt a.aO a.aE H W.ch W.cd W.cs
 cf:A2 (CF W.as) W.cs W.as
 bl:∀c∈W.cs,c.be.length<=m
 dd:H W.d=some (.dK (W.as.map kyL))
 ls:∀x∈W.as,H x.ls=some (laL x)
 ai:AsI W.as m
 ga:H W.g=some (cZ a.a8 W.gx (cl W.o))
 oo:∀z,W.o=some z->0<=z/\z<=4789+(n:Int)
 ja:JAt a.aP H W.j W.b W.u W.bs W.kvs
 bk:A2 (BkAt H) W.bs W.bk
 bo:BsOk W.as cy W.bk
 nk:∀(i:Nat) x,W.bk[i]? = some x->x.k=i
 ll:W.bk.length<=n
 kl:W.kvs.length<=n
 sa:SlAt a.cg H W.sl W.sb W.ss
 sv:A2 (SeV H) W.ss W.se
 sk:∀s∈W.se,SeOk W.bk s/\∃z,W.o=some z/\s.m<=z
 sn:W.ss.length<=n
 nT:NoT H
 a1:∀c∈W.cs,(c.bl≠W.b/\c.bl≠W.sb)/\∀x∈W.as,c.bl≠x.ls
 a2:∀x∈W.as,x.ls≠W.b/\x.ls≠W.sb
 a3:W.cd≠W.u/\W.cd≠W.d/\W.d≠W.u
 a4:W.sb≠W.b
 nl:(W.as.map (·.ls)).Nodup
def own(W:Wd):List Addr:=W.cd::W.d::W.b::W.u::W.g::W.sb::(W.cs.map (·.bl)++W.cs.map (·.ob)++W.as.map (·.ls))
theorem SeV.mv{H H':Hp}(k:∀t l,H t=some (.tup l)->H' t=some (.tup l)){v:V}{s:Se}(h:SeV H v s):SeV H' v s:=by
 obtain⟨t,e,tr,ws,h1,h2,h3⟩:=h;exact⟨t,e,tr,ws,k _ _ h1,k _ _ h2,h3.imp fun v r _ _ z=>RwAt.mv _ _ v r k z⟩
theorem BkAt.mv{H H':Hp}(k:∀t l,H t=some (.tup l)->H' t=some (.tup l)){v:V}{b:Bk}(h:BkAt H v b):BkAt H' v b:=by
 obtain⟨q,t,vs,nt,un,e,h1,h2,h3⟩:=h;exact⟨q,t,vs,nt,un,e,k _ _ h1,k _ _ h2,h3.imp fun v r _ _ z=>RwAt.mv _ _ v r k z⟩
theorem SlAt.keep{C:Addr}{S:List Addr}{H H':Hp}{p b:Addr}{bs:List V}(h:SlAt C H p b bs)(x:Keep S H H')(hp:p∉S)(hb:b∉S):SlAt C H' p b bs:=
 ⟨by obtain⟨dx,e⟩:=h.ob;exact⟨dx,x _ _ e hp⟩,x _ _ h.ls hb⟩
section
variable{cy:List (List Nat)}{m n:Nat}{H H':Hp}{W:Wd}
theorem LS.keep(h:LS a cy m n H W){S:List Addr}(k:Keep S H H')(nT:NoT H')(ni:∀ {p C dx:Addr} {fs:List (Str × V)},H p=some (.ins C dx fs)->p∉S)(nt:∀ {p:Addr} {l:List V},H p=some (.tup l)->p∉S)(no:∀p∈own W,p∉S):LS a cy m n H' W:=by
 obtain⟨dc,hc⟩:=h.ca.ob;obtain⟨dj,hj⟩:=h.ja.ob;obtain⟨ds,hs⟩:=h.sa.ob;have kt:∀t l,H t=some (.tup l)->H' t=some (.tup l):=fun t l e=>k _ _ e (nt e);have o6:∀p∈W.cs.map (·.bl)++W.cs.map (·.ob)++W.as.map (·.ls),p∉S:=fun p q=>no p (.tail _ (.tail _ (.tail _ (.tail _ (.tail _ (.tail _ q))))));have ob:W.b∉S:=no _ (.tail _ (.tail _ (.head _)));have ou:W.u∉S:=no _ (.tail _ (.tail _ (.tail _ (.head _))));exact { h with
  ca:=h.ca.keep k (ni hc) (no _ (.head _)) fun c mc=>⟨o6 _ (vJ _ (xU _ (xp mc))),o6 _ (vJ _ (vJ _ (xp mc)))⟩
  dd:=k _ _ h.dd (no _ (.tail _ (.head _)))
  ls:=fun x mx=>k _ _ (h.ls x mx) (o6 _ (xU _ (xp mx)))
  ga:=k _ _ h.ga (ni h.ga)
  ja:=h.ja.keep k (ni hj) ob ou
  bk:=h.bk.imp fun _ _ _ _ z=>z.mv kt
  sa:=h.sa.keep k (ni hs) (no _ (.tail _ (.tail _ (.tail _ (.tail _ (.tail _ (.head _)))))))
  sv:=h.sv.imp fun _ _ _ _ z=>z.mv kt
  nT:=nT }
theorem LS.same(h:LS a cy m n H W)(s:Same H H')(n':NoT H'):LS a cy m n H' W:=h.keep (S:=[]) (Keep.same s) n' (fun _=>yj) (fun _=>yj) fun _ _=>yj
theorem LS.le(h:LS a cy m n H W){m' n':Nat}(hm:m<=m')(hn:n<=n'):LS a cy m' n' H W:=
 { h with bl:=fun c mc=>xx (h.bl c mc) hm,ai:=⟨h.ai.nd,xx h.ai.len hm,h.ai.ok,h.ai.top⟩,oo:=fun z e=>⟨(h.oo z e).1,by have:=(h.oo z e).2;lia⟩,ll:=xx h.ll hn,kl:=xx h.kl hn,sn:=xx h.sn hn }
theorem LS.jb(h:LS a cy m n H W)(m18:m<=18)(lc:cy.length=3):JB a.aP H W.j W.b W.u W.bs W.kvs W.bk:=
 ⟨h.ja,h.bk,h.bo.l1,h.bo.l2,fun t=>Y1 (h.bo.few (xx h.ai.len m18) lc (t:=t)) (by decide)⟩
theorem LS.put(h:LS a cy m n H W){x:Bk}{nt:List Nat}{un:Option Int}{vs:List V}{kvs:List (Key × V)}(L:F3 a H H' W.j W.b W.u W.bs kvs (.int x.d) (L2.T nt) vs (cl un))(hv:A2 (RwAt H') vs x.rs)(xk:x.k=W.bk.length)(n15:n<15)(lk:kvs.length<=n+1)(lx:x.rs.length<=60)(mx:∀r∈x.rs,r.pa∈W.as.map (·.pa)/\r.cu∈cy)(dx:∀s∈W.se,FD (s.m+1)-1<x.d) :
 ∃q t,H' q=some (.tup [.int x.k,.int x.d,L2.T nt,.ref t,cl un])/\Keep [W.b,W.u] H H'/\LS a cy m (n+1) H' { W with bs:=W.bs++[.ref q],bk:=W.bk++[x],kvs:=kvs }:=by
 obtain⟨q,t,fq,hq,ht,J,kp,n'⟩:=L;have l1:=h.bk.len;rw[l1,<- xk]at hq;have ll:=h.ll;have no:∀ {p:Addr} {o:HO},H p=some o->p≠W.b->(∀kv,o ≠ .dK kv)->p∉[W.b,W.u]:=fun {p o} e nb nd mm=>by
  rcases z6.mp mm with z|z
  ·exact nb z
  ·rw[zv.mp z,h.ja.dc]at e;cases e;exact nd _ rfl
 have nu:∀ {p:Addr} {kv:List (Key × V)},H p=some (.dK kv)->p≠W.u->p∉[W.b,W.u]:=fun {p kv} e nu mm=>by
  rcases z6.mp mm with z|z
  ·rw[z,h.ja.ls]at e;cases e
  ·exact nu (zv.mp z)
 have ni:∀ {p:Addr} {C dx:Addr} {fs:List (Str × V)},H p=some (.ins C dx fs)->p∉[W.b,W.u]:=fun {p C dx fs} e=>no e (aU e h.ja.ls) fun _ z=>nomatch z;obtain⟨dc,hc⟩:=h.ca.ob;obtain⟨ds,hs⟩:=h.sa.ob;have kt:∀t l,H t=some (.tup l)->H' t=some (.tup l):=fun t l e=>kp _ _ e (h.ja.tup e);refine⟨q,t,hq,kp,{ h.le (z5 _) (ZV n) with ca:=h.ca.keep kp (ni hc) (nu h.ca.dc h.a3.1) fun c mc=>?_,dd:=kp _ _ h.dd (nu h.dd h.a3.2.2),ls:=fun x mx=>kp _ _ (h.ls x mx) (no (h.ls x mx) (h.a2 x mx).1 fun _ z=>nomatch z),ga:=kp _ _ h.ga (ni h.ga),ja:=J,bk:=?_,bo:=⟨?_,fun b mb=>?_,fun b mb=>?_⟩,nk:=fun i y e=>?_,ll:=?_,kl:=lk,sa:=h.sa.keep kp (ni hs) (no h.sa.ls h.a4 fun _ z=>nomatch z),sv:=h.sv.imp fun _ _ _ _ z=>z.mv kt,sk:=fun s ms=>⟨(h.sk s ms).1.grow (dx s ms),(h.sk s ms).2⟩,nT:=n' }⟩
 ·obtain⟨dx,ho⟩:=(h.ca.ac c mc).ob
  exact⟨ni ho,no (h.ca.ac c mc).ls (h.a1 c mc).1.1 fun _ z=>nomatch z⟩
 ·exact(h.bk.imp fun _ _ _ _ z=>z.mv kt).snoc ⟨q,t,vs,nt,un,rfl,hq,ht,hv⟩
 ·show(W.bk++[x]).length<=15
  rw[yk,si];lia
 ·rcases yI.mp mb with mb|mb
  ·exact h.bo.l2 b mb
  ·rw[zv.mp mb];exact lx
 ·rcases yI.mp mb with mb|mb
  ·exact h.bo.mem b mb
  ·rw[zv.mp mb];exact mx
 ·have e:(W.bk++[x])[i]? = some y:=e
  rcases Nat.lt_trichotomy i W.bk.length with l|l|l
  ·rw[List.getElem?_append_left l]at e;exact h.nk i y e
  ·subst l
   rw[List.getElem?_append_right (z5 _),Nat.sub_self]at e;cases e;exact xk
  ·rw[List.getElem?_append_right (by lia),show i-W.bk.length=(i-W.bk.length-1)+1 by lia]at e
   cases e
 ·show(W.bk++[x]).length<=n+1
  rw[yk];exact YH ll
def AD:HO->Nat
 | .ins _ _ l=>l.length
 |_=>0
theorem Bz{H:Hp}{p q:Addr}{x y:HO}(h:H p=some x)(g:H q=some y)(n:AD x≠AD y):p≠q:=aU h g fun z=>n (congrArg AD z)
theorem LS.shut(h:LS a cy m n H W){n':Nat}(hn:n<=n')(hs':W.ss.length+1<=n'){M:Int}{s:Se}{t:Addr}(m0:0<=M)(m1:M<=4789+(n':Int))(mo:∀z,W.o=some z->z<=M)(sM:s.m=M)(ok:SeOk W.bk s)(hs:SeAt H t s.m s.n s.rs)
 {H1:Hp} (J:SlAt a.cg H1 W.sl W.sb (W.ss++[.ref t])) (kp:Keep [W.sb] H H1) (n1:NoT H1) :
 LS a cy m n' (upd H1 W.g (cZ a.a8 W.gx (.int M))) { W with o:=some M,ss:=W.ss++[.ref t],se:=W.se++[s] }/\Keep (own W) H (upd H1 W.g (cZ a.a8 W.gx (.int M)))/\SeAt (upd H1 W.g (cZ a.a8 W.gx (.int M))) t s.m s.n s.rs/\∀t l,H t=some (.tup l)->upd H1 W.g (cZ a.a8 W.gx (.int M)) t=some (.tup l):=by
 obtain⟨dc,hc⟩:=h.ca.ob;obtain⟨dj,hj⟩:=h.ja.ob;obtain⟨ds,hl⟩:=h.sa.ob;have k2:Keep [W.sb,W.g] H (upd H1 W.g (cZ a.a8 W.gx (.int M))):=(kp.mono fun c q=>by rw[zv.mp q];exact .head _).put (.tail _ (.head _));have no:∀ {q:Addr} {o:HO},H q=some o->q≠W.sb->q≠W.g->q∉[W.sb,W.g]:=fun e n1 n2 z=>by
  rcases z6.mp z with z|z
  ·exact n1 z
  ·exact n2 (zv.mp z)
 have sbl:=h.sa.ls;have gl:=h.ga;have n5:∀ {q:Addr} {o:HO},H q=some o->(∀l,o ≠ .lst l)->AD o≠1->q∉[W.sb,W.g]:=fun e n1 n2=>no e (aU e sbl (n1 _)) (Bz e gl n2);have nl:∀ {q:Addr} {l:List V},H q=some (.lst l)->q≠W.sb->q∉[W.sb,W.g]:=fun e n1=>no e n1 (aU e gl);have nm1:∀ {q C dx:Addr} {f:String} {v:V},H q=some (.ins C dx [(f,v)])->zI f≠zI "last_closed" -> q∉[W.sb,W.g]:=fun {q C dx f v} e nf=>no e (aU e sbl) (aU e gl fun z=>by
  injection z with _ _ z;injection z with z;injection z with z
  exact nf z)
 have kt:∀t l,H t=some (.tup l)->upd H1 W.g (cZ a.a8 W.gx (.int M)) t=some (.tup l):=fun t l e=>k2 _ _ e (n5 e (fun _ z=>nomatch z) (show 0≠1 by decide));obtain⟨dJ,hJ⟩:=J.ob;have hs2:SeAt (upd H1 W.g (cZ a.a8 W.gx (.int M))) t s.m s.n s.rs:=by
  obtain⟨tr,ws,h1,h2,h3⟩:=hs;exact⟨tr,ws,kt _ _ h1,kt _ _ h2,h3.imp fun v r _ _ z=>RwAt.mv _ _ v r kt z⟩
 refine⟨{ h.le (z5 _) hn with ca:=h.ca.keep k2 (nm1 hc (by decide +kernel)) (n5 h.ca.dc (fun _ z=>nomatch z) (show 0≠1 by decide)) fun c mc=>⟨?_,nl (h.ca.ac c mc).ls (h.a1 c mc).1.2⟩,dd:=k2 _ _ h.dd (n5 h.dd (fun _ z=>nomatch z) (show 0≠1 by decide)),ls:=fun x mx=>k2 _ _ (h.ls x mx) (nl (h.ls x mx) (h.a2 x mx).2),ga:=ad,oo:=fun z e=>by cases e;exact⟨m0,by lia⟩,ja:=h.ja.keep k2 (n5 hj (fun _ z=>nomatch z) (show 2≠1 by decide)) (nl h.ja.ls (Ne.symm h.a4)) (n5 h.ja.dc (fun _ z=>nomatch z) (show 0≠1 by decide)),bk:=h.bk.imp fun _ _ _ _ z=>z.mv kt,sa:=?_,sv:=(h.sv.imp fun _ _ _ _ z=>z.mv kt).snoc ⟨t,rfl,hs2⟩,sk:=fun z mz=>?_,sn:=?_,nT:=az n1 rfl },k2.mono fun p q=>?_,hs2,kt⟩
 ·obtain⟨dx,ho⟩:=(h.ca.ac c mc).ob
  exact n5 ho (fun _ z=>nomatch z) (show 5≠1 by decide)
 ·have e1:W.sl≠W.g:=fun z=>nm1 hl (by decide +kernel) (by rw[z];exact .tail _ (.head _))
  have e2:W.sb≠W.g:=aU sbl gl;exact⟨⟨dJ,(ah e1).trans hJ⟩,(ah e2).trans J.ls⟩
 ·rcases yI.mp mz with mz|mz
  ·obtain⟨q1,z',q2,q3⟩:=h.sk z mz
   exact⟨q1,M,rfl,Int.le_trans q3 (mo z' q2)⟩
  ·rw[zv.mp mz];exact⟨ok,M,rfl,by rw[sM];exact Ye _⟩
 ·show(W.ss++[V.ref t]).length<=n'
  rw[yk];exact hs'
 ·rcases z6.mp q with q|q
  ·rw[q];exact .tail _ (.tail _ (.tail _ (.tail _ (.tail _ (.head _)))))
  ·rw[zv.mp q];exact .tail _ (.tail _ (.tail _ (.tail _ (.head _))))
end
end
open PySem L2 K19 K22
section
variable{P:Program}{w:World}{K:W.Frag}{mg:Str->Option Value}{base:Heap}{a:Adr}
open K3
def sp_xt(a:Adr):Sp:=sp3 fun x y z H Q E=>NoT H/\asR x fun p=>asT y fun l=>asI z fun _=>∃d cs c kd,CAt a.aO a.aE H p d cs/\c∈cs/\c.pa=l/\c.ki=L2.T kd/\(kd=[111,119,110]->Q .non H)/\∀e∈RF a,E (.ref e) none H
theorem nI(T:Txt K mg a):Fo P w K mg base "need_keeper" 4 (sp_xt a):=by
 refine T.oJ.g3 ["chart","path","day"] fun x0 x1 x2 fA cdv A outer s H Q E ND HU hr h=>?_;obtain⟨hN,h1⟩:=h;obtain⟨p,rfl,h2⟩:=asR.inv h1;obtain⟨l,rfl,h3⟩:=asT.inv h2;obtain⟨t,rfl,d,cs,c,kd,J,hc,rfl,ck,k1,k0⟩:=asI.inv h3;obtain⟨_,_,_,_,kn,_,_,kk⟩:=RF.all k0;have sz:=szl;obtain⟨dx,hp⟩:=J.ob;refine⟨hN,_,(af (aW (aS (bV K HU) (bI (fv 0) T.a_ (gR T) (hr.mono (by decide)) aD (fa1 (fv 1))) (aQ [111,119,110])) (ag (bN T.p9 T.pI ba)) aL)
  (ag (aW (bK (bx (bI (fv 0) T.a_ (eg T) (hr.mono (by decide)) aD (fa2 (fv 1) (fv 2))))) (ag (bN T.gN T.gO ba)) aL))),?_⟩
 walk_at "rd";refine⟨_,_,hp,aR (by decide +kernel),hN,d,cs,c,J,hc,rfl,?_⟩;rw[ck];walk_at "rd";by_cases h:kd=[111,119,110]
 ·refine itp h ⟨_,_,hp,aR (by decide +kernel),hN,d,cs,c,J,hc,rfl,?_⟩
  cases ho:opn c.fi c.un t with
  |false=>exact itp rfl ⟨by walk_at "om",kn⟩
  |true=>exact itn (by decide) (k1 h)
 ·exact itn h ⟨by walk_at "om",kk⟩
def sp_B9(a:Adr):Sp:=sp3 fun x y z H Q E=>NoT H/\asR x fun p=>asT y fun l=>asR z fun q=>∃d cs c vs rs,CAt a.aO a.aE H p d cs/\c∈cs/\c.pa=l/\CuV c.cu/\H q=some (.lst vs)/\A2 (RwAt H) vs rs/\rs.length<=60/\Q .non H/\∀e∈RF a,E (.ref e) none H
theorem js(T:Txt K mg a):Fo P w K mg base "need_currencies" 4 (sp_B9 a):=by
 refine T.jK.g3 ["chart","path","rows","held"] fun x0 x1 x2 fA cdv A outer s H Q E ND HU hr h=>?_;obtain⟨hN,h1⟩:=h;obtain⟨p,rfl,h2⟩:=asR.inv h1;obtain⟨l,rfl,h3⟩:=asT.inv h2;obtain⟨q,rfl,d,cs,c,vs,rs,J,hc,rfl,hcu,hq,ha,len,k1,k0⟩:=asR.inv h3;obtain⟨_,_,_,_,_,kc,_⟩:=RF.all k0;have sz:=szl;have lv:=ha.len;obtain⟨dx,hp⟩:=J.ob;refine⟨hN,_,(af (aT 3 ND (bI (fv 0) T.a_ (cP T) (hr.mono (by decide)) aD (fa1 (fv 1))))
  (ag (aW (jq (L2.PW.pt (fO (dN (cJ (fv 3))) (d7 (bx (aH (xa K rfl) rfl T.D6 BI (fa1 (bz rfl (cl:=_) (x:="row") (xs:=["row"]) (fr:=["path","held"]) (ks:=[1,3]) (by walk_at "cq") rfl (bw K (fv 2)) (fun _ _ _ _ _=>(aM (i:=0) (cc (l:=["row","path","held"]) (by decide)) rfl (Or.inl rfl))) (fun _ _ _ _ _=>dU) (fun _ _ _ _ _=>(c_ (cY (cM K HU) (aA K (fv 0) aa) (fv 1) (dY _)) (dH (cY (bV K HU) (aA K (fv 0) aa) (fv 2) (dY _))))))))))))) (ag (bN T.gv T.gw ba)) aL))),?_⟩
 walk_at "rd";refine⟨_,_,hp,aR (by decide +kernel),hN,d,cs,c,J,hc,rfl,?_⟩;refine⟨hN,?_⟩;rcases hcu with e|⟨hl,e⟩
 ·exact itp e k1
 ·refine itn (by rw[e];intro z;cases z) (jn ?_)
  rw[e];walk_at "rd";refine⟨⟨vs,SqL.of hq⟩,ceA (S:=fun _ v c=>v = .bl c) (fun _ _ _ _ _ h=>h) q vs rs (RwAt H) (fun _=>true) (fun r=>decide (r.pa=c.pa) && !decide (r.cu=hl)) hq hN ha (by lia) (fun v r mr rr G zs N1 N0 sG nG hz n1 n0=>?_) fun D ws G hD sG nG gD aG=>?_⟩
  ·obtain⟨q1,rfl,hq1⟩:=rr
   have hq1:=sG _ _ hq1;obtain⟨z1,rfl⟩:=ex1 hz;have fin:=n1 rfl _ _ (Same.refl _) nG rfl;walk_at "rd";refine⟨⟨[_],rfl,rfl⟩,_,_,.inr (SqT.of hq1),aq (j:=0) rfl,?_⟩;walk_at "rd";by_cases h1:r.pa=c.pa
   ·rw[decide_eq_true h1,Yn]at fin
    refine itp h1 ⟨_,_,.inr (SqT.of hq1),aq (j:=1) rfl,?_⟩;show jF K true (L2.T r.cu) (L2.T hl) G N1;walk_at "rd";exact fin
   ·rw[decide_eq_false h1,YK]at fin
    exact itn h1 fin
  ·walk_at "rd"
   rw[qU.mpr (fun _ _=>rfl)]at aG;have ew:=AK aG;rw[ew]at gD;refine⟨_,SqL.of gD,H,Gc.none sG,?_⟩;by_cases hb:(rs.map fun r=>decide (r.pa=c.pa) && !decide (r.cu=hl)).any id=true
   ·exact itp hb ⟨by lia,H,Gc.refl,kc⟩
   ·exact itn hb ⟨H,Gc.refl,k1⟩
structure Cry(a:Adr)(cy:List (List Nat))(m n:Nat)(H H':Hp)(W:Wd)(M:Int)(q:Addr)(x:Bk):Prop where
 ls:LS a cy m (n+1) H' { W with bs:=W.bs++[.ref q],bk:=W.bk++[x] }
 kp:Keep [W.b,W.u] H H'
 hq:∃t,H' q=some (.tup [.int x.k,.int (FD (M+1)-1),L2.T [99,97,114,114,121],.ref t,.non])
 nil:∀out,∀r∈res (rsd (FD (M+1)-1) (W.bk++[x])) out,gcB W.as r.pa=false
theorem LS.ch_{cy:List (List Nat)}{m n:Nat}{H:Hp}{W:Wd}(S:LS a cy m n H W):Hy a.aO a.aE H W.ch W.as W.cd W.cs:=⟨S.ca,fun x mx=>by
 obtain⟨c,mc,r⟩:=yZ S.cf mx;exact⟨c,mc,r.pa,r.ki⟩⟩
theorem LS.acc{cy:List (List Nat)}{m n:Nat}{H:Hp}{W:Wd}(S:LS a cy m n H W){x:La}(mx:x∈W.as):∃c∈W.cs,c.pa=x.pa/\c.ki=L2.T x.ki/\CuV c.cu:=by
 obtain⟨c,mc,r⟩:=yZ S.cf mx;refine⟨c,mc,r.pa,r.ki,?_⟩;rw[r.cu];cases x.cu with
 |none=>exact .inl rfl
 |some l=>exact .inr ⟨l,rfl⟩
def sp_Co(a:Adr):Sp:=sp4 fun x y z t H Q E=>asR x fun ch=>asR y fun j=>asI z fun M=>asT t fun l=>∃cy m n W,LS a cy m n H W/\m<=18/\n<15/\cy.length=3/\ch=W.ch/\j=W.j/\M % 12=11/\(∃z∈W.as,z.pa=l)/\(∀s∈W.se,s.m<M) /\
 (∀H',Same H H'->NoT H'->Q .non H')/\(∀H' q x,Cry a cy m n H H' W M q x->Q .non H')/\∀e∈RF a,∀H',Same H H'->NoT H'->E (.ref e) none H'
theorem A6(T:Txt K mg a):Fo P w K mg base "carry" 5 (sp_Co a):=by
 refine T.CT.x4 ["chart","journal","month","path","day","rows"] fun x0 x1 x2 x3 fA cdv A outer s H Q E ND HU hr h=>?_;obtain⟨ch,rfl,h2⟩:=asR.inv h;obtain⟨j,rfl,h3⟩:=asR.inv h2;obtain⟨M,rfl,h4⟩:=asI.inv h3;obtain⟨_,rfl,cy,m,n,W,S,m18,n15,lc,rfl,rfl,M11,⟨z,mz,rfl⟩,sM,kS,kC,kE⟩:=asT.inv h4;have sz:=szl;have hN:=S.nT;obtain⟨c,mc,c1,c2,c3⟩:=S.acc mz;have nd:=S.ai.nd;refine⟨_,(af (aT 4 ND (aI (gn T) hr aD (fa1 (fv 2))))
  (af (bd (aI (nI T) hr aD (fa3 (fv 0) (fv 3) (fv 4))))
  (af (aT 5 ND (aI (oZ T) hr aD (fa4 (fv 0) (fv 1) (fv 3) (av aN aa (av aX (fv 2) aa)))))
  (af (bd (aI (js T) hr aD (fa3 (fv 0) (fv 3) (fv 5))))
  (ag (aW (aS lO (aH (bh K) rfl T.b6 bA (fa1 (fv 5))) aa) (ag (bd (bI (fv 1) T.bc (fJ T) (hr.mono (by decide)) aD (fa4 (fv 4) (aQ [99,97,114,114,121]) (fv 5) da)))) aL)))))),?_⟩
 walk_at "rd";refine⟨hN,hN,W.cd,W.cs,c,z.ki,S.ca,mc,c1,c2,fun ko=>?_,fun e me=>kE e me _ (Same.refl _) hN⟩;refine⟨hN,W.b,W.u,W.bs,W.kvs,W.bk,W.as,cy,W.cd,W.cs,S.ja,S.bk,S.bo,xx S.ai.len m18,lc,nd,S.ch_,?_⟩;rw[show 12*(2000+M / 12-2000)+11+1=M+1 by lia];intro out out2 r ws H1 p1 o1 p2 o2 hr hr1 ar lr mr s1 N1;have S1:=S.same s1 N1;walk_at "rd";refine⟨N1,W.cd,W.cs,c,ws,_,S1.ca,mc,c1,c3,hr1,ar,lr,?_,fun e me=>kE e me _ s1 N1⟩;have lw:=ar.len;refine⟨_,.inl (SqL.of hr1),?_⟩;by_cases h0:(0:Int)<ws.length
 ·obtain⟨dj,hj⟩:=S1.ja.ob
  have lb:=S.bo.l1;have l1:=S.bk.len;have l2:=S.kl;refine itp h0 ⟨_,_,hj,vP _ _,N1,W.b,W.u,W.bs,W.kvs,ws,S1.ja,by lia,by lia,.inl (SqL.of hr1),fun t q H2 g1 g2 g3 g4 g5 g6 g7=>?_⟩;have fr:∀y∈due (gcB W.as) z.pa (rsd (FD (M+1)-1) W.bk) out out2,y.pa∈W.as.map (·.pa)/\y.cu∈cy:=fun y my=>by
   obtain⟨q1,r1,m1,e1⟩:=mr y my;refine⟨?_,by rw[e1];exact(S.bo.row r1 m1).2⟩;rcases q1 with e|⟨r0,m0,e⟩
   ·rw[e];exact xp mz
   ·rw[e];exact(S.bo.row r0 m0).1
  obtain⟨q',t',hq',kp,S2⟩:=S1.put (x:=⟨W.bk.length,FD (M+1)-1,due (gcB W.as) z.pa (rsd (FD (M+1)-1) W.bk) out out2⟩) (nt:=[99,97,114,114,121]) (un:=none) ⟨q,t,g3,g4,g2,g5,g6,g7⟩ (ar.imp fun v r _ _ h=>RwAt.mv _ _ v r (fun t l e=>g6 _ _ e (S1.ja.tup e)) h) rfl n15 (by lia) lr fr (fun s ms=>by
   have:=jR (show s.m+1<=M by have:=sM s ms;lia);have:=(Eg M).1;show FD (s.m+1)-1<FD (M+1)-1;have:=sM s ms;lia)
  refine kC _ q' _ ⟨S2,fun c z e n=>kp c z (s1 c z e) n,⟨t',hq'⟩,fun out3 y my=>?_⟩;have e:rsd (FD (M+1)-1) (W.bk++[⟨W.bk.length,FD (M+1)-1,due (gcB W.as) z.pa (rsd (FD (M+1)-1) W.bk) out out2⟩])=rsd (FD (M+1)-1) W.bk++due (gcB W.as) z.pa (rsd (FD (M+1)-1) W.bk) out out2:=by rw[nX,if_pos (Ye _)]
  rw[e]at my;have gp:gcB W.as z.pa=false:=by unfold gcB;rw[Ef nd mz,ko];decide
  have:=uy gp p1 p2 (out3:=out3);cases hg:gcB W.as y.pa with
  |false=>rfl
  |true=>
   have:y∈ir (gcB W.as) (rsd (FD (M+1)-1) W.bk++due (gcB W.as) z.pa (rsd (FD (M+1)-1) W.bk) out out2) out3:=qh.mpr ⟨my,hg⟩;rw[uy gp p1 p2]at this;cases this
 ·exact itn h0 (kS _ s1 N1)
end
open PySem L2 K19 K22
section
variable{P:Program}{w:World}{K:W.Frag}{mg:Str->Option Value}{base:Heap}{a:Adr}
open K3
def CrB(H':Hp)(W:Wd)(M:Int)(s:Se)(bs:List V):Prop:=bs=W.bs\/∃q k t,bs=W.bs++[.ref q]/\M % 12=11/\H' q=some (.tup [.int k,.int (FD (M+1)-1),L2.T [99,97,114,114,121],.ref t,.non])/\∀r∈s.rs,gcB W.as r.pa=false
structure Clo(a:Adr)(cy:List (List Nat))(m n:Nat)(H H':Hp)(W:Wd)(M:Int)(t:Addr)(s:Se)(bs:List V)(bk:List Bk):Prop where
 ls:LS a cy m (n+1) H' { W with bs:=bs,bk:=bk,o:=some M,ss:=W.ss++[.ref t],se:=W.se++[s] }
 kp:Keep (own W) H H'
 sm:s.m=M
 st:SeAt H' t M s.n s.rs
 cr:CrB H' W M s bs
 mo:W.o=none\/W.o=some (M-1)
theorem G6(v:V):xt (zI "need_next") [(zI "last_closed",v)]=none:=by rw[aR (by decide +kernel)];rfl
theorem A5(x:V):xt (zI "shut") [(zI "last_closed",x)]=none:=by rw[aR (by decide +kernel)];rfl
theorem Ca(x:V):xt (zI "put") [(zI "told_seals",x)]=none:=by rw[aR (by decide +kernel)];rfl
def sp_Ab(a:Adr):Sp:=sp6 fun x y z u v r H Q E=>asR x fun ch=>asR y fun g=>asR z fun j=>asR u fun sl=>asI v fun M=>asT r fun l=>∃cy m n W,LS a cy m n H W/\m<=18/\n<14/\cy.length=3/\ch=W.ch/\g=W.g/\j=W.j/\sl=W.sl/\(0<=M/\M<=4799/\M<=4790+(n:Int))/\(W.o=none\/W.o=some (M-1))/\(∃z∈W.as,z.pa=l) /\
 (∀H' t s bs bk,Clo a cy m n H H' W M t s bs bk->Q (.ref t) H')/\∀e∈RF a,∀H',Same H H'->NoT H'->E (.ref e) none H'
theorem Bn(T:Txt K mg a):Fo P w K mg base "close" 6 (sp_Ab a):=by
 refine T.B7.x6 ["chart","gate","journal","seals","month","path","told"] fun x0 x1 x2 x3 x4 x5 fA cdv A outer s H Q E ND HU hr h=>?_;obtain⟨ch,rfl,h2⟩:=asR.inv h;obtain⟨g,rfl,h3⟩:=asR.inv h2;obtain⟨j,rfl,h4⟩:=asR.inv h3;obtain⟨sl,rfl,h5⟩:=asR.inv h4;obtain⟨M,rfl,h6⟩:=asI.inv h5;obtain⟨l,rfl,cy,m,n,W,S,m18,n14,lc,rfl,rfl,rfl,rfl,hM,ho,hz,kQ,kE⟩:=asT.inv h6;have sz:=szl;have hN:=S.nT
 skip
 have oM:∀z,W.o=some z->z<M:=fun z e=>by
  rcases ho with h|h
  ·rw[h]at e;cases e
  ·rw[h]at e;cases e;lia
 have c2:∃u,PSs (cL (XE P w) P w K mg base ["chart","gate","journal","seals","month","path","told"] "close" (ae (top 63)) fA cdv A outer s H E) (Z1 2 (au (top 63))) u/\∀H1 n1 bs bk,LS a cy m n1 H1 { W with bs:=bs,bk:=bk }->n<=n1->n1<=n+1->Keep (own W) H H1->(∀s,s.m=M->SeOk bk s->CrB H1 W M s bs)->u { nx:=fun _ H'=>Q .non H',rt:=Q } [some (.ref W.ch),some (.ref W.g),some (.ref W.j),some (.ref W.sl),some (.int M),some (L2.T l),none] H1:=by
  refine⟨_,(af (aT 6 ND (aI (wA T) hr aD (fa3 (fv 0) (fv 2) (fv 4))))
   (af (bd (bI (fv 3) T.g8 (qa T) (hr.mono (by decide)) aD (fa1 (fv 6))))
   (af (bd (bI (fv 1) T.bW (qw T) (hr.mono (by decide)) aD (fa1 (fv 4))))
   (ag (aJ (fv 6)))))),fun H1 n1 bs bk S1 hn1 hn2 kp cr=>?_⟩
  walk_at "rd";refine⟨S1.nT,⟨hM.1,hM.2.1⟩,W.b,W.u,bs,W.kvs,bk,S1.jb m18 lc,fun out t H2 po oo ht hs s2 N2=>?_⟩;have S2:=S1.same s2 N2;obtain⟨ds,hsl⟩:=S2.sa.ob;have l1:=S.sn;walk_at "rd";refine⟨_,_,hsl,Ca _,N2,W.sb,W.ss,S2.sa,by lia,fun H3 J3 K3 N3=>?_⟩;have hg:H3 W.g=some (cZ a.a8 W.gx (cl W.o)):=K3 _ _ S2.ga fun z=>aU S2.ga S2.sa.ls (by intro z;cases z) (zv.mp z);refine⟨_,_,hg,A5 _,N3,W.gx,W.o,hg,⟨hM.1,hM.2.1⟩,ho,?_⟩;have ok:SeOk bk ⟨M,mny (FD (M+1)-1) bk,res (rsd (FD (M+1)-1) bk) out⟩:=⟨⟨hM.1,hM.2.1⟩,rfl,out,po,oo,rfl⟩;obtain⟨S3,k3,st,kt⟩:=S2.shut (n':=n+1) hn2 (by show W.ss.length+1<=_;lia) hM.1 (by lia) (fun z e=>by have:=oM z e;lia) rfl ok hs J3 K3 N3;refine kQ _ t _ bs bk ⟨S3,kp.trans ((Keep.same s2).trans k3),rfl,st,?_,ho⟩;rcases cr _ rfl ok with e|⟨q,k,tt,e,e1,e2,e3⟩
  ·exact .inl e
  ·exact .inr ⟨q,k,tt,e,e1,kt _ _ (s2 _ _ e2),e3⟩
 obtain⟨u2,hu2,c2⟩:=c2;refine⟨_,(af (bd (bI (fv 1) T.bW (gb T) (hr.mono (by decide)) aD (fa1 (fv 4))))
  (af (aW (aS (cM K HU) (av a9 (fv 4) aa) aa) (ag (bd (aI (A6 T) hr aD (fa4 (fv 0) (fv 2) (fv 4) (fv 5))))) aL)
  hu2)),?_⟩
 walk_at "rd";refine⟨_,_,S.ga,G6 _,hN,W.gx,W.o,S.ga,⟨hM.1,hM.2.1⟩,ho,?_⟩;by_cases h:M % 12=11
 ·refine itp h ⟨cy,m,n,W,S,m18,by lia,lc,rfl,rfl,h,hz,fun s ms=>?_,fun H1 s1 N1=>c2 H1 n W.bs W.bk (S.same s1 N1) (z5 _) (ZV _) (Keep.same s1) fun _ _ _=>.inl rfl,fun H1 q x C=>?_,kE⟩
  ·obtain⟨z,e1,e2⟩:=(S.sk s ms).2
   have:=oM z e1;lia
  ·refine c2 H1 (n+1) _ _ C.ls (ZV _) (z5 _) (C.kp.mono fun p q=>?_) fun s e ok=>?_
   ·rcases z6.mp q with q|q
    ·rw[q];exact .tail _ (.tail _ (.head _))
    ·rw[zv.mp q];exact .tail _ (.tail _ (.tail _ (.head _)))
   ·obtain⟨t,hq⟩:=C.hq
    obtain⟨out,_,_,er⟩:=ok.rs;refine .inr ⟨q,_,t,rfl,h,hq,?_⟩;rw[er,e];exact C.nil out
 ·exact itn h (c2 H n W.bs W.bk S (z5 _) (ZV _) Keep.refl fun _ _ _=>.inl rfl)
end
open PySem L2 K19 K22
section
variable{P:Program}{w:World}{K:W.Frag}{mg:Str->Option Value}{base:Heap}{a:Adr}
open K3
structure HW(a:Adr)(cy:List (List Nat))(m n:Nat)(H H':Hp)(W:Wd)(q:Addr)(x:Bk)(kvs:List (Key × V)):Prop where
 ls:LS a cy m (n+1) H' { W with bs:=W.bs++[.ref q],bk:=W.bk++[x],kvs:=kvs }
 kp:Keep [W.b,W.u] H H'
 hq:∃t nt un,H' q=some (.tup [.int x.k,.int x.d,L2.T nt,.ref t,un])
 dy:0<=x.d/\x.d<=146096
 lt:lts W.o x.d
theorem LS.late{cy:List (List Nat)}{m n:Nat}{H:Hp}{W:Wd}(S:LS a cy m n H W){d:Int}(h0:0<=d)(h1:d<=146096)(hl:lts W.o d):∀s∈W.se,FD (s.m+1)-1<d:=fun s ms=>by
 obtain⟨z,e,le⟩:=(S.sk s ms).2;rw[e]at hl;have hl:z<MO d:=hl;have:=(wl h0 h1).2.2.1;have:=jR (show s.m+1<=MO d by lia);lia
theorem zD(T:Txt K mg a):∀e∈RF a,qE K (.ref e) (.ref a.bt)=some true:=fun e m=>by
 unfold RF at m;simp only[z6,yj,or_false]at m;rcases m with rfl|rfl|rfl|rfl|rfl|rfl|rfl|rfl
 ·exact T.il
 ·exact T.jh
 ·exact T.i9
 ·exact T.jg
 ·exact T.iz
 ·exact T.gu
 ·exact T.jf
 ·exact T.iw
theorem Cq(x y:V):xt (zI "many") [(zI "bookings",x),(zI "undoings",y)]=none:=by rw[aR (by decide +kernel),aR (by decide +kernel)];rfl
theorem gH(x:V):xt (zI "closed") [(zI "last_closed",x)]=none:=by rw[aR (by decide +kernel)];rfl
theorem EV{d:Int}(h0:0<=d)(h1:d<=145816):MO d<=4790:=by
 by_cases h:MO d<=4790
 ·exact h
 ·have:=(wl h0 (by lia)).2.2.1
  have:=jR (show 4791<=MO d by lia);have:FD 4791=145822:=by decide
  lia
theorem DM{α:Type}{q:Prop}{c T:α->Prop}(f:(∀M,c M->T M)->q)(x:∀M,c M->T M):q:=f x
def sp_y9(K:W.Frag)(a:Adr):Sp:=sp5 fun x y z t v H Q _=>asR x fun hd=>asR y fun d=>asR z fun sc=>asI t fun k=>asR v fun pc=>∃(ns:List Int) (cy:List (List Nat)) (W:Wd) (m n:Nat),0<=k/\d=W.d/\H hd=some (.lst [.ref W.ch,.ref W.g,.ref W.j,.ref W.sl])/\SqL K H sc (ns.map V.int)/\H pc=some (.lst (cy.map L2.T))/\cy.length=3/\(∀l∈cy,cur l=true)/\LS a cy m n H W/\m<=18/\n<10 /\
 (∀H',Same H H'->NoT H'->Q .non H')/\(∀H' q x kvs,HW a cy m n H H' W q x kvs->Q .non H')/\∀H' M t s bs bk,Clo a cy m n H H' W M t s bs bk->Q (.ref t) H'
theorem oF(T:Txt K mg a):Fo P w K mg base "_law_tried" 8 (sp_y9 K a):=by
 refine T.rL.x5 ["_law_held","_law_accounts_here","_law_script","_law_k","_law_currencies_here","_law_way","_law_cell","_law_day_here","_law_rows","_law_month_here","_law_path","_law_own"] fun x0 x1 x2 x3 x4 fA cdv A outer s H Q E ND HU hr h=>?_;obtain⟨hd,rfl,h2⟩:=asR.inv h;obtain⟨d,rfl,h3⟩:=asR.inv h2;obtain⟨sc,rfl,h4⟩:=asR.inv h3;obtain⟨k,rfl,h5⟩:=asI.inv h4;obtain⟨pc,rfl,ns,cy,W,m,n,k0,rfl,hh,hS,hpc,lcy,ccy,S,m18,n10,kN,kM,kC⟩:=asR.inv h5;have sz:=szl;have hN:=S.nT;refine⟨_,(af (aT 5 ND (av a9 (aI (a6 T) hr aD (fa2 (fv 2) (fv 3))) aa))
  (af (aT 6 ND (aI (a6 T) hr aD (fa2 (fv 2) (av aN (fv 3) aa))))
  (af (aT 7 ND (aI (lQ T) hr aD (fa2 (fv 2) (av aN (fv 3) aa))))
  (af (BO rfl T.qH rfl rfl rfl (fun pn Ee Ex PX=>(ag (aW (aS n8 (fv 5) aa) (af (aT 8 ND (aI (l_ T) hr PX (fa4 (fv 6) (fv 1) (fv 7) (fv 4))))
  (ag (bd (aI (Cn T) hr PX (fa6 (aA K (fv 0) aa) (aA K (fv 0) aa) (aA K (fv 0) aa) (fv 7) (aQ [110,111,116,101]) (fv 8)))))) (ag (aW (aS (cM K HU) (fv 5) aa) (ag (bd (aI (CS T) hr PX (fa6 (aA K (fv 0) aa) (aA K (fv 0) aa) (aA K (fv 0) aa) (av a9 (fv 6) (av aN (gz (aA K (fv 0) aa) T.bc (mD T) (hr.mono (by decide)) PX) aa)) (fv 7) (aQ [98,97,99,107]))))) (af (aT 9 ND (aI (jr T) hr PX (fa1 (fv 7))))
  (af (aW (dN (cJ (gz (aA K (fv 0) aa) T.bW (cQ T) (hr.mono (by decide)) PX))) (ag (aT 9 ND (av aN (gz (aA K (fv 0) aa) T.bW (cQ T) (hr.mono (by decide)) PX) aa))) aL)
  (af (aT 10 ND (aA K (b5 (nz rfl) rfl T.jy hG (fa1 (fv 1))) (av a9 (fv 6) (aH CY rfl T.b6 bA (fa1 (fv 1))))))
  (af (jJ (jL (i0:=11) ND rfl (Or.inl rfl) rfl (cl:=_) (x:="_law_one") (xs:=["_law_one"]) (fr:=["_law_accounts_here"]) (ks:=[1]) (by walk_at "cq") rfl (iV (fv 1)) (fun _ _ _ _ _=>(aM (i:=0) (cc (l:=["_law_one","_law_accounts_here"]) (by decide)) rfl (Or.inl rfl))) (fun _ _ _ _ _=>(dv (aS (cM K HU) (aA K (bL (Zp HU) (fv 1) (fv 0) (fun _ _=>rfl)) aa) (aQ [111,119,110])))) (fun _ _ _ _ _=>(fv 0))))
  (af (aW (aS lO (av a9 (av aX (fv 6) aa) aa) aa) (ag (aT 10 ND (aA K (fv 11) (av a9 (fv 6) (aH (bh K) rfl T.b6 bA (fa1 (fv 11))))))) aL)
  (ag (aJ (aI (Bn T) hr PX (fa6 (aA K (fv 0) aa) (aA K (fv 0) aa) (aA K (fv 0) aa) (aA K (fv 0) aa) (fv 9) (fv 10))))))))))))))) (fun e=>(ag (aJ da))))
  (ag (aJ da)))))),?_⟩
 walk_at "rd";refine⟨ns,hS,k0,fun i0 _=>⟨ns,hS,by lia,fun cell _=>⟨ns,hS,by lia,fun day d0 d1=>?_⟩⟩⟩;have kE:∀e∈RF a,∀H',Same H H'->NoT H'->∃Ce,yX e = .ref Ce/\qE K (.ref Ce) (.ref a.bt)=some true/\Q .non H':=fun e me H' s n=>⟨e,rfl,zD T e me,kN H' s n⟩;have lbs:=S.bk.len;have l1:=S.ll;have l2:=S.kl;have lb:=S.bo.l1;obtain⟨dj,hj⟩:=S.ja.ob;have ac:AcAt H W.d W.as:=⟨.inl S.dd,S.ls⟩;have nd:=S.ai.nd;have hcu:∀c∈W.cs,CuV c.cu:=fun c mc=>by
  obtain⟨z,mz,rc⟩:=yn S.cf mc;rw[rc.cu];cases z.cu with
  |none=>exact .inl rfl
  |some l=>exact .inr ⟨l,rfl⟩
 by_cases w2:i0 % 5<2
 ·refine itp w2 ⟨hN,d0,W.as,m,cy,S.dd,ac,S.ai,by lia,hpc,lcy,fun q vs rs H1 fq hq ha r2 r4 hrs s1 N1=>?_⟩
  have S1:=S.same s1 N1;have hh1:=s1 _ _ hh;refine⟨_,_,.inl (SqL.of hh1),aq (j:=0) rfl,_,_,.inl (SqL.of hh1),aq (j:=1) rfl,_,_,.inl (SqL.of hh1),aq (j:=2) rfl,N1,?_⟩;walk_at "rd";refine⟨.inl rfl,⟨d0,by lia⟩,W.cd,W.cs,vs,rs,W.gx,W.o,W.b,W.u,W.bs,W.kvs,S1.ca,hcu,hq,ha,⟨r2,by lia⟩,fun r mr=>?_,S1.ga,S1.ja,by lia,by lia,fun H2 L hl _ _=>?_,fun e me H2 s2 n2=>kE e me H2 (s1.trans s2) n2⟩
  ·obtain⟨⟨z,mz,ez⟩,hc,h0,h1,h2⟩:=hrs r mr
   obtain⟨c,mc,c1,_⟩:=S.acc mz;exact⟨⟨ccy _ hc,⟨h1,h2⟩,h0⟩,c,mc,c1.trans ez⟩
  ·have hv:A2 (RwAt H2) vs rs:=by
    obtain⟨_,_,_,_,_,_,kp,_⟩:=L;exact ha.imp fun v r _ _ z=>RwAt.mv _ _ v r (fun t l e=>kp _ _ e (S1.ja.tup e)) z
   obtain⟨q',t',hq',kp,S2⟩:=S1.put (x:=⟨W.bk.length,day,rs⟩) (un:=none) L hv rfl (by lia) (by lia) (by show rs.length<=60;lia) (fun r mr=>by
    obtain⟨⟨z,mz,ez⟩,hc,_⟩:=hrs r mr;exact⟨yb.mpr ⟨z,mz,ez⟩,hc⟩) (S.late d0 (by lia) hl)
   exact kM H2 q' _ _ ⟨S2,fun c z e n=>kp c z (s1 c z e) n,⟨t',_,_,hq'⟩,⟨d0,by show day<=146096;lia⟩,hl⟩
 refine itn w2 ?_;by_cases w3:i0 % 5=2
 ·refine itp w3 ⟨_,_,.inl (SqL.of hh),aq (j:=0) rfl,_,_,.inl (SqL.of hh),aq (j:=1) rfl,_,_,.inl (SqL.of hh),aq (j:=2) rfl,_,_,.inl (SqL.of hh),aq (j:=2) rfl,?_⟩
  walk_at "rd";refine⟨_,_,hj,Cq _ _,hN,W.b,W.u,W.bs,W.kvs,S.ja,by lia,hN,?_⟩;walk_at "rd";refine⟨.inr rfl,Ze _ (by lia),d0,W.cd,W.cs,W.gx,W.o,W.b,W.u,W.bs,W.kvs,W.bk,S.ca,S.ga,S.ja,by lia,by lia,S.bk,fun i x hx=>?_,fun i x ws H1 ei hx t1 hl hw L=>?_,kE⟩
  ·refine⟨S.nk i x hx,S.bo.l2 x (yO hx),fun r mr=>?_⟩
   obtain⟨z,mz,ez⟩:=yb.mp (S.bo.mem x (yO hx) r mr).1;obtain⟨c,mc,c1,_⟩:=S.acc mz;exact⟨c,mc,c1.trans ez⟩
  ·have lt:(trn x.rs).length=x.rs.length:=by unfold trn;rw[zB]
   have lp:=iL W.kvs (.inl (i:Int)) (.int W.bs.length);have lx:=S.bo.l2 x (yO hx);obtain⟨q',t',hq',kp,S2⟩:=S.put (x:=⟨W.bk.length,day,trn x.rs⟩) (un:=some (i:Int)) L hw rfl (by lia) (by lia) (by show(trn x.rs).length<=60;lia) (fun r mr=>by
    unfold trn at mr;obtain⟨r0,m0,rfl⟩:=yb.mp mr;exact S.bo.mem x (yO hx) r0 m0) (S.late d0 (by lia) hl)
   exact kM H1 q' _ _ ⟨S2,kp,⟨t',_,_,hq'⟩,⟨d0,t1⟩,hl⟩
 refine itn w3 ⟨hN,⟨d0,by lia⟩,fun H1 s1 N1=>?_⟩;have S1:=S.same s1 N1;have hh1:=s1 _ _ hh;refine⟨_,_,.inl (SqL.of hh1),aq (j:=1) rfl,?_⟩;walk_at "rd";refine⟨_,_,S1.ga,gH _,N1,_,_,S1.ga,?_⟩;refine' DM (c:=fun M=>(0<=M/\M<=4799/\M<=4790+(n:Int))/\(W.o=none\/W.o=some (M-1))) (fun key=>_) _
 rotate_left 1
 ·cases eo:W.o with
  |none=>
   refine itp rfl ?_;have hM:(0<=MO day/\MO day<=4799/\MO day<=4790+(n:Int))/\(W.o=none\/W.o=some (MO day-1)):=⟨⟨(wl d0 (by lia)).1,(wl d0 (by lia)).2.1,by have:=EV d0 d1;lia⟩,.inl eo⟩;generalize MO day=M at hM |-
   exact key M hM
  |some z=>
   have oz:=S.oo z eo;refine itn (by intro q;cases q) ⟨_,_,.inl (SqL.of hh1),aq (j:=1) rfl,?_⟩;walk_at "rd";refine⟨_,_,S1.ga,gH _,N1,_,_,S1.ga,?_⟩;rw[eo];show yf (.int z) (.int 1) H1 _;walk_at "rd";have hM:(0<=z+1/\z+1<=4799/\z+1<=4790+(n:Int))/\(W.o=none\/W.o=some (z+1-1)):=⟨⟨by lia,by lia,by lia⟩,.inr (by rw[eo,show z+1-1=z by lia])⟩;generalize z+1=M at hM |-
   exact key M hM
 intro M hM;refine⟨_,S1.dd,fun l hl=>?_⟩;have s2:=s1.trans (aj (HO.lst ((W.as.map kyL).map fun e=>kV e.1)) hl);have N2:NoT (upd H1 l (HO.lst ((W.as.map kyL).map fun e=>kV e.1))):=az N1 rfl;have hl2:upd H1 l (HO.lst ((W.as.map kyL).map fun e=>kV e.1)) l=some (HO.lst ((W.as.map kyL).map fun e=>kV e.1)):=ad;generalize upd H1 l (HO.lst ((W.as.map kyL).map fun e=>kV e.1))=H2 at s2 N2 hl2 |-
 have S2:=S.same s2 N2;have hh2:=s2 _ _ hh;have la:=S.ai.len;obtain⟨x0,y0,z0,r0,ea,_,ty,_,yo⟩:=S.ai.top;have my:y0∈W.as:=by rw[ea];exact .tail _ (.head _)
 have pick:∀(vs:List V),0<vs.length->(∀v∈vs,∃z∈W.as,v=L2.T z.pa)->∃z∈W.as,atI vs (cell % (vs.length:Int))=some (L2.T z.pa):=fun vs p0 hv=>by
  obtain⟨j,e⟩:=Zn (Ze cell (show((vs.length:Nat):Int)≠0 by lia));have b:=Zl cell (show(0:Int)<vs.length by lia);rw[e]at b |-
  have hj:j<vs.length:=by lia
  obtain⟨z,mz,ez⟩:=hv vs[j] (Yh hj);exact⟨z,mz,by rw[<- ez];exact aq (List.getElem?_eq_getElem hj)⟩
 have vin:∀v∈(W.as.map kyL).map (fun e=>kV e.1),∃z∈W.as,v=L2.T z.pa:=fun v mv=>by
  obtain⟨e,me,rfl⟩:=yb.mp mv;obtain⟨y,my,rfl⟩:=yb.mp me;exact⟨y,my,rfl⟩
 have pos:0<(W.as.map kyL).length:=by rw[zB];exact YZ my
 obtain⟨zp,mzp,ezp⟩:=pick ((W.as.map kyL).map fun e=>kV e.1) (by rw[zB];exact pos) vin;rw[zB (fun e:Key × V=>kV e.1)]at ezp;walk_at "rd";refine⟨_,S2.dd,by lia,_,_,.inl (SqL.of hl2),ezp,Ad (cmK W.d (W.as.map kyL) (kA W.as fun x=>decide (x.ki=[111,119,110])) (fun v=>v) (fun R r=>r) (.inl S2.dd) (by rw[zB];lia) (fun v mv D ys o R hD nD r=>?_) (fun v mv _ D ys o R hD nD r=>r) fun D hD=>?_)⟩
 ·obtain⟨y,my,rfl⟩:=vin v mv
  change R (kA W.as _ (L2.T y.pa)) _ at r;rw[io nd my]at r;have ls:=S2.ls y my;have g1:upd (upd H2 W.d (.frz o (.dK (W.as.map kyL)))) D (.lst ys) W.d=some (.frz o (.dK (W.as.map kyL))):=(ah (Ne.symm nD)).trans ad;have g2:upd (upd H2 W.d (.frz o (.dK (W.as.map kyL)))) D (.lst ys) y.ls=some (laL y):=(ah (aC ls hD)).trans ((ah (aU ls S2.dd)).trans ls);generalize upd (upd H2 W.d _) D _=G1 at r g1 g2 |-
  show lT _ [some (L2.T y.pa),some (.ref W.d)] G1 R;walk_at "rd";refine⟨W.d,.ref y.ls,rfl,qd nd my g1,?_⟩;walk_at "rd";refine⟨_,_,.inl (SqL.of g2),aq (j:=3) rfl,?_⟩;walk_at "rd";exact r
 ·have vn:∀v∈((W.as.map kyL).map fun e=>kV e.1).filter (kA W.as fun x=>decide (x.ki=[111,119,110])),∃z∈W.as,v=L2.T z.pa:=fun v mv=>vin v (qh.mp mv).1
  have vp:0<(((W.as.map kyL).map fun e=>kV e.1).filter (kA W.as fun x=>decide (x.ki=[111,119,110]))).length:=YZ (a:=L2.T y0.pa) (qh.mpr ⟨yb.mpr ⟨kyL y0,xp my,rfl⟩,by rw[io nd my];exact decide_eq_true yo⟩);rw[show ∀l:List V,l.map (fun v=>v)=l from fun l=>Y7 l];generalize ((W.as.map kyL).map fun e=>kV e.1).filter (kA W.as fun x=>decide (x.ki=[111,119,110]))=vs at vn vp |-
  have s3:=s2.trans (aj (HO.lst vs) hD);have N3:NoT (upd H2 D (HO.lst vs)):=az N2 rfl;have hD3:upd H2 D (HO.lst vs) D=some (HO.lst vs):=ad;generalize upd H2 D (HO.lst vs)=H3 at s3 N3 hD3 |-
  have S3:=S.same s3 N3;have hh3:=s3 _ _ hh;obtain⟨zo,mzo,ezo⟩:=pick vs vp vn;walk_at "rd";refine' DM (c:=fun l=>∃z∈W.as,z.pa=l) (fun key=>_) _
  rotate_left 1
  ·by_cases w8:0<cell / 8 % 3
   ·refine itp w8 ⟨_,.inl (SqL.of hD3),by lia,_,_,.inl (SqL.of hD3),ezo,?_⟩
    have ho:∃z∈W.as,z.pa=zo.pa:=⟨zo,mzo,rfl⟩;generalize zo.pa=l at ho |-
    exact key l ho
   ·refine itn w8 ?_
    have hp:∃z∈W.as,z.pa=zp.pa:=⟨zp,mzp,rfl⟩;generalize zp.pa=l at hp |-
    exact key l hp
  intro l hz;refine⟨_,_,.inl (SqL.of hh3),aq (j:=0) rfl,_,_,.inl (SqL.of hh3),aq (j:=1) rfl,_,_,.inl (SqL.of hh3),aq (j:=2) rfl,_,_,.inl (SqL.of hh3),aq (j:=3) rfl,?_⟩;exact⟨cy,m,n,W,S3,m18,by lia,lcy,rfl,rfl,rfl,rfl,hM.1,hM.2,hz,fun H' t s bs bk C=>kC H' M t s bs bk ⟨C.ls,(Keep.same s3).trans C.kp,C.sm,C.st,C.cr,C.mo⟩,fun e me H' s4 n4=>kE e me H' (s3.trans s4) n4⟩
end
open PySem L2 K19 K22
section
variable{P:Program}{w:World}{K:W.Frag}{mg:Str->Option Value}{base:Heap}{a:Adr}
open K3
theorem D5(be:List (List Nat))(x:La):HO.lst (be.map L2.T)≠laL x:=fun z=>by
 injection z with z
 have e:=congrArg (fun l:List V=>l[1]?) z;simp only[List.getElem?_map]at e;obtain⟨l,_,e⟩:=u8.mp e;cases e
theorem LS.chg{cy:List (List Nat)}{m n:Nat}{H H':Hp}{W:Wd}(S:LS a cy m n H W){as:List La}{cs:List Acc}(ca:CAt a.aO a.aE H' W.ch W.cd cs)(cf:A2 (CF as) cs as)(bl:∀c∈cs,c.be.length<=m+1)
 (dd:H' W.d=some (.dK (as.map kyL))) (ls:∀x∈as,H' x.ls=some (laL x)) (ai:AsI as (m+1)) (kp:Keep (W.d::W.cd::(W.cs.map (·.bl)++W.cs.map (·.ob)++W.as.map (·.ls))) H H') (nT:NoT H')
 (oc:∀c∈cs,(∃z∈W.cs,c.bl=z.bl/\c.ob=z.ob)\/(H c.bl=none/\H c.ob=none)) (oa:∀x∈as,(∃z∈W.as,x.ls=z.ls)\/H x.ls=none) (up:∀z∈W.as,∃y∈as,y.pa=z.pa/\y.cu=z.cu) (nl:(as.map (·.ls)).Nodup) :
 LS a cy (m+1) n H' { W with as:=as,cs:=cs }/\Keep (own W) H H'/\∀p∈own { W with as:=as,cs:=cs },p∈own W\/H p=none:=by
 have no:∀ {q:Addr},q≠W.d->q≠W.cd->(∀c∈W.cs,q≠c.bl/\q≠c.ob)->(∀x∈W.as,q≠x.ls)->q∉W.d::W.cd::(W.cs.map (·.bl)++W.cs.map (·.ob)++W.as.map (·.ls)):=fun h1 h2 h3 h4 mm=>by
  simp only[z6,yI,yb]at mm;rcases mm with q|q|(⟨c,mc,e⟩|⟨c,mc,e⟩)|⟨x,mx,e⟩
  ·exact h1 q
  ·exact h2 q
  ·exact(h3 c mc).1 e.symm
  ·exact(h3 c mc).2 e.symm
  ·exact h4 x mx e.symm
 have ni:∀ {q C dx:Addr} {fs:List (Str × V)},H q=some (.ins C dx fs)->fs.length≠5->q∉W.d::W.cd::(W.cs.map (·.bl)++W.cs.map (·.ob)++W.as.map (·.ls)):=fun {q C dx fs} e l5=>
  no (aU e S.dd) (aU e S.ca.dc) (fun c mc=>⟨aU e (S.ca.ac c mc).ls,by obtain⟨dx,ho⟩:=(S.ca.ac c mc).ob;exact Bz e ho l5⟩) fun x mx=>aU e (S.ls x mx)
 have kt:∀t l,H t=some (.tup l)->H' t=some (.tup l):=fun t l e=>kp _ _ e (no (aU e S.dd) (aU e S.ca.dc) (fun c mc=>⟨aU e (S.ca.ac c mc).ls,by obtain⟨dx,ho⟩:=(S.ca.ac c mc).ob;exact aU e ho⟩) fun x mx=>aU e (S.ls x mx));have hb:=S.ja.ls;have hu:=S.ja.dc;have kb:=no (aU hb S.dd) (aU hb S.ca.dc) (fun c mc=>⟨Ne.symm (S.a1 c mc).1.1,by obtain⟨dx,ho⟩:=(S.ca.ac c mc).ob;exact aU hb ho⟩) fun x mx=>Ne.symm (S.a2 x mx).1;have ku:=no (Ne.symm S.a3.2.2) (Ne.symm S.a3.1) (fun c mc=>⟨aU hu (S.ca.ac c mc).ls,by obtain⟨dx,ho⟩:=(S.ca.ac c mc).ob;exact aU hu ho⟩) fun x mx=>aU hu (S.ls x mx);obtain⟨dj,hj⟩:=S.ja.ob;obtain⟨ds,hs⟩:=S.sa.ob;have hsb:=S.sa.ls;have ks:=no (aU hsb S.dd) (aU hsb S.ca.dc) (fun c mc=>⟨Ne.symm (S.a1 c mc).1.2,by obtain⟨dx,ho⟩:=(S.ca.ac c mc).ob;exact aU hsb ho⟩) fun x mx=>Ne.symm (S.a2 x mx).2;have fre:∀ {q:Addr} {o:HO},H q=some o->∀ {p:Addr},H p=none->p≠q:=fun {q o} e {p} n z=>by rw[z,e]at n;cases n
 refine⟨⟨ca,cf,bl,dd,ls,ai,kp _ _ S.ga (ni S.ga (show 1≠5 by decide)),S.oo,S.ja.keep kp (ni hj (show 2≠5 by decide)) kb ku,S.bk.imp fun _ _ _ _ h=>h.mv kt,⟨S.bo.l1,S.bo.l2,fun b mb r mr=>?_⟩,S.nk,S.ll,S.kl,S.sa.keep kp (ni hs (show 1≠5 by decide)) ks,S.sv.imp fun _ _ _ _ h=>h.mv kt,S.sk,S.sn,nT,fun c mc=>⟨?_,fun x mx=>aU (ca.ac c mc).ls (ls x mx) (D5 _ _)⟩,fun x mx=>?_,S.a3,S.a4,nl⟩,kp.mono fun p mm=>?_,fun p mm=>?_⟩
 ·obtain⟨h1,h2⟩:=S.bo.mem b mb r mr
  obtain⟨z,mz,e⟩:=yb.mp h1;obtain⟨y,my,f1,_⟩:=up z mz;exact⟨yb.mpr ⟨y,my,f1.trans e⟩,h2⟩
 ·rcases oc c mc with ⟨z,mz,e,_⟩|⟨e,_⟩
  ·rw[e];exact(S.a1 z mz).1
  ·exact⟨fre hb e,fre hsb e⟩
 ·rcases oa x mx with ⟨z,mz,e⟩|e
  ·rw[e];exact S.a2 z mz
  ·exact⟨fre hb e,fre hsb e⟩
 ·unfold own
  simp only[z6,yI]at mm |-
  rcases mm with q|q|q
  ·exact .inr (.inl q)
  ·exact .inl q
  ·exact .inr (.inr (.inr (.inr (.inr (.inr q)))))
 ·unfold own at mm |-
  simp only[z6,yI,yb]at mm |-
  rcases mm with q|q|q|q|q|q|(⟨c,mc,rfl⟩|⟨c,mc,rfl⟩)|⟨x,mx,rfl⟩
  ·exact .inl (.inl q)
  ·exact .inl (.inr (.inl q))
  ·exact .inl (.inr (.inr (.inl q)))
  ·exact .inl (.inr (.inr (.inr (.inl q))))
  ·exact .inl (.inr (.inr (.inr (.inr (.inl q)))))
  ·exact .inl (.inr (.inr (.inr (.inr (.inr (.inl q))))))
  ·rcases oc c mc with ⟨z,mz,e,_⟩|⟨e,_⟩
   ·exact .inl (.inr (.inr (.inr (.inr (.inr (.inr (.inl (.inl ⟨z,mz,e.symm⟩))))))))
   ·exact .inr e
  ·rcases oc c mc with ⟨z,mz,_,e⟩|⟨_,e⟩
   ·exact .inl (.inr (.inr (.inr (.inr (.inr (.inr (.inl (.inr ⟨z,mz,e.symm⟩))))))))
   ·exact .inr e
  ·rcases oa x mx with ⟨z,mz,e⟩|e
   ·exact .inl (.inr (.inr (.inr (.inr (.inr (.inr (.inr ⟨z,mz,e.symm⟩)))))))
   ·exact .inr e
theorem uG{l:List Nat}:∀ {as:List La},(∀y∈as,y.pa≠l)->dR (as.map kyL) (.inr ⟨⟨l⟩⟩)=none
 | [],_=>rfl
 |y::r,h=>by
  rw[yF,bH (fun z=>h y (.head _) (by simpa [kyL] using z))];exact uG fun z m=>h z (.tail _ m)
theorem Ak{as:List La}{x:La}(h:∀y∈as,y.pa≠x.pa):e9 (as.map kyL) (.inr ⟨⟨x.pa⟩⟩) (.ref x.ls)=(as++[x]).map kyL:=by
 rw[nL _ (uG h),vx];rfl
abbrev rW(H:Hp)(W:Wd)(x:La):Hp:=upd (upd H x.ls (laL x)) W.d (.dK ((W.as++[x]).map kyL))
section
variable{cy:List (List Nat)}{m n:Nat}{H H':Hp}{W:Wd}(S:LS a cy m n H W){x:La}
include S
theorem LS.no_d{c:Acc}(mc:c∈W.cs):c.ob∉[W.d]/\c.bl∉[W.d]:=by
 obtain⟨dx,ho⟩:=(S.ca.ac c mc).ob;exact⟨fun z=>aU ho S.dd (by intro z;cases z) (zv.mp z),fun z=>aU (S.ca.ac c mc).ls S.dd (by intro z;cases z) (zv.mp z)⟩
theorem LS.ch_d:W.ch∉[W.d]:=by
 obtain⟨dx,ho⟩:=S.ca.ob;exact fun z=>aU ho S.dd (by intro z;cases z) (zv.mp z)
theorem LS.addC(hp:H x.ls=none):CAt a.aO a.aE (rW H W x) W.ch W.cd W.cs:=
 S.ca.keep (S:=[W.d]) ((Keep.refl.new hp).put (.head _)) S.ch_d (fun z=>S.a3.2.1 (zv.mp z)) fun c mc=>S.no_d mc
theorem LS.more(hx:∀y∈W.as,y.pa≠x.pa)(hp:H x.ls=none)(po:POk x.pa)(xf:0<=x.fi/\x.fi<=145816)(xc:x.cu=none)(xu:x.un=none){t:La}(mt:t∈W.as){n':List Nat}(ep:x.pa=t.pa++58::n')(xk:x.ki=t.ki){c:Acc}(c1:c.pa=x.pa)(ck:c.ki=L2.T x.ki)(c2:c.cu = .non)(c3:c.fi=x.fi)(c4:c.un=none)(c5:c.be=[])
 (f1:rW H W x c.ob=none) (f2:rW H W x c.bl=none) (J:CAt a.aO a.aE H' W.ch W.cd (fS W.cs t.pa (grw x.pa)++[c])) (kp:Keep (W.cd::W.cs.map (·.bl)) (rW H W x) H') (nT:NoT H') :
 LS a cy (m+1) n H' { W with as:=W.as++[x],cs:=fS W.cs t.pa (grw x.pa)++[c] }/\Keep (own W) H H'/\∀p∈own { W with as:=W.as++[x],cs:=fS W.cs t.pa (grw x.pa)++[c] },p∈own W\/H p=none:=by
 have pd:x.ls≠W.d:=fun z=>by rw[z,S.dd]at hp;cases hp
 have of1:∀ {p:Addr},rW H W x p=none->H p=none:=fun {p} e=>by
  have n1:p≠W.d:=fun z=>by rw[z]at e;unfold rW at e;rw[ad]at e;cases e
  unfold rW at e;rw[ah n1]at e;have n2:p≠x.ls:=fun z=>by rw[z,ad]at e;cases e
  rw[ah n2]at e;exact e
 have out:∀ {p:Addr},p≠W.cd->(∀c∈W.cs,p≠c.bl)->p∉W.cd::W.cs.map (·.bl):=fun {p} h1 h2 mm=>by
  rcases z6.mp mm with q|q
  ·exact h1 q
  ·obtain⟨c,mc,e⟩:=yb.mp q
   exact h2 c mc e.symm
 have fre:∀ {q:Addr} {o:HO},H q=some o->x.ls≠q:=fun e z=>by rw[z,e]at hp;cases hp
 have inl:∀ {y:La},y∈W.as->y∈W.as++[x]:=fun my=>vJ _ my;have hx1:rW H W x x.ls=some (laL x):=(ah pd).trans ad;have md:∀z∈fS W.cs t.pa (grw x.pa),∃y∈W.cs,z.ob=y.ob/\z.bl=y.bl/\z.be.length<=y.be.length+1:=fun z mz=>by
  obtain⟨y,my,e⟩:=eR mz;refine⟨y,my,?_⟩;rw[e];split
  ·exact⟨rfl,rfl,by show(y.be++[x.pa]).length<=_;rw[yk];exact z5 _⟩
  ·exact⟨rfl,rfl,ZV _⟩
 refine S.chg J ?_ (fun z mz=>?_) (kp _ _ ad (out (Ne.symm S.a3.2.1) fun c mc=>Ne.symm (aU (S.ca.ac c mc).ls S.dd))) (fun y my=>?_) ⟨?_,?_,fun y my=>?_,?_⟩ ?_ nT (fun z mz=>?_) (fun y my=>?_) (fun z mz=>⟨z,inl mz,rfl,rfl⟩) ?_
 ·refine(qr (fun c y my r=>?_) (S.cf.imp (S:=CF (W.as++[x])) fun _ _ _ _ r=>⟨r.pa,r.cu,r.ki,r.fi,r.un,fun z=>by obtain⟨y,my,e⟩:=r.be z;exact⟨y,inl my,e⟩⟩)).snoc ⟨c1,by rw[c2,xc];rfl,ck,c3,c4.trans xu.symm,fun z=>absurd c5 z⟩
  split
  ·rename_i e
   exact⟨r.pa,r.cu,r.ki,r.fi,r.un,fun _=>⟨x,xU _ (.head _),n',by rw[ep,<- e,r.pa]⟩⟩
  ·exact r
 ·rcases yI.mp mz with mz|mz
  ·obtain⟨y,my,_,_,e⟩:=md z mz
   exact xx e (YH (S.bl y my))
  ·rw[zv.mp mz,c5];exact xm _
 ·rcases yI.mp my with my|my
  ·have e:=S.ls y my
   exact kp _ _ ((ah (aU e S.dd)).trans ((ah (Ne.symm (fre e))).trans e)) (out (aU e S.ca.dc) fun c mc=>Ne.symm ((S.a1 c mc).2 y my))
  ·rw[zv.mp my]
   exact kp _ _ hx1 (out (fre S.ca.dc) fun c mc=>fre (S.ca.ac c mc).ls)
 ·rw[vx]
  exact eB S.ai.nd fun mm=>by obtain⟨y,my,e⟩:=yb.mp mm;exact hx y my e
 ·rw[yk];exact YH S.ai.len
 ·rcases yI.mp my with my|my
  ·exact S.ai.ok y my
  ·rw[zv.mp my]
   exact⟨po,xf,fun l e=>by rw[xc]at e;cases e⟩
 ·obtain⟨y,z,u,r,e,t1⟩:=S.ai.top
  exact⟨y,z,u,r++[x],by rw[e];rfl,t1⟩
 ·refine Keep.trans ((Keep.refl.new hp).put (.head _)) (kp.mono fun p mm=>?_)
  rcases z6.mp mm with q|q
  ·rw[q];exact .tail _ (.head _)
  ·exact .tail _ (.tail _ (vJ _ (vJ _ q)))
 ·rcases yI.mp mz with mz|mz
  ·obtain⟨y,my,e1,e2,_⟩:=md z mz
   exact .inl ⟨y,my,e2,e1⟩
  ·rw[zv.mp mz];exact .inr ⟨of1 f2,of1 f1⟩
 ·rcases yI.mp my with my|my
  ·exact .inl ⟨y,my,rfl⟩
  ·rw[zv.mp my];exact .inr hp
 ·rw[vx]
  exact eB S.nl fun mm=>by obtain⟨y,my,e⟩:=yb.mp mm;exact fre (S.ls y my) e.symm
end
def oV(as:List La)(l:List Nat)(t:Int):List La:=as.map fun z=>if z.pa=l then { z with un:=some t } else z
theorem nA{β:Type}{as:List La}{l:List Nat}{t:Int}(g:La->β)(h:∀z:La,g { z with un:=some t }=g z):(oV as l t).map g=as.map g:=by
 unfold oV;rw[uR];apply r6;intro z _;show g (if z.pa=l then _ else z)=g z;split
 ·exact h z
 ·rfl
theorem nB{as:List La}{l:List Nat}{t:Int}{z:La}(h:z∈oV as l t):∃y∈as,z=if y.pa=l then { y with un:=some t } else y:=by
 obtain⟨y,hy,e⟩:=yb.mp h;exact⟨y,hy,e.symm⟩
theorem wn{as:List La}(l:List Nat)(t:Int){y:La}(h:y∈as):∃z∈oV as l t,z.pa=y.pa/\z.cu=y.cu:=⟨_,xp h,by split <;> rfl,by split <;> rfl⟩
theorem wf{α β:Type}{R S:α->β->Prop}{f:α->α}{g:β->β}:∀ {xs:List α} {ys:List β},(∀x y,R x y->S (f x) (g y))->A2 R xs ys->A2 S (xs.map f) (ys.map g)
 |_,_,_,.nil=>.nil
 |_,_,k,.cons r h=>.cons (k _ _ r) (wf k h)
theorem GB{as:List La}(nd:(as.map (·.ls)).Nodup){x y:La}(mx:x∈as)(my:y∈as)(e:x.ls=y.ls):x=y:=by
 induction as with
 |nil=>cases mx
 |cons z r ih=>
  rw[yF]at nd;obtain⟨n1,n2⟩:=qI.mp nd;rcases z6.mp mx with rfl|mx1
  ·rcases z6.mp my with rfl|my1
   ·rfl
   ·exact absurd (by rw[e];exact xp (f:=(·.ls)) my1) n1
  ·rcases z6.mp my with rfl|my1
   ·exact absurd (by rw[<- e];exact xp (f:=(·.ls)) mx1) n1
   ·exact ih n2 mx1 my1
section
variable{cy:List (List Nat)}{m n:Nat}{H H':Hp}{W:Wd}(S:LS a cy m n H W){x:La}{t:Int}
include S
theorem LS.shutC(mx:x∈W.as):CAt a.aO a.aE (upd H x.ls (laL { x with un:=some t })) W.ch W.cd W.cs:=by
 have hx:=S.ls x mx;obtain⟨dx,ho⟩:=S.ca.ob;refine S.ca.keep (S:=[x.ls]) (Keep.refl.put (.head _)) (fun z=>aU ho hx (by intro z;cases z) (zv.mp z)) (fun z=>aU S.ca.dc hx (by intro z;cases z) (zv.mp z)) fun c mc=>?_;obtain⟨dx,ho⟩:=(S.ca.ac c mc).ob;exact⟨fun z=>aU ho hx (by intro z;cases z) (zv.mp z),fun z=>(S.a1 c mc).2 x mx (zv.mp z)⟩
theorem LS.less(mx:x∈W.as)(h58:58∈x.pa)(J:CAt a.aO a.aE H' W.ch W.cd (fS W.cs x.pa (shu t)))(kp:Keep (W.cs.map (·.ob)) (upd H x.ls (laL { x with un:=some t })) H')(nT:NoT H') :
 LS a cy (m+1) n H' { W with as:=oV W.as x.pa t,cs:=fS W.cs x.pa (shu t) }/\Keep (own W) H H'/\∀p∈own { W with as:=oV W.as x.pa t,cs:=fS W.cs x.pa (shu t) },p∈own W\/H p=none:=by
 have hx:=S.ls x mx;have out:∀ {p:Addr} {o:HO},H p=some o->AD o=0->p∉W.cs.map (·.ob):=fun {p o} e n mm=>by
  obtain⟨c,mc,rfl⟩:=yb.mp mm;obtain⟨dx,ho⟩:=(S.ca.ac c mc).ob;rw[ho]at e;cases e;cases n
 refine S.chg J (wf (fun c y r=>?_) S.cf) (fun z mz=>?_) ?_ (fun y my=>?_) ⟨?_,?_,fun y my=>?_,?_⟩ ?_ nT (fun z mz=>?_) (fun y my=>?_) (fun z mz=>wn _ _ mz) ?_
 ·have be:c.be≠[]->∃z∈oV W.as x.pa t,∃n,z.pa=y.pa++58::n:=fun z=>by
   obtain⟨z,mz,n,e⟩:=r.be z;obtain⟨z',m',e',_⟩:=wn x.pa t mz;exact⟨z',m',n,e'.trans e⟩
  by_cases e:c.pa=x.pa
  ·rw[if_pos e,if_pos (r.pa.symm.trans e)]
   exact⟨r.pa,r.cu,r.ki,r.fi,rfl,be⟩
  ·rw[if_neg e,if_neg fun z=>e (r.pa.trans z)]
   exact⟨r.pa,r.cu,r.ki,r.fi,r.un,be⟩
 ·obtain⟨y,my,e⟩:=eR mz
  rw[e];refine Nat.le_succ_of_le ?_;split <;> exact S.bl y my
 ·rw[nA kyL fun _=>rfl]
  exact kp _ _ ((ah (aU S.dd hx)).trans S.dd) (out S.dd rfl)
 ·obtain⟨z,mz,rfl⟩:=nB my
  by_cases e:z.pa=x.pa
  ·rw[if_pos e,z4 S.ai.nd mz mx e]
   exact kp _ _ ad (out hx rfl)
  ·rw[if_neg e]
   have hz:=S.ls z mz;exact kp _ _ ((ah fun q=>e (by rw[GB S.nl mz mx q])).trans hz) (out hz rfl)
 ·rw[nA _ fun _=>rfl];exact S.ai.nd
 ·unfold oV;rw[zB];exact Nat.le_succ_of_le S.ai.len
 ·obtain⟨z,mz,rfl⟩:=nB my
  have o:=S.ai.ok z mz;split <;> exact o
 ·obtain⟨y,z,u,r,e,t1,t2,t3,t4⟩:=S.ai.top
  have q:∀ {y:La},Tp y -> ¬ y.pa=x.pa:=fun t e=>jN t.nm (by rw[e];exact h58);refine⟨y,z,u,oV r x.pa t,?_,t1,t2,t3,t4⟩;rw[e];unfold oV;rw[yF,yF,yF,if_neg (q t1),if_neg (q t2),if_neg (q t3)]
 ·refine Keep.trans (Keep.refl.put (.tail _ (.tail _ (xU _ (xp mx))))) (kp.mono fun p mm=>.tail _ (.tail _ (vJ _ (xU _ mm))))
 ·obtain⟨y,my,e⟩:=eR mz
  rw[e];refine .inl ⟨y,my,?_⟩;split <;> exact⟨rfl,rfl⟩
 ·obtain⟨z,mz,rfl⟩:=nB my
  refine .inl ⟨z,mz,?_⟩;split <;> rfl
 ·rw[nA _ fun _=>rfl];exact S.nl
end
theorem zm{K:W.Frag}{H:Hp}{p q:Addr}{xs:List V}(hx:SqL K H p xs)(hy:SqL K H q []):EqR K H p q xs.isEmpty:=by
 cases xs with
 |nil=>exact EqR.lst (e:=fun _=>true) hx hy rfl fun j x y gx _=>by simp at gx
 |cons x r=>exact EqR.len hx hy (by simp)
def HN(as:List La)(x:La):Prop:=58∈x.pa/\x.un=none/\∀y∈as,∀n,y.pa≠x.pa++58::n
def xF(as:List La)(l:List Nat):List V:=((as.map kyL).map fun e=>kV e.1).filter (kA as fun y=>decide (y.pa.take (l.length+1)=l++[58]))
theorem BR{as:List La}(nd:(as.map (·.pa)).Nodup){l:List Nat}(h:(xF as l).isEmpty=true):∀y∈as,∀n,y.pa≠l++58::n:=fun y my n e=>by
 have z:L2.T y.pa∈xF as l:=qh.mpr ⟨yb.mpr ⟨_,xp my,rfl⟩,by
  rw[io nd my,e];exact decide_eq_true (by rw[show l++58::n=(l++[58])++n by simp,List.take_left' (by simp)])⟩
 rw[List.isEmpty_iff.mp h]at z;cases z
theorem B8(l:List Nat)(n:Nat):gL l none (some ((n:Int)+1))=l.take (n+1):=by
 have e:HT.sIx l.length l.length (some ((n:Int)+1))=min (n+1) l.length:=by unfold HT.sIx;simp;lia
 show(l.drop 0).take (HT.sIx l.length l.length (some ((n:Int)+1))-0)=_;rw[e,List.drop_zero,Nat.sub_zero,List.take_eq_take_iff];lia
def sp_vq(a:Adr):Sp:=sp4 fun x y z t H Q _=>asR x fun ch=>asR y fun d=>asI z fun _=>asI t fun day=>(0<=day/\day<=145816)/\∃(cy:List (List Nat)) (W:Wd) (m n:Nat),ch=W.ch/\d=W.d/\LS a cy m n H W/\m<50 /\
 ∀H' as cs,LS a cy (m+1) n H' { W with as:=as,cs:=cs }->Keep (own W) H H'->(∀p∈own { W with as:=as,cs:=cs },p∈own W\/H p=none)->Q .non H'
theorem mB(T:Txt K mg a):Fo P w K mg base "_law_changed" 8 (sp_vq a):=by
 refine T.n6.x4 fG fun x0 x1 x2 x3 fA cdv A outer s H Q E ND HU hr h=>?_;obtain⟨ch,rfl,h2⟩:=asR.inv h;obtain⟨d,rfl,h3⟩:=asR.inv h2;obtain⟨cell,rfl,h4⟩:=asI.inv h3;obtain⟨day,rfl,⟨d0,d1⟩,cy,W,m,n,rfl,rfl,S,m50,kQ⟩:=asI.inv h4;have sz:=szl;have hN:=S.nT
 skip
 have tops:∀i:Int,∃t∈W.as,Tp t/\atI ((W.as.map kyL).map fun e=>kV e.1) (i % 3)=some (L2.T t.pa):=fun i=>by
  obtain⟨x,y,z,r,e,tx,ty,tz,_⟩:=S.ai.top;rw[e];rcases(by lia:i % 3=0\/i % 3=1\/i % 3=2) with h|h|h <;> rw[h]
  ·exact⟨x,.head _,tx,aq (j:=0) rfl⟩
  ·exact⟨y,.tail _ (.head _),ty,aq (j:=1) rfl⟩
  ·exact⟨z,.tail _ (.tail _ (.head _)),tz,aq (j:=2) rfl⟩
 have c3:∃u,PSs (cL (XE P w) P w K mg base fG "_law_changed" (ae (top 92)) fA cdv A outer s H E) (Z1 3 (au (top 92))) u/\∀(t:La) (k:List Nat) (ps:Addr) (vs:List (List Nat)) (H1:Hp),t∈W.as->Tp t->atI ((W.as.map kyL).map fun e=>kV e.1) (cell % 3)=some (L2.T t.pa)->POk (t.pa++58::k)->58∉k->H1 ps=some (.lst (vs.map L2.T))->(∀l∈vs,∃x∈W.as,x.pa=l/\HN W.as x)->Same H H1->NoT H1->u { nx:=fun _ H'=>Q .non H',rt:=Q } [some (.ref W.ch),some (.ref W.d),some (.int cell),some (.int day),some (L2.T (t.pa++58::k)),some (.ref ps)] H1:=by
  refine⟨_,(ag (aW (L2.PW.pt (fO (aS (cM K HU) (av a9 (av aX (fv 2) aa) aa) aa) (d7 (dN (yw (Zp HU) (fv 4) (fv 1)) (by with_unfolding_all rfl))))) (af (gj (Zp HU) (fv 1) (fv 4) (bU (fa4 da (fv 3) da (aA K (bL (Zp HU) (fv 1) (aA K (b5 (nz rfl) rfl T.jy hG (fa1 (fv 1))) (av a9 (fv 2) aa)) (fun _ _=>rfl)) aa))) rfl)
   (ag (bd (bI (fv 0) T.a_ (j6 T) (hr.mono (by decide)) aD (fa3 (fv 4) da (fv 3)))))) (ag (aW (jq (aS (bV K HU) (fv 5) (bU (FA.pa cn)))) (af (aT 4 ND (aA K (fv 5) (av a9 (fv 2) (aH (bh K) rfl T.b6 bA (fa1 (fv 5))))))
   (af (vX (aH (vS rfl) rfl T.Bg v3 (fa2 (av aN (aA K (bL (Zp HU) (fv 1) (fv 4) (fun _ _=>rfl)) aa) aa) (fv 3))) (EC (bL (Zp HU) (fv 1) (fv 4) (fun _ _=>rfl)) aa Ar))
   (ag (bd (bI (fv 0) T.a_ (jk T) (hr.mono (by decide)) aD (fa2 (fv 4) (aA K (bL (Zp HU) (fv 1) (fv 4) (fun _ _=>rfl)) aa))))))) aL)))),fun t k ps vs H1 mt tt et po n58 hps hvs s1 n1=>?_⟩
  have S1:=S.same s1 n1;have lp:=po.len;have l1:=S.cf.len;have l2:=S.ai.len;have kQ1:∀G,Same H G->∀H' as cs,LS a cy (m+1) n H' { W with as:=as,cs:=cs }/\Keep (own W) G H'/\(∀p∈own { W with as:=as,cs:=cs },p∈own W\/G p=none)->Q .non H':=fun G sG H' as cs ⟨q1,q2,q3⟩=>kQ H' as cs q1 ((Keep.same sG).trans q2) fun p mp=>(q3 p mp).imp id fun e=>sG.free e;clear kQ;walk_at "rd";refine' C7 (fun key=>_) _
  rotate_left 1
  ·by_cases h3:¬ cell / 24 % 2=1
   ·exact itn h3 key
   ·refine itp (Decidable.of_not_not h3) ?_
    by_cases hx:∀y∈W.as,y.pa≠t.pa++58::k
    ·have g:=DGet.k (k:=.inr ⟨⟨t.pa++58::k⟩⟩) S1.dd
     rw[uG hx]at g;refine⟨W.d,none,rfl,g,itp rfl ⟨_,S1.dd,fun l hl=>?_⟩⟩;have s2:=s1.trans (aj (HO.lst ((W.as.map kyL).map fun e=>kV e.1)) hl);have n2:NoT (upd H1 l (HO.lst ((W.as.map kyL).map fun e=>kV e.1))):=az n1 rfl;have hl2:upd H1 l (HO.lst ((W.as.map kyL).map fun e=>kV e.1)) l=some (HO.lst ((W.as.map kyL).map fun e=>kV e.1)):=ad;generalize upd H1 l (HO.lst ((W.as.map kyL).map fun e=>kV e.1))=H2 at s2 n2 hl2 |-
     have S2:=S.same s2 n2;refine⟨_,_,.inl (SqL.of hl2),et,W.d,.ref t.ls,rfl,AcAt.get ⟨.inl S2.dd,S2.ls⟩ S.ai.nd mt,?_⟩;walk_at "rd";refine⟨_,_,.inl (SqL.of (S2.ls t mt)),aq (j:=3) rfl,by walk_at "om",fun p hp=>?_⟩
     let x:La:=⟨t.pa++58::k,none,day,none,t.ki,p⟩
     have pd:W.d≠p:=aC S2.dd hp;have ln:(W.as.map kyL).length<sizeLine:=by rw[zB];lia
     have dp:=DPut.k (k:=.inr ⟨⟨t.pa++58::k⟩⟩) (v:=.ref p) ((ah (o:=.lst [V.non,V.int day,V.non,L2.T t.ki]) pd).trans S2.dd) ln;rw[Ak (x:=x) hx]at dp;refine⟨W.d,_,rfl,dp,?_⟩;have J:=S2.addC (x:=x) hp;obtain⟨dx,ho⟩:=J.ob;obtain⟨c,mc,rc⟩:=yZ S.cf mt;refine⟨dx,_,ho,y_ _,az (az n2 rfl) rfl,⟨po.lo,by lia⟩,⟨d0,by lia⟩,t.pa,k,W.cd,W.cs,c,rfl,n58,po.pn,J,by lia,(fun c mc=>by have:=S.bl c mc;lia),zU (fun c mc e=>?_),mc,rc.pa,by rw[rc.un,tt.un],by rw[rc.fi,tt.fi];exact d0,fun c' H3 p1 pk p2 p3 p4 p5 p6 p7 J3 K3 N3=>?_⟩
     ·obtain⟨y,my,ry⟩:=yn S.cf mc
      exact hx y my (ry.pa.symm.trans e)
     ·exact kQ1 H2 s2 _ _ _ (S2.more (x:=x) hx hp po ⟨d0,d1⟩ rfl rfl mt rfl rfl p1 (pk.trans rc.ki) p2 p3 p4 p5 p6 p7 J3 K3 N3)
    ·obtain⟨y,my,e⟩:∃y∈W.as,y.pa=t.pa++58::k:=Classical.byContradiction fun z=>hx fun y my e=>z ⟨y,my,e⟩
     have g:=AcAt.get ⟨.inl S1.dd,S1.ls⟩ S1.ai.nd my;rw[e]at g;exact⟨W.d,_,rfl,g,itn (by intro z;cases z) key⟩
  refine⟨n1,xm _,fun p hp=>⟨_,zm (SqL.of ((ah (aC hps hp)).trans hps)) (SqL.of ad),H1,Gc.none (aj _ hp),?_⟩⟩;cases vs with
  |nil=>exact itn (by intro z;cases z) (kQ1 H1 s1 _ _ _ ⟨S1.le (ZV m) (z5 n),Keep.refl,fun p mp=>.inl mp⟩)
  |cons v0 vr=>
   generalize hv:v0::vr=vs at hvs hps;have lpos:0<(vs.map L2.T).length:=by rw[zB,<- hv];exact Nat.zero_lt_succ _
   have m0:=Ze cell (show((vs.map L2.T).length:Int)≠0 by lia);have m1:=Zl cell (show(0:Int)<(vs.map L2.T).length by lia);obtain⟨j,ej⟩:∃j:Nat,cell % (vs.map L2.T).length=j:=⟨(cell % (vs.map L2.T).length).toNat,by lia⟩;have jl:j<vs.length:=by rw[<- zB (f:=L2.T)];lia
   obtain⟨x,mx,ex,l58,xu,xn⟩:=hvs vs[j] (Yh jl);refine itp (by rw[<- hv];rfl) ⟨_,.inl (SqL.of hps),by lia,_,L2.T x.pa,.inl (SqL.of hps),?_,W.d,.ref x.ls,rfl,AcAt.get ⟨.inl S1.dd,S1.ls⟩ S1.ai.nd mx,?_⟩
   ·rw[ej,ex]
    exact aq (by rw[List.getElem?_map,List.getElem?_eq_getElem jl];rfl)
   walk_at "rd";refine⟨_,.int x.fi,.inl (SqL.of (S1.ls x mx)),aq (j:=1) rfl,?_⟩;walk_at "rd";have ok:=S.ai.ok x mx;have lx:=ok.1.len;obtain⟨t1,et,t0,t2⟩:∃t1,(if day > x.fi+1 then day else x.fi+1)=t1/\x.fi<t1/\t1<=146096:=⟨_,rfl,by split <;> lia,by split <;> lia⟩;rw[et];refine⟨W.d,.ref x.ls,rfl,AcAt.get ⟨.inl S1.dd,S1.ls⟩ S1.ai.nd mx,x.ls,_,2,2,rfl,rfl,S1.ls x mx,rfl,?_⟩;have J:=S1.shutC (t:=t1) mx;obtain⟨dx,ho⟩:=J.ob;obtain⟨c,mc,rc⟩:=yZ S.cf mx;have hd2:upd H1 x.ls (laL { x with un:=some t1 }) W.d=some (.dK (W.as.map kyL)):=(ah (aU S1.dd (S1.ls x mx))).trans S1.dd;refine⟨dx,_,ho,w4 _,W.d,.ref x.ls,rfl,.inl ⟨_,.inr ⟨⟨x.pa⟩⟩,.inl hd2,rfl,(AcAt.val (H:=H) (d:=W.d) S.ai.nd mx).symm⟩,?_⟩;walk_at "rd";refine⟨_,.int t1,.inl (SqL.of ad),aq (j:=2) rfl,az n1 rfl,⟨ok.1.lo,by lia⟩,⟨by lia,t2⟩,W.cd,W.cs,c,J,mc,rc.pa,ok.1.pn,by rw[rc.un,xu],by rw[rc.fi];exact t0,?_,fun H2 J2 K2 N2=>kQ1 H1 s1 _ _ _ (S1.less mx l58 J2 K2 N2)⟩;cases eb:c.be with
   |nil=>rfl
   |cons _ _=>obtain⟨y,my,n,e⟩:=rc.be (by rw[eb];intro z;cases z);exact absurd e (xn y my n)
 obtain⟨u3,hu3,c3⟩:=c3;have c2:∃u,PSs (cL (XE P w) P w K mg base fG "_law_changed" (ae (top 92)) fA cdv A outer s H E) (Z1 2 (au (top 92))) u/\∀(t:La) (k:List Nat) (ps:Addr) (vs:List (List Nat)) (H1:Hp),t∈W.as->Tp t->atI ((W.as.map kyL).map fun e=>kV e.1) (cell % 3)=some (L2.T t.pa)->POk (t.pa++58::k)->58∉k->H1 ps=some (.lst (vs.map L2.T))->vs.length<=50->(∀l∈vs,∃x∈W.as,x.pa=l/\58∈x.pa/\x.un=none)->Same H H1->NoT H1->u { nx:=fun _ H'=>Q .non H',rt:=Q } [some (.ref W.ch),some (.ref W.d),some (.int cell),some (.int day),some (L2.T (t.pa++58::k)),some (.ref ps)] H1:=by
  refine⟨_,(af (sh (i0:=5) ND rfl (Or.inl rfl) rfl (xs:=["_law_one"]) (fr:=["_law_accounts_here"]) (ks:=[1]) (by exact CompCells.one (x:="_law_one") rfl rfl (by decide +kernel) (fun _=>rfl) (fun _=>rfl) (bv rfl) (br rfl) rfl rfl (aK rfl) (aK (k:=fun y=>xt y _) rfl)) rfl (bw K (fv 5)) (fun _ _ _ _ _=>(aM (i:=0) (cc (l:=["_law_one","_law_accounts_here"]) (by decide)) rfl (Or.inr rfl))) (fun _ _ _ _ _=>(dv (jq (aS (cM K HU) (Da (bz rfl (cl:=_) (x:="_law_other") (xs:=["_law_other"]) (fr:=["_law_one"]) (ks:=[0]) (by walk_at "cq") rfl (iV (fv 1)) (fun _ _ _ _ _=>(aM (i:=0) (cc (l:=["_law_other","_law_one"]) (by decide)) rfl (Or.inl rfl))) (fun _ _ _ _ _=>(dv (aS (cM K HU) (cO oB (fv 0) eF (cU (av aN (aH (bh K) rfl T.b6 bA (fa1 (fv 1))) aa))) (av aN (fv 1) (aQ [58]))))) (fun _ _ _ _ _=>(fv 0)))) (bU (FA.pa cn)))))) (fun _ _ _ _ _=>(fv 0)))
   hu3),fun t k ps vs H1 mt tt et po n58 hps lv hvs s1 n1=>?_⟩
  have l2:=S.ai.len;have nd:=S.ai.nd;walk_at "rd";refine cmL ps (vs.map L2.T) (fun G=>Same H1 G/\NoT G) (fun D ys hD=>⟨aj _ hD,az n1 rfl⟩) (fun G c=>SqL.of (c.1 _ _ hps)) (kA W.as fun x=>(xF W.as x.pa).isEmpty) (fun v=>v) (fun R r=>r) (SqL.of hps) (by rw[zB];lia) (fun v mv G R c r=>?_) (fun v mv _ G R c r=>r) fun D hD=>?_
  ·obtain⟨l,ml,rfl⟩:=yb.mp mv
   obtain⟨x,mx,rfl,_⟩:=hvs l ml;rw[io nd mx]at r;have S2:=S.same (s1.trans c.1) c.2;walk_at "rd";refine⟨c.2,cmK W.d (W.as.map kyL) (kA W.as fun y=>decide (y.pa.take (x.pa.length+1)=x.pa++[58])) (fun v=>v) (fun R r=>r) (.inl S2.dd) (by rw[zB];lia) (fun v mv D ys o R hD nD r=>?_) (fun v mv _ D ys o R hD nD r=>r) fun D hD=>?_⟩
   ·obtain⟨e,me,rfl⟩:=yb.mp mv
    obtain⟨y,my,rfl⟩:=yb.mp me;change R (kA W.as _ (L2.T y.pa)) _ at r;rw[io nd my]at r;generalize upd (upd G W.d _) D _=G1 at r |-
    show lT _ [some (L2.T y.pa),some (L2.T x.pa)] G1 R;walk_at "rd";have lx:=(S.ai.ok x mx).1.len;have ly:=(S.ai.ok y my).1.len;refine⟨by lia,by lia,by lia,?_⟩;rw[show gL y.pa none (some ((x.pa.length:Int)+1))=y.pa.take (x.pa.length+1) from B8 _ _];exact r
   ·walk_at "rd"
    have s2:=aj (HO.lst ((xF W.as x.pa).map fun v=>v)) hD;have hD2:upd G D (HO.lst ((xF W.as x.pa).map fun v=>v)) D=some (HO.lst (xF W.as x.pa)):=by rw[ad,show ∀l:List V,l.map (fun v=>v)=l from fun l=>Y7 l]
    refine⟨xm _,fun p hp=>⟨_,zm (SqL.of ((ah (aC hD2 hp)).trans hD2)) (SqL.of ad),G,Gc.none (s2.trans (aj _ hp)),r⟩⟩
  ·rw[show ∀l:List V,l.map (fun v=>v)=l from fun l=>Y7 l,List.filter_map]
   refine c3 t k D _ _ mt tt et po n58 ad (fun l ml=>?_) (s1.trans (aj _ hD)) (az n1 rfl);obtain⟨ml,pl⟩:=qh.mp ml;obtain⟨x,mx,rfl,e1,e2⟩:=hvs l ml;exact⟨x,mx,rfl,e1,e2,BR nd ((io nd mx).symm.trans pl)⟩
 obtain⟨u2,hu2,c2⟩:=c2;clear c3 hu3;refine⟨_,(af (aT 4 ND (av aN (av aN (aA K (b5 (nz rfl) rfl T.jy hG (fa1 (fv 1))) (av a9 (fv 2) aa)) (aQ [58,110,101,119])) (aA K (aQ [97,98,99,100,101,102,103,104]) (av a9 (av aX (fv 2) aa) aa))))
  (af (jJ (jL (i0:=5) ND rfl (Or.inl rfl) rfl (cl:=_) (x:="_law_one") (xs:=["_law_one"]) (fr:=["_law_accounts_here"]) (ks:=[1]) (by walk_at "cq") rfl (iV (fv 1)) (fun _ _ _ _ _=>(aM (i:=0) (cc (l:=["_law_one","_law_accounts_here"]) (by decide)) rfl (Or.inl rfl))) (fun _ _ _ _ _=>(dv (L2.PW.pt (fO (jx D1 (aQ [58]) (fv 0) (by with_unfolding_all rfl)) (d7 (dN (nW (aA K (bL (Zp HU) (fv 1) (fv 0) (fun _ _=>rfl)) aa)))))))) (fun _ _ _ _ _=>(fv 0))))
  hu2)),?_⟩
 walk_at "rd";refine⟨_,S.dd,fun l hl=>?_⟩;have s1:=aj (HO.lst ((W.as.map kyL).map fun e=>kV e.1)) hl;have n1:NoT (upd H l (HO.lst ((W.as.map kyL).map fun e=>kV e.1))):=az hN rfl;have hl1:upd H l (HO.lst ((W.as.map kyL).map fun e=>kV e.1)) l=some (HO.lst ((W.as.map kyL).map fun e=>kV e.1)):=ad;generalize upd H l _=H1 at s1 n1 hl1 |-
 obtain⟨t,mt,tt,et⟩:=tops cell;obtain⟨c,mc,ec⟩:=wD (l:=AH) rfl (cell / 3);have c01:97<=c/\c<=104:=(show ∀x∈AH,97<=x/\x<=104 by decide) c mc;refine⟨_,_,.inl (SqL.of hl1),et,?_⟩;rw[show([97,98,99,100,101,102,103,104]:List Nat)=AH from rfl,ec];have lt:=(lD tt.nm).2.1;walk_at "rd";have ep:t.pa++[58,110,101,119]++[c]=t.pa++58::[110,101,119,c]:=by simp
 rw[ep];have nd:=S.ai.nd;have l2:=S.ai.len;have S1:=S.same s1 n1;refine⟨by lia,by lia,by rw[yk];show t.pa.length+4+1<=_;lia,Ad (cmK W.d (W.as.map kyL) (kA W.as fun x=>decide (58∈x.pa)&&decide (x.un=none)) (fun v=>v) (fun R r=>r) (.inl S1.dd) (by rw[zB];lia) (fun v mv D ys o R hD nD r=>?_) (fun v mv _ D ys o R hD nD r=>r) fun D hD=>?_)⟩
 ·obtain⟨e,me,rfl⟩:=yb.mp mv
  obtain⟨y,my,rfl⟩:=yb.mp me;change R (kA W.as _ (L2.T y.pa)) _ at r;rw[io nd my]at r;have ls:=S1.ls y my;have g1:upd (upd H1 W.d (.frz o (.dK (W.as.map kyL)))) D (.lst ys) W.d=some (.frz o (.dK (W.as.map kyL))):=(ah (Ne.symm nD)).trans ad;have g2:upd (upd H1 W.d (.frz o (.dK (W.as.map kyL)))) D (.lst ys) y.ls=some (laL y):=(ah (aC ls hD)).trans ((ah (aU ls S1.dd)).trans ls);generalize upd (upd H1 W.d _) D _=G1 at r g1 g2 |-
  show E1 _ _ [some (L2.T y.pa),some (.ref W.d)] G1 R;walk_at "rd";by_cases h58:58∈y.pa
  ·refine itp (decide_eq_true h58) ⟨W.d,.ref y.ls,rfl,qd nd my g1,?_⟩
   walk_at "rd";refine⟨_,_,.inl (SqL.of g2),aq (j:=2) rfl,?_⟩;rw[decide_eq_true h58,Yn]at r;cases eu:y.un <;> rw[eu]at r <;> exact r
  ·refine itn (fun z=>h58 (of_decide_eq_true z)) ?_
   rw[decide_eq_false h58,YK]at r;exact r
 ·rw[show ∀l:List V,l.map (fun v=>v)=l from fun l=>Y7 l,show(W.as.map kyL).map (fun e=>kV e.1)=(W.as.map (·.pa)).map L2.T by rw[uR,uR];rfl,List.filter_map]
  refine c2 t _ D _ _ mt tt et ?_ ?_ ad ?_ (fun l ml=>?_) (s1.trans (aj _ hD)) (az n1 rfl)
  ·refine POk.ext ?_ (POk.top tt.nm) (by rw[Bt (jN tt.nm)];exact(by decide:1<=5))
   unfold nm lie;simp only[List.all_cons,List.all_nil,vq,Z9,sT,decide_eq_true_eq];lia
  ·simp;lia
  ·exact xx (qZ _ _) (by rw[zB];lia)
  ·obtain⟨ml,pl⟩:=qh.mp ml
   obtain⟨x,mx,rfl⟩:=yb.mp ml;have q:=(io nd mx).symm.trans pl;rw[sT]at q;exact⟨x,mx,rfl,of_decide_eq_true q.1,of_decide_eq_true q.2⟩
end
open PySem L2 K19 K22
section
variable{P:Program}{w:World}{K:W.Frag}{mg:Str->Option Value}{base:Heap}{a:Adr}
open K3
theorem v8{α:Type}:∀l:List α,A2 (fun v t=>v=t) l l
 | []=>.nil
 |_::r=>.cons rfl (v8 r)
def FrO(H:Hp)(as:List La)(o:Option Int)(vs:List V)(t:V):Prop:=
 ((t = .non\/∃p,t = .ref p/\vs=[])/\∀v∈vs,∃q k dd l,v = .ref q/\H q=some (.tup (k :: .int dd::l))/\(0<=dd/\dd<=146096)/\lts o dd) \/
  ∃p M n rs q k tt,t = .ref p/\SeAt H p M n rs/\vs=[.ref q]/\M % 12=11/\H q=some (.tup [.int k,.int (FD (M+1)-1),L2.T [99,97,114,114,121],.ref tt,.non])/\rs.length<=60/\∀r∈rs,(∃z∈as,z.pa=r.pa)/\gcB as r.pa=false
def sp_By:Sp:=sp4 fun x y z t H Q _=>NoT H/\asR x fun d=>asR y fun f=>∃(as:List La) (o:Option Int) (vs:List V),z=cl o/\AcAt H d as/\(as.map (·.pa)).Nodup/\H f=some (.lst vs)/\vs.length<=1/\FrO H as o vs t/\∀H',Same H H'->NoT H'->Q (.bl true) H'
theorem oU(T:Txt K mg a):Fo P w K mg base "_law_fresh" 5 sp_By:=by
 refine T.qC.x4 ["_law_accounts_here","_law_fresh_here","_law_before","_law_told","_law_day_here"] fun x0 x1 x2 x3 fA cdv A outer s H Q E ND HU hr h=>?_;obtain⟨hN,h1⟩:=h;obtain⟨d,rfl,h2⟩:=asR.inv h1;obtain⟨f,rfl,as,o,vs,rfl,AC,nd,hf,lv,hc,k⟩:=asR.inv h2;have sz:=szl;refine⟨_,(af (aW (jq (L2.PW.pt (fI (dN (nW (fv 3))) (eD (aS (cM K HU) (fv 1) (bU (FA.pa cn))))))) (ag (aJ (cY (cM K HU) (bz rfl (cl:=_) (x:="_law_one") (xs:=["_law_one"]) (fr:=["_law_before"]) (ks:=[2]) (by walk_at "cq") rfl (bw K (fv 1)) (fun _ _ _ _ _=>(aM (i:=0) (cc (l:=["_law_one","_law_before"]) (by decide)) rfl (Or.inl rfl))) (fun _ _ _ _ _=>(dv (L2.PW.pt (fO (dN (cJ (fv 1))) (d7 (aS d_ (aI (jr T) hr pO (fa1 (aA K (fv 0) aa))) (fv 1))))))) (fun _ _ _ _ _=>(fv 0))) (bU (FA.pa cn)) (dY _)))) aL)
  (af (aT 4 ND (aA K (aI (dE T) hr aD (fa1 (aA K (fv 3) aa))) aa))
  (af (aW (L2.PW.pt (fI (aS (bV K HU) (aH (bh K) rfl T.b6 bA (fa1 (fv 1))) aa) (fI (aS (bV K HU) (av a9 (aA K (fv 3) aa) aa) aa) (fI (aS (bV K HU) (aA K (aA K (fv 1) aa) aa) (fv 4)) (eD (aS (bV K HU) (aA K (aA K (fv 1) aa) aa) (aQ [99,97,114,114,121]))))))) (ag (aJ iH)) aL)
  (ag (aJ (cY (cM K HU) (bz rfl (cl:=_) (x:="_law_row") (xs:=["_law_row"]) (fr:=["_law_accounts_here"]) (ks:=[0]) (by walk_at "cq") rfl (rB K (aA K (fv 3) aa)) (fun _ _ _ _ _=>(aM (i:=0) (cc (l:=["_law_row","_law_accounts_here"]) (by decide)) rfl (Or.inl rfl))) (fun _ _ _ _ _=>(dv (jq (jx (vN K) (aA K (bL (Zp HU) (fv 1) (aA K (fv 0) aa) (fun _ _=>rfl)) aa) (bG (fa2 (aQ [103,97,105,110]) (aQ [99,111,115,116]))) (by with_unfolding_all rfl))))) (fun _ _ _ _ _=>(fv 0))) (bU (FA.pa cn)) (dY _))))))),?_⟩
 walk_at "rd";refine⟨hN,?_⟩;have ne:∀ {p:Addr},H p=none->EqR K (upd H p (HO.lst [])) f p vs.isEmpty:=fun {p} hp=>zm (SqL.of ((ah (aC hf hp)).trans hf)) (SqL.of ad);rcases hc with ⟨ht,hv⟩|⟨p,M,n,rs,q,kk,tt,rfl,hS,rfl,M11,hq,lr,hr⟩
 ·refine' C7 (fun key=>_) _
  rotate_left 1
  ·rcases ht with e|⟨p,e,e2⟩
   ·exact itp e key
   ·exact itn (by rw[e];intro z;cases z) ⟨xm _,fun p' hp'=>⟨_,ne hp',H,Gc.none (aj _ hp'),itp (by rw[e2];rfl) key⟩⟩
  refine jn ?_;walk_at "rd";refine⟨⟨vs,SqL.of hf⟩,ceA (S:=fun _ _ (_:V)=>True) (fun _ _ _ _ _ _=>trivial) f vs vs (fun v t=>v=t) (fun _=>false) id hf hN (v8 vs) (by lia) (fun v b mb rb G zs N1 N0 sG nG hz n1 n0=>?_) fun D ws G hD sG nG gD aG=>?_⟩
  ·subst rb
   obtain⟨q,k,dd,l,rfl,hq,hd,hl⟩:=hv _ mb;have hq:=sG _ _ hq;obtain⟨z1,rfl⟩:=ex1 hz;walk_at "rd";refine⟨⟨[_],rfl,rfl⟩,?_⟩;cases o with
   |none=>exact itp rfl (n0 rfl _ (Same.refl _) nG)
   |some z=>
    refine itn (by intro z;cases z) ⟨_,_,.inr (SqT.of hq),aq (j:=1) rfl,nG,hd,fun G1 s1 g1=>?_⟩;have hl:z<MO dd:=hl;show gLe (.int (MO dd)) (.int z) G1 _;walk_at "rd";exact itn (by lia) (n0 rfl _ s1 g1)
  ·rw[ZB.mpr (fun _ _=>y9)]at aG
   cases aG;walk_at "rd";exact⟨xm _,fun p hp=>⟨_,zm (SqL.of ((ah (aC gD hp)).trans gD)) (SqL.of ad),k _ (sG.trans (aj _ hp)) (az nG rfl)⟩⟩
 ·obtain⟨tr,ws,e1,e2,e3⟩:=id hS
  refine itn (by intro z;cases z) ⟨xm _,fun p1 hp1=>⟨_,ne hp1,H,Gc.none (aj _ hp1),itn (by intro z;cases z) ?_⟩⟩;refine⟨_,_,.inr (SqT.of e1),aq (j:=0) rfl,hN,fun p2 H1 s1 n1 hp2=>?_⟩;refine⟨_,_,.inr (SqT.of hp2),aq (j:=1) rfl,_,.inl (SqL.of (s1 _ _ hf)),itp rfl ⟨_,_,.inr (SqT.of (s1 _ _ e1)),aq (j:=0) rfl,?_⟩⟩;walk_at "rd";refine itp M11 ⟨_,_,.inl (SqL.of (s1 _ _ hf)),aq (j:=0) rfl,?_⟩;walk_at "rd";refine⟨_,_,.inr (SqT.of (s1 _ _ hq)),aq (j:=1) rfl,?_⟩;walk_at "rd";refine⟨_,_,.inl (SqL.of (s1 _ _ hf)),aq (j:=0) rfl,?_⟩;walk_at "rd";refine⟨_,_,.inr (SqT.of (s1 _ _ hq)),aq (j:=2) rfl,?_⟩;walk_at "rd";refine DO ?_;walk_at "rd";have lw:=e3.len;refine⟨_,_,.inr (SqT.of (s1 _ _ e1)),aq (j:=2) rfl,tr,rfl,⟨ws,SqT.of (s1 _ _ e2)⟩,Fv (S:=fun _ _ (_:Row)=>True) (fun _ _ _ _ _ _=>trivial) tr ws rs (RwAt H1) (fun _=>false) id (s1 _ _ e2) n1 (bB s1 e3) (by lia) (fun v b mb rb G zs N1 N0 sG nG hz n1 n0=>?_) fun D ws G hD sG nG gD aG=>?_⟩
  ·obtain⟨q1,rfl,hq1⟩:=rb
   have hq1:=sG _ _ hq1;obtain⟨z1,rfl⟩:=ex1 hz;obtain⟨⟨y,my,ey⟩,hg⟩:=hr b mb;have AG:AcAt G d as:=⟨AC.dc.imp (fun e=>sG _ _ (s1 _ _ e)) fun⟨o,e⟩=>⟨o,sG _ _ (s1 _ _ e)⟩,fun y my=>sG _ _ (s1 _ _ (AC.ls y my))⟩;walk_at "rd";refine⟨⟨[_],rfl,rfl⟩,nG,_,_,.inr (SqT.of hq1),aq (j:=0) rfl,d,.ref y.ls,rfl,by rw[<- ey];exact AG.get nd my,?_⟩;walk_at "rd";refine⟨_,_,.inl (SqL.of (AG.ls y my)),aq (j:=3) rfl,by walk_at "om",fun p1 hp1=>⟨_,.inr (SqT.of ad),rfl,rfl,G,Gc.none (aj _ hp1),?_⟩⟩;rw[DR nd my ey,hg];exact itn (by decide) (n0 rfl _ (Same.refl _) nG)
  ·rw[ZB.mpr (fun _ _=>y9)]at aG
   cases aG;walk_at "rd";exact⟨xm _,fun p hp=>⟨_,zm (SqL.of ((ah (aC gD hp)).trans gD)) (SqL.of ad),k _ (s1.trans (sG.trans (aj _ hp))) (az nG rfl)⟩⟩
end
open PySem L2 K19 K22
section
variable{P:Program}{w:World}{K:W.Frag}{mg:Str->Option Value}{base:Heap}{a:Adr}
open K3
theorem SeOk.eq{bk:List Bk}{s:Se}(h:SeOk bk s){out:List Pt}(po:out.Perm ((dk (rsd (FD (s.m+1)-1) bk)).map (·.1)))(oo:mS out):s.n=mny (FD (s.m+1)-1) bk/\s.rs=res (rsd (FD (s.m+1)-1) bk) out:=by
 obtain⟨out',p',o',e⟩:=h.rs;exact⟨h.n,by rw[e,pX (p'.trans po.symm) o' oo]⟩
theorem LS.tup{cy:List (List Nat)}{m n:Nat}{H:Hp}{W:Wd}(S:LS a cy m n H W){p:Addr}:(H p=none\/∃l,H p=some (.tup l))->p∉own W:=fun hp q=>by
 have z:∀ {q:Addr} {o:HO},H q=some o->(∀l,o ≠ .tup l)->p=q->False:=fun {q o} e n z=>by
  rcases hp with h|⟨l,h⟩
  ·rw[z,e]at h;cases h
  ·rw[z,e]at h;cases h;exact n _ rfl
 simp only[own,z6,yI,yb]at q;rcases q with q|q|q|q|q|q|(⟨c,mc,q⟩|⟨c,mc,q⟩)|⟨c,mc,q⟩
 ·exact z S.ca.dc (fun _ z=>nomatch z) q
 ·exact z S.dd (fun _ z=>nomatch z) q
 ·exact z S.ja.ls (fun _ z=>nomatch z) q
 ·exact z S.ja.dc (fun _ z=>nomatch z) q
 ·exact z S.ga (fun _ z=>nomatch z) q
 ·exact z S.sa.ls (fun _ z=>nomatch z) q
 ·exact z (S.ca.ac c mc).ls (fun _ z=>nomatch z) q.symm
 ·obtain⟨dx,ho⟩:=(S.ca.ac c mc).ob
  exact z ho (fun _ z=>nomatch z) q.symm
 ·exact z (S.ls c mc) (fun _ z=>nomatch z) q.symm
structure LI(a:Adr)(cy:List (List Nat))(m n:Nat)(H0 H:Hp)(W:Wd)(hd pc ps ev:Addr)(es ts:List V):Prop where
 ls:LS a cy m n H W
 s0:Same H0 H
 fr:∀p∈ps::own W,H0 p=none
 hh:H hd=some (.lst [.ref W.ch,.ref W.g,.ref W.j,.ref W.sl])
 hc:H pc=some (.lst (cy.map L2.T))
 he:H ev=some (.lst es)
 hp:H ps=some (.lst ts)
 n1:hd∉ps::own W
 n2:ev∉ps::own W
 n3:ps∉own W
 n4:pc∉ps::own W
section
variable{cy:List (List Nat)}{m n m' n':Nat}{H0 H H':Hp}{W W':Wd}{hd pc ps ev:Addr}{es ts:List V}(L:LI a cy m n H0 H W hd pc ps ev es ts)
include L
theorem LI.go(ls:LS a cy m' n' H' W')(kp:Keep (own W) H H')(sub:∀p∈own W',p∈own W\/H p=none)(e:(W'.ch=W.ch/\W'.g=W.g)/\W'.j=W.j/\W'.sl=W.sl):LI a cy m' n' H0 H' W' hd pc ps ev es ts:=by
 have nin:∀ {p:Addr} {o:HO},H p=some o->p∉own W->p∉own W':=fun e n q=>(sub _ q).elim n fun z=>by rw[z]at e;cases e
 have ni:∀ {p:Addr} {o:HO},H p=some o->p∉ps::own W->p∉ps::own W':=fun e n q=>by
  rcases z6.mp q with q|q
  ·exact n (q ▸ .head _)
  ·exact nin e (fun z=>n (.tail _ z)) q
 have no:∀ {p:Addr},p∉ps::own W->p∉own W:=fun n z=>n (.tail _ z);refine⟨ls,fun p o e=>kp _ _ (L.s0 _ _ e) (fun q=>by rw[L.fr p (.tail _ q)]at e;cases e),fun p q=>?_,by rw[e.1.1,e.1.2,e.2.1,e.2.2];exact kp _ _ L.hh (no L.n1),kp _ _ L.hc (no L.n4),kp _ _ L.he (no L.n2),kp _ _ L.hp L.n3,ni L.hh L.n1,ni L.he L.n2,nin L.hp L.n3,ni L.hc L.n4⟩;rcases z6.mp q with q|q
 ·exact L.fr p (q ▸ .head _)
 ·rcases sub p q with q|q
  ·exact L.fr p (.tail _ q)
  ·exact L.s0.free q
theorem LI.same(s:Same H H')(n':NoT H'):LI a cy m n H0 H' W hd pc ps ev es ts:=L.go (L.ls.same s n') (Keep.same s) (fun _ q=>.inl q) ⟨⟨rfl,rfl⟩,rfl,rfl⟩
theorem LI.has{p:Addr}(hp:H p=none):p∉ps::own W:=fun q=>by
 rcases z6.mp q with q|q
 ·rw[q,L.hp]at hp;cases hp
 ·exact L.ls.tup (.inl hp) q
theorem LI.now{nw:Addr}{vs:List V}(h:H nw=some (.lst vs))(nn:nw∉ps::own W):LI a cy m n H0 H W hd pc ps nw vs ts:={ L with he:=h,n2:=nn }
theorem LI.app(v:V):LI a cy m n H0 (upd H ps (.lst (ts++[v]))) W hd pc ps ev es (ts++[v]):=by
 have ne:∀ {p:Addr},p∉ps::own W->p≠ps:=fun n z=>n (z ▸ .head _);have ns:∀ {p:Addr},p≠ps->p∉[ps]:=fun n z=>n (zv.mp z);refine⟨L.ls.keep (S:=[ps]) (Keep.refl.put (.head _)) (az L.ls.nT rfl) (fun e=>ns (aU e L.hp)) (fun e=>ns (aU e L.hp)) (fun p q=>ns fun z=>L.n3 (z ▸ q)),fun p o e=>(ah fun z=>by rw[z,L.fr ps (.head _)]at e;cases e).trans (L.s0 _ _ e),L.fr,(ah (ne L.n1)).trans L.hh,(ah (ne L.n4)).trans L.hc,(ah (ne L.n2)).trans L.he,ad,L.n1,L.n2,L.n3,L.n4⟩
end
theorem vL{H:Hp}{p q:Addr}{xs:List V}(hp:H p=some (.lst xs))(hq:H q=some (.lst xs))(h:∀x∈xs,∃q,x = .ref q):EqR K H p q true:=by
 have:=EqR.lst (K:=K) (e:=fun _=>true) (SqL.of hp) (SqL.of hq) rfl (fun j x y gx gy=>by
  rw[gx]at gy;cases gy;obtain⟨q,rfl⟩:=h x (yO gx);exact .same)
 rwa [show(Zi xs.length).all (fun _=>true)=true by simp]at this
theorem LS.rf{cy:List (List Nat)}{m n:Nat}{H:Hp}{W:Wd}(S:LS a cy m n H W):(∀x∈W.bs,∃q,x = .ref q)/\∀x∈W.ss,∃q,x = .ref q:=⟨fun x mx=>by
 obtain⟨b,_,q,_,_,_,_,e,_⟩:=yn S.bk mx;exact⟨q,e⟩,fun x mx=>by
 obtain⟨s,_,q,e,_⟩:=yn S.sv mx;exact⟨q,e⟩⟩
theorem pq(x:V):xt (zI "every") [(zI "told_seals",x)]=none:=by rw[aR (by decide +kernel)];rfl
noncomputable abbrev tK:List Stmt:=GE ((au de).getD 5 (.Pass ⟨0,0,0,0⟩))
abbrev sgL(sc d pc hd ev ps:Addr)(x6 x7 x8 x9 x10 x11:Option V):St:=[some (.ref sc),some (.ref d),some (.ref pc),some (.ref hd),some (.ref ev),some (.ref ps),x6,x7,x8,x9,x10,x11]
theorem b9(T:Txt K mg a){cdv:Value}{A:Around}{outer:List Env}{s:Shared}{H:Hp}{E:XK}(hr:Room 13 (A.deeper (ZO "law" (ae de) s.heap.objs.size a.eX cdv))):∃u,PSs (cL (XE P w) P w K mg base nJ "law" (ae de) a.eX cdv A outer s H E) (Z1 9 tK) u /\
 ∀(D:fF) sc pc hd ev ps x6 x7 x8 x9 (tn:Int) x11 cy m n H0 G W,(tn=1\/tn = -1)->LI a cy m n H0 G W hd pc ps ev W.bs W.ss->m<=18->n<=10->cy.length=3->(∀G' x11,LI a cy m n H0 G' W hd pc ps ev W.bs W.ss->D.nx (sgL sc W.d pc hd ev ps x6 x7 x8 x9 (some (.int tn)) x11) G') ->
  u D (sgL sc W.d pc hd ev ps x6 x7 x8 x9 (some (.int tn)) x11) G:=by
 have sz:=szl;have ND:=jA.nd;have HU:=cv hr
 skip
 refine⟨_,(af (dS (by passes_own) rfl (bw K (uC K (fv 5) (cU (fv 10)))) (aM (i:=11) ND rfl (Or.inl rfl)) (ag (aW (L2.PW.pt (fI (aS (bV K HU) (fv 11) (aI (oh T) hr aD (fa2 (fv 4) (aA K (fv 11) aa)))) (eD (dN (Do (aI (zh T) hr aD (fa3 (aA K (fv 3) aa) (aA K (fv 3) aa) (fv 11)))))))) (ag (aJ iH)) aL)))
  (ag (aW (aS (bV K HU) (gz (aA K (fv 3) aa) T.g8 (iN T) (hr.mono (by decide)) aD) (fv 5)) (ag (aJ iH)) aL))),fun D sc pc hd ev ps x6 x7 x8 x9 tn x11 cy m n H0 G W ht L m18 n10 lc k=>?_⟩
 walk_at "rd";refine gP ?_;walk_at "rd";refine⟨tn,rfl,ht,ps,W.ss,rfl,SqL.of L.hp,fun p hp=>?_⟩;have Lp:=L.same (aj (HO.lst (stp tn W.ss)) hp) (az L.ls.nT rfl);have gp:upd G p (HO.lst (stp tn W.ss)) p=some (.lst (stp tn W.ss)):=ad;generalize upd G p (HO.lst (stp tn W.ss))=G1 at Lp gp |-
 have JB1:=fun {G':Hp} (L':LI a cy m n H0 G' W hd pc ps ev W.bs W.ss)=>L'.ls.jb m18 lc;refine gU (xs:=stp tn W.ss) (SqL.of gp) (gQ (fun i σ' G'=>Same G1 G'/\NoT G'/\∃x11,σ'=sgL sc W.d pc hd ev ps x6 x7 x8 x9 (some (.int tn)) x11) ⟨Same.refl _,Lp.ls.nT,_,rfl⟩ (fun i σ' G' _ h=>SqL.of (h.1 _ _ gp)) ?_ ?_)
 ·rintro i x σ' G' hx ⟨sm,nG,x11,rfl⟩
  have LG:=Lp.same sm nG;obtain⟨s,ms,t,rfl,st⟩:=yn LG.ls.sv (C9 (yO hx));have ok:=(LG.ls.sk s ms).1;have jb:=JB1 LG;obtain⟨tr,ws,e1,e2,e3⟩:=id st;walk_at "rd";refine⟨_,_,.inr (SqT.of e1),aq (j:=0) rfl,nG,W.bs,W.bk,LG.he,LG.ls.bk,jb.l1,jb.l2,jb.l3 _,fun out t2 H2 po oo ht2 st2 s2 n2=>?_⟩;obtain⟨q1,q2⟩:=ok.eq po oo;have LH:=LG.same s2 n2;refine⟨_,D8 (st.same s2) st2,?_⟩;rw[<- q1,<- q2,s_];have jb2:=JB1 LH;rw[show(true ^^ true)=false from rfl];walk_at "rd";refine⟨_,_,.inl (SqL.of LH.hh),aq (j:=0) rfl,_,_,.inl (SqL.of LH.hh),aq (j:=2) rfl,n2,s.m,s.n,s.rs,_,_,_,_,W.bk,st.same s2,ok.m0,jb2,fun out2 p2 o2=>?_⟩;obtain⟨r1,r2⟩:=ok.eq p2 o2;rw[<- r1,<- r2,s_];exact itp rfl ⟨sm.trans s2,n2,_,rfl⟩
 ·rintro σ' G' ⟨sm,nG,x11,rfl⟩
  have LG:=Lp.same sm nG;obtain⟨ds,hs⟩:=LG.ls.sa.ob;walk_at "rd";refine⟨_,_,.inl (SqL.of LG.hh),aq (j:=3) rfl,?_⟩;walk_at "rd";refine⟨_,_,hs,pq _,nG,W.sb,W.ss,LG.ls.sa,fun q hq=>?_⟩;have Lq:=LG.same (aj (HO.lst W.ss) hq) (az nG rfl);walk_at "rd";exact⟨_,vL ad Lq.hp LG.ls.rf.2,itn (by decide) (k _ _ Lq)⟩
end
open PySem L2 K19 K22
section
variable{P:Program}{w:World}{K:W.Frag}{mg:Str->Option Value}{base:Heap}{a:Adr}
open K3
theorem b7(T:Txt K mg a){cdv:Value}{A:Around}{outer:List Env}{s:Shared}{H:Hp}{E:XK}(hr:Room 13 (A.deeper (ZO "law" (ae de) s.heap.objs.size a.eX cdv))):∃u,PSs (cL (XE P w) P w K mg base nJ "law" (ae de) a.eX cdv A outer s H E) (Z1 7 tK) u /\
 ∀(D:fF) sc pc hd ev ps (k:Int) x7 x8 x9 x10 x11 (ns:List Int) cy m n H0 G W,SqL K H0 sc (ns.map V.int)->0<=k->LI a cy m n H0 G W hd pc ps ev W.bs W.ss->m<=18->n<=10->cy.length=3->(∀G' x10 x11,LI a cy m n H0 G' W hd pc ps ev W.bs W.ss->D.nx (sgL sc W.d pc hd ev ps (some (.int k)) x7 x8 x9 x10 x11) G') ->
  u D (sgL sc W.d pc hd ev ps (some (.int k)) x7 x8 x9 x10 x11) G:=by
 have sz:=szl;have ND:=jA.nd;have HU:=cv hr
 skip
 obtain⟨u9,hu9,c9⟩:=@b9 P w K mg base a T (cdv:=cdv) (A:=A) (outer:=outer) (s:=s) (H:=H) (E:=E) hr;refine⟨_,(af (aT 10 ND (av eC aa (av eT aa (av a9 (av aX (aI (a6 T) hr aD (fa2 (fv 0) (fv 6))) aa) aa))))
  (af (aW (L2.PW.pt (fO (aS (cM K HU) (fv 10) aa) (d7 (aS (bV K HU) (gz (aA K (fv 3) aa) T.g8 (iN T) (hr.mono (by decide)) aD) (fv 5))))) (ag (aJ iH)) aL)
  hu9)),fun D sc pc hd ev ps k x7 x8 x9 x10 x11 ns cy m n H0 G W hS k0 L m18 n10 lc kk=>?_⟩
 walk_at "rd";refine⟨ns,hS.same L.s0,k0,fun i _=>?_⟩;have ht:1-2*(i / 5 % 2)=1\/1-2*(i / 5 % 2) = -1:=by lia
 generalize 1-2*(i / 5 % 2)=tn at ht |-
 have go:∀G',Same G G'->NoT G'->u9 D (sgL sc W.d pc hd ev ps (some (.int k)) x7 x8 x9 (some (.int tn)) x11) G':=fun G' s n'=>c9 D sc pc hd ev ps _ _ _ _ tn _ cy m n H0 G' W ht (L.same s n') m18 n10 lc fun G2 x11 L2=>kk G2 _ x11 L2;by_cases h1:tn=1
 ·obtain⟨ds,hs⟩:=L.ls.sa.ob
  refine itp h1 ⟨_,_,.inl (SqL.of L.hh),aq (j:=3) rfl,?_⟩;walk_at "rd";exact⟨_,_,hs,pq _,L.ls.nT,W.sb,W.ss,L.ls.sa,fun q hq=>⟨_,vL ad (L.same (aj _ hq) (az L.ls.nT rfl)).hp L.ls.rf.2,itn (by decide) (go _ (aj _ hq) (az L.ls.nT rfl))⟩⟩
 ·exact itn h1 (go G (Same.refl _) L.ls.nT)
def TgO(G:Hp)(W:Wd)(o:Option Int)(tv:V)(ts:List V):Prop:=(tv = .non/\W.o=o/\W.ss=ts)\/∃t M n rs,tv = .ref t/\SeAt G t M n rs/\W.o=some M/\(o=none\/o=some (M-1))/\W.ss=ts++[.ref t]
theorem AB(es fs:List V):gW (es++fs) none (some (es.length:Int))=es/\gW (es++fs) (some (es.length:Int)) none=fs:=by
 refine⟨by rw[uv _ (by lia),YQ,List.take_left' rfl],?_⟩;unfold gW;rw[HT.sIx_nat,HT.sIx_none,Nat.min_eq_left (by rw[yk];lia),List.drop_left' rfl,yk,Nat.add_sub_cancel_left,sf]
theorem FrO.same{H H':Hp}{as:List La}{o:Option Int}{vs:List V}{t:V}(h:FrO H as o vs t)(s:Same H H'):FrO H' as o vs t:=by
 rcases h with ⟨h1,h2⟩|⟨p,M,n,rs,q,k,tt,e,st,e1,e2,e3,e4⟩
 ·exact .inl ⟨h1,fun v mv=>by obtain⟨q,k,dd,l,e,e1,e2⟩:=h2 v mv;exact⟨q,k,dd,l,e,s _ _ e1,e2⟩⟩
 ·exact .inr ⟨p,M,n,rs,q,k,tt,e,st.same s,e1,e2,s _ _ e3,e4⟩
theorem b4(T:Txt K mg a){cdv:Value}{A:Around}{outer:List Env}{s:Shared}{H:Hp}{E:XK}(hr:Room 13 (A.deeper (ZO "law" (ae de) s.heap.objs.size a.eX cdv))):∃u,PSs (cL (XE P w) P w K mg base nJ "law" (ae de) a.eX cdv A outer s H E) (Z1 4 tK) u /\
 ∀(D:fF) sc pc hd ev ps nw (k:Int) (o:Option Int) (tv:V) x10 x11 (ns:List Int) cy m n H0 G W es fs ts,SqL K H0 sc (ns.map V.int)->0<=k->LI a cy m n H0 G W hd pc ps ev es ts->G nw=some (.lst W.bs)->nw∉ps::own W->W.bs=es++fs->fs.length<=1->FrO G W.as o fs tv->TgO G W o tv ts->m<=18->n<=10->cy.length=3->(∀G' ev x9 x10 x11,LI a cy m n H0 G' W hd pc ps ev W.bs W.ss->D.nx (sgL sc W.d pc hd ev ps (some (.int k)) (some (cl o)) (some tv) x9 x10 x11) G') ->
  u D (sgL sc W.d pc hd ev ps (some (.int k)) (some (cl o)) (some tv) (some (.ref nw)) x10 x11) G:=by
 have sz:=szl;have ND:=jA.nd;have HU:=cv hr
 skip
 obtain⟨u7,hu7,c7⟩:=@b7 P w K mg base a T (cdv:=cdv) (A:=A) (outer:=outer) (s:=s) (H:=H) (E:=E) hr;refine⟨_,(af (aW (L2.PW.pt (fI (aS (bV K HU) (cO (iF K) (fv 9) eF (cU (aH (bh K) rfl T.b6 bA (fa1 (fv 4))))) (fv 4)) (eD (bK (bx (aI (oU T) hr aD (fa4 (fv 1) (cO (iF K) (fv 9) (cU (aH (bh K) rfl T.b6 bA (fa1 (fv 4)))) eF) (fv 7) (fv 8)))))))) (ag (aJ iH)) aL)
  (af (aT 4 ND (fv 9))
  (af (aW (dN (cJ (fv 8))) (af (bd (eA K Zh ZX ZY eh (fv 5) (fa1 (fv 8))))
  (ag (aW (L2.PW.pt (fI (L2.PW.pt (fO (dN (cJ (fv 7))) (d7 (aS (bV K HU) (aA K (fv 8) aa) (av aN (fv 7) aa))))) (eD (aS (bV K HU) (gz (aA K (fv 3) aa) T.bW (cQ T) (hr.mono (by decide)) aD) (aA K (fv 8) aa))))) (ag (aJ iH)) aL))) (ag (aW (aS (bV K HU) (gz (aA K (fv 3) aa) T.bW (cQ T) (hr.mono (by decide)) aD) (fv 7)) (ag (aJ iH)) aL)))
  hu7))),fun D sc pc hd ev ps nw k o tv x10 x11 ns cy m n H0 G W es fs ts hS k0 L hnw nnw eb lf fo tg m18 n10 lc kk=>?_⟩
 have go:∀G',LI a cy m n H0 G' W hd pc ps nw W.bs W.ss->u7 D (sgL sc W.d pc hd nw ps (some (.int k)) (some (cl o)) (some tv) (some (.ref nw)) x10 x11) G':=fun G' L'=>c7 D sc pc hd nw ps k _ _ _ _ _ ns cy m n H0 G' W hS k0 L' m18 n10 lc fun G2 x10 x11 L2=>kk G2 nw _ x10 x11 L2;have l1:=L.ls.sn;walk_at "rd";refine⟨_,.inl (SqL.of L.he),nw,W.bs,rfl,SqL.of hnw,fun p hp=>?_⟩;have c1:gW W.bs none (some (es.length:Int))=es:=by rw[eb];exact(AB es fs).1
 have c2:gW W.bs (some (es.length:Int)) none=fs:=by rw[eb];exact(AB es fs).2
 rw[c1];have s1:=aj (HO.lst es) hp;have g1:upd G p (HO.lst es) p=some (HO.lst es):=ad;have L1:=L.same s1 (az L.ls.nT rfl);generalize upd G p (HO.lst es)=G1 at s1 g1 L1 |-
 refine⟨_,vL g1 L1.he fun x mx=>L.ls.rf.1 x (by rw[eb];exact vJ _ mx),?_⟩;rw[show(true ^^ true)=false from rfl];walk_at "rd";refine⟨_,.inl (SqL.of L1.he),nw,W.bs,rfl,SqL.of (s1 _ _ hnw),fun p2 hp2=>?_⟩;rw[c2];have s2:=s1.trans (aj (HO.lst fs) hp2);have g2:upd G1 p2 (HO.lst fs) p2=some (HO.lst fs):=ad;have L2:=L.same s2 (az L1.ls.nT rfl);generalize upd G1 p2 (HO.lst fs)=G2 at s2 g2 L2 |-
 refine⟨L2.ls.nT,W.as,o,fs,rfl,⟨.inl L2.ls.dd,L2.ls.ls⟩,L2.ls.ai.nd,g2,lf,fo.same s2,fun G3 s3 n3=>?_⟩;have s03:=s2.trans s3;have L3:=L.same s03 n3;rcases tg with ⟨rfl,eo,es'⟩|⟨t,M,nn,rs,rfl,st,eo,ho,es'⟩
 ·refine itp rfl ⟨_,_,.inl (SqL.of L3.hh),aq (j:=1) rfl,?_⟩
  walk_at "rd";refine⟨_,_,L3.ls.ga,gH _,n3,_,_,L3.ls.ga,?_⟩;have fin:=go G3 (by rw[es'];exact L3.now (s03 _ _ hnw) nnw);rw[eo];cases o with
  |none=>exact fin
  |some z=>
   show jF K true (.int z) (.int z) G3 _;walk_at "rd"
   first|exact fin|exact itp rfl fin
 ·refine itn (by intro z;cases z) ⟨.inl ⟨_,SqL.of L3.hp⟩,ps,ts,_,rfl,rfl,L3.hp,by rw[es',yk]at l1;lia,?_⟩
  have L4:=(L3.app (.ref t)).now (nw:=nw) (vs:=W.bs) ((ah fun z=>nnw (by rw[z];exact .head _)).trans (s03 _ _ hnw)) nnw;obtain⟨tr,ws,e1,_⟩:=st;have e3:=s03 _ _ e1;have e4:=(ah (o:=HO.lst (ts++[V.ref t])) (aU e3 L3.hp)).trans e3;rw[<- es']at L4 e4 |-
  have fin:=go _ L4;generalize upd G3 ps (HO.lst W.ss)=G4 at L4 e4 fin |-
  refine' C7 (fun key=>_) _
  rotate_left 1
  ·rcases ho with h|h
   ·exact itp (by rw[h];rfl) key
   ·refine itn (by rw[h];intro z;cases z) ⟨_,_,.inr (SqT.of e4),aq (j:=0) rfl,?_⟩
    have ec:cl o = .int (M-1):=by rw[h];rfl
    rw[ec]at key |-
    show yf (.int (M-1)) (.int 1) G4 _;walk_at "rd";exact itp (by lia) key
  refine⟨_,_,.inl (SqL.of L4.hh),aq (j:=1) rfl,?_⟩;walk_at "rd";refine⟨_,_,L4.ls.ga,gH _,L4.ls.nT,_,_,L4.ls.ga,_,_,.inr (SqT.of e4),aq (j:=0) rfl,?_⟩;rw[show cl W.o = .int M by rw[eo];rfl];walk_at "rd"
  first|exact fin|exact itp rfl fin
end
open PySem L2 K19 K22
section
variable{P:Program}{w:World}{K:W.Frag}{mg:Str->Option Value}{base:Heap}{a:Adr}
open K3
theorem TgO.same{G G':Hp}{W:Wd}{o:Option Int}{tv:V}{ts:List V}(h:TgO G W o tv ts)(s:Same G G'):TgO G' W o tv ts:=by
 rcases h with h|⟨t,M,n,rs,e,st,e1⟩
 ·exact .inl h
 ·exact .inr ⟨t,M,n,rs,e,st.same s,e1⟩
theorem SeOk.rows{bk:List Bk}{s:Se}(h:SeOk bk s){as:List La}{cy:List (List Nat)}(bo:BsOk as cy bk)(la:as.length<=18)(lc:cy.length=3):s.rs.length<=60/\∀r∈s.rs,∃z∈as,z.pa=r.pa:=by
 obtain⟨out,po,_,e⟩:=h.rs;rw[e];refine⟨xx (kK _ _) ?_,fun r mr=>?_⟩
 ·rw[po.length_eq,zB]
  exact xx (bo.few la lc) (by decide)
 ·obtain⟨r0,m0,e⟩:=(iG _).2.1 _ (po.mem_iff.mp (hZ mr).1)
  obtain⟨z,mz,ez⟩:=yb.mp (bo.row r0 m0).1;exact⟨z,mz,ez.trans (Prod.mk.inj e).1.symm⟩
theorem b1(T:Txt K mg a){cdv:Value}{A:Around}{outer:List Env}{s:Shared}{H:Hp}{E:XK}(hr:Room 13 (A.deeper (ZO "law" (ae de) s.heap.objs.size a.eX cdv))):∃u,PSs (cL (XE P w) P w K mg base nJ "law" (ae de) a.eX cdv A outer s H E) (Z1 1 tK) u /\
 ∀(D:fF) sc pc hd ev ps (k:Int) x7 x8 x9 x10 x11 (ns:List Int) cy m n H0 G W,SqL K H0 sc (ns.map V.int)->0<=k->LI a cy m n H0 G W hd pc ps ev W.bs W.ss->m<=18->n<10->cy.length=3->(∀l∈cy,cur l=true)->(∀G' W' ev x7 x8 x9 x10 x11,LI a cy m (n+1) H0 G' W' hd pc ps ev W'.bs W'.ss->W'.d=W.d->D.nx (sgL sc W.d pc hd ev ps (some (.int k)) x7 x8 x9 x10 x11) G') ->
  u D (sgL sc W.d pc hd ev ps (some (.int k)) x7 x8 x9 x10 x11) G:=by
 have sz:=szl;have ND:=jA.nd;have HU:=cv hr
 skip
 obtain⟨u4,hu4,c4⟩:=@b4 P w K mg base a T (cdv:=cdv) (A:=A) (outer:=outer) (s:=s) (H:=H) (E:=E) hr;refine⟨_,(af (aT 7 ND (gz (aA K (fv 3) aa) T.bW (cQ T) (hr.mono (by decide)) aD))
  (af (aT 8 ND (aI (oF T) hr aD (fa5 (fv 3) (fv 1) (fv 0) (fv 6) (fv 2))))
  (af (aT 9 ND (gz (aA K (fv 3) aa) T.bc (gZ T) (hr.mono (by decide)) aD))
  hu4))),fun D sc pc hd ev ps k x7 x8 x9 x10 x11 ns cy m n H0 G W hS k0 L m18 n10 lc ccy kk=>?_⟩
 have now:∀(H1:Hp) (W':Wd) (tv:V) (fs:List V),LI a cy m (n+1) H0 H1 W' hd pc ps ev W.bs W.ss->W'.d=W.d->W'.bs=W.bs++fs->fs.length<=1->FrO H1 W'.as W.o fs tv->TgO H1 W' W.o tv W.ss ->
  ∃xs v,(SqL K H1 hd xs\/SqT K H1 hd xs)/\atI xs 2=some v/\tT a.aP (zI "every") v H1 fun x=>NoT H1/\asR x fun p=>∃b u bs kvs,JAt a.aP H1 p b u bs kvs/\∀(q:Addr),H1 q=none->u4 D (sgL sc W.d pc hd ev ps (some (.int k)) (some (cl W.o)) (some tv) (some (.ref q)) x10 x11) (upd H1 q (HO.lst bs)):=fun H1 W' tv fs L' ed eb lf fo tg=>by
  obtain⟨dj,hj⟩:=L'.ls.ja.ob;refine⟨_,.ref W'.j,.inl (SqL.of L'.hh),aq (j:=2) rfl,?_⟩;refine⟨dj,_,hj,sd _ _,L'.ls.nT,_,_,_,_,L'.ls.ja,fun nw hnw=>?_⟩;have Ln:=L'.same (aj (HO.lst W'.bs) hnw) (az L'.ls.nT rfl);rw[<- ed];exact c4 D sc pc hd ev ps nw k W.o tv x10 x11 ns cy m (n+1) H0 _ W' W.bs fs W.ss hS k0 Ln ad (L'.has hnw) eb lf (fo.same (aj _ hnw)) (tg.same (aj _ hnw)) m18 (by lia) lc fun G' ev' x9 x10 x11 L2=>by rw[ed];exact kk G' W' ev' _ _ _ _ _ L2 ed
 walk_at "rd";refine⟨_,.ref W.g,.inl (SqL.of L.hh),aq (j:=1) rfl,?_⟩;walk_at "rd";refine⟨_,_,L.ls.ga,gH _,L.ls.nT,_,_,L.ls.ga,ns,cy,W,m,n,k0,rfl,L.hh,hS.same L.s0,L.hc,lc,ccy,L.ls,m18,n10,fun H1 s1 n1=>?_,fun H1 q x kvs M=>?_,fun H1 M t se bs bk C=>?_⟩
 ·have L1:=L.same s1 n1
  exact now H1 W .non [] { L1 with ls:=L1.ls.le (z5 m) (ZV n) } rfl (u6 _).symm (xm _) (.inl ⟨.inl rfl,fun _ z=>nomatch z⟩) (.inl ⟨rfl,rfl,rfl⟩)
 ·refine now H1 { W with bs:=W.bs++[.ref q],bk:=W.bk++[x],kvs:=kvs } .non [.ref q] (L.go M.ls (M.kp.mono fun p mp=>?_) (fun p mp=>.inl mp) ⟨⟨rfl,rfl⟩,rfl,rfl⟩) rfl rfl (z5 _) (.inl ⟨.inl rfl,fun v mv=>?_⟩) (.inl ⟨rfl,rfl,rfl⟩)
  ·rcases z6.mp mp with e|e
   ·rw[e];exact .tail _ (.tail _ (.head _))
   ·rw[zv.mp e];exact .tail _ (.tail _ (.tail _ (.head _)))
  ·obtain⟨t,nt,un,e⟩:=M.hq
   exact⟨q,_,x.d,_,zv.mp mv,e,M.dy,M.lt⟩
 ·have L1:=L.go C.ls C.kp (fun p mp=>.inl mp) ⟨⟨rfl,rfl⟩,rfl,rfl⟩
  have ok:SeOk bk se:=(C.ls.sk se (xU _ (.head _))).1;have tg:TgO H1 { W with bs:=bs,bk:=bk,o:=some M,ss:=W.ss++[.ref t],se:=W.se++[se] } W.o (.ref t) W.ss:=.inr ⟨t,M,se.n,se.rs,rfl,C.st,rfl,C.mo,rfl⟩;rcases C.cr with e|⟨q,kk',tt,e,e1,e2,e3⟩
  ·exact now H1 _ (.ref t) [] L1 rfl (by rw[u6];exact e) (xm _) (.inl ⟨.inr ⟨t,rfl,rfl⟩,fun _ z=>nomatch z⟩) tg
  ·obtain⟨lr,mr⟩:=ok.rows C.ls.bo (xx C.ls.ai.len m18) lc
   exact now H1 _ (.ref t) [.ref q] L1 rfl e (z5 _) (.inr ⟨t,M,se.n,se.rs,q,kk',tt,rfl,C.st,rfl,e1,e2,lr,fun r hr=>⟨mr r hr,e3 r hr⟩⟩) tg
end
open PySem L2 K19 K22
section
variable{P:Program}{w:World}{K:W.Frag}{mg:Str->Option Value}{base:Heap}{a:Adr}
open K3
theorem b0(T:Txt K mg a){cdv:Value}{A:Around}{outer:List Env}{s:Shared}{H:Hp}{E:XK}(hr:Room 13 (A.deeper (ZO "law" (ae de) s.heap.objs.size a.eX cdv))):∃u,PSs (cL (XE P w) P w K mg base nJ "law" (ae de) a.eX cdv A outer s H E) tK u /\
 ∀(D:fF) sc pc hd ev ps (k:Int) x7 x8 x9 x10 x11 (ns:List Int) cy m n H0 G W,SqL K H0 sc (ns.map V.int)->0<=k->LI a cy m n H0 G W hd pc ps ev W.bs W.ss->m<18->n<10->cy.length=3->(∀l∈cy,cur l=true)->(∀G' W' ev x7 x8 x9 x10 x11,LI a cy (m+1) (n+1) H0 G' W' hd pc ps ev W'.bs W'.ss->W'.d=W.d->D.nx (sgL sc W.d pc hd ev ps (some (.int k)) x7 x8 x9 x10 x11) G') ->
  u D (sgL sc W.d pc hd ev ps (some (.int k)) x7 x8 x9 x10 x11) G:=by
 have sz:=szl;have ND:=jA.nd;have HU:=cv hr
 skip
 obtain⟨u1,hu1,c1⟩:=@b1 P w K mg base a T (cdv:=cdv) (A:=A) (outer:=outer) (s:=s) (H:=H) (E:=E) hr;refine⟨_,(af (aW (aS (cM K HU) (av a9 (av aX (aI (a6 T) hr aD (fa2 (fv 0) (fv 6))) aa) aa) aa) (ag (bd (aI (mB T) hr aD (fa4 (aA K (fv 3) aa) (fv 1) (av aX (aI (a6 T) hr aD (fa2 (fv 0) (fv 6))) aa) (aI (lQ T) hr aD (fa2 (fv 0) (av aN (fv 6) aa))))))) aL)
  hu1),fun D sc pc hd ev ps k x7 x8 x9 x10 x11 ns cy m n H0 G W hS k0 L m18 n10 lc ccy kk=>?_⟩
 have go:∀G' as cs,LI a cy (m+1) n H0 G' { W with as:=as,cs:=cs } hd pc ps ev W.bs W.ss->u1 D (sgL sc W.d pc hd ev ps (some (.int k)) x7 x8 x9 x10 x11) G':=fun G' as cs L'=>c1 D sc pc hd ev ps k x7 x8 x9 x10 x11 ns cy (m+1) n H0 G' { W with as:=as,cs:=cs } hS k0 L' m18 n10 lc ccy fun G2 W2 ev2 x7 x8 x9 x10 x11 L2 ed=>kk G2 W2 ev2 x7 x8 x9 x10 x11 L2 ed;have hSG:=hS.same L.s0;walk_at "rd";refine⟨ns,hSG,k0,fun i _=>?_⟩;by_cases h:i / 5 % 6=1
 ·refine itp h ⟨_,.ref W.ch,.inl (SqL.of L.hh),aq (j:=0) rfl,ns,hSG,k0,fun j _=>⟨ns,hSG,by lia,fun day d0 d1=>⟨⟨d0,d1⟩,cy,W,m,n,rfl,rfl,L.ls,by lia,fun H1 as cs S1 kp sub=>go H1 as cs (L.go S1 kp sub ⟨⟨rfl,rfl⟩,rfl,rfl⟩)⟩⟩⟩
 ·exact itn h (go G W.as W.cs { L with ls:=L.ls.le (ZV m) (z5 n) })
theorem xK{ta:TA}{g:TG}{tb:TS}{D:fF}{σ:St}{H:Hp}(h:ta σ H fun vs H1=>∃i j c:Int,vs=[.int i,.int j,.int c]/\(0<=i/\i<1000000 /\ -1000000<=j/\j<1000000/\1<=c/\c<1000000)/\FE (u0 i c (rsz i j c)) g tb D σ H1):o4 (Bu ta) g tb D σ H:=h
def sp_law(K:W.Frag):Sp:=sp1 fun x H Q _=>asR x fun p=>NoT H/\∃ns:List Int,SqL K H p (ns.map V.int)/\ns.length<=63/\∀H',Q (.bl true) H'
theorem FF(T:Txt K mg a){fd:FuncData}(FL:Fun K "law" "law" de a.eX fd):hV P w K mg base (XE P w) 14 a.eX fd ["_law_script"] (sp_law K):=by
 refine FL.okX jA (fun vs H Q E h=>sp1.len h) (fun cdv A outer s H vs Q E hr h=>?_);obtain⟨x0,rfl,h⟩:=sp1.inv h
 try dsimp only[sp_law,sp1]at h
 have ND:=jA.nd;have HU:=cv hr;obtain⟨sc,rfl,hN,ns,hS,hl,k⟩:=asR.inv h;have sz:=szl
 skip
 obtain⟨ub,hub,cb⟩:=@b0 P w K mg base a T (cdv:=cdv) (A:=A) (outer:=outer) (s:=s) (H:=H) (E:=E) hr;have c5:∃u,PSs (cL (XE P w) P w K mg base nJ "law" (ae de) a.eX cdv A outer s H E) (Z1 5 (au de)) u/\∀pc hd ev ps cy G W,LI a cy 8 0 H G W hd pc ps ev W.bs W.ss->cy.length=3->(∀l∈cy,cur l=true)->u { nx:=fun _ H'=>Q .non H',rt:=Q } (sgL sc W.d pc hd ev ps none none none none none none) G:=by
  refine⟨_,(af (dS (by passes_own) rfl (vU rfl T.iQ (fa3 aa (aH (BJ rfl) rfl T.DT zi (fa2 (aH (bh K) rfl T.b6 bA (fa1 (fv 0))) aa)) aa)) (aM (i:=6) ND rfl (Or.inl rfl)) hub)
   (ag (aJ iH))),fun pc hd ev ps cy G W L lc ccy=>?_⟩
  walk_at "rd";refine xK ?_;walk_at "rd";refine⟨_,.inl (hS.same L.s0),?_⟩;rw[zB];obtain⟨j,ej,j1⟩:∃j:Int,(if 38<(ns.length:Int) then 38 else (ns.length:Int))=j/\0<=j/\j<=38:=⟨_,rfl,by split <;> lia⟩;rw[ej];refine⟨8,j,3,⟨rfl,rfl,rfl⟩,⟨by decide,by decide,by lia,by lia,by decide,by decide⟩,?_⟩;have hr9:rsz 8 j 3<=10:=by unfold rsz;split <;> lia
  generalize rsz 8 j 3=n at hr9 |-
  refine vf (lo:=8) (c:=3) (n:=n) (fun i σ' G'=>∃W' ev x6 x7 x8 x9 x10 x11,LI a cy (8+i) i H G' W' hd pc ps ev W'.bs W'.ss/\W'.d=W.d/\σ'=sgL sc W.d pc hd ev ps x6 x7 x8 x9 x10 x11) ⟨W,ev,_,_,_,_,_,_,L,rfl,rfl⟩ ?_ ?_
  ·clear L
   rintro i σ' G' hi ⟨W',ev,x6,x7,x8,x9,x10,x11,L,ed,rfl⟩;walk_at "rd";rw[<- ed];exact cb _ sc pc hd ev ps (8+(i:Int)*3) x7 x8 x9 x10 x11 ns cy (8+i) i H G' W' hS (by lia) L (by lia) (by lia) lc ccy fun G2 W2 ev2 x7 x8 x9 x10 x11 L2 ed2=>⟨W2,ev2,_,_,_,_,_,_,L2,ed2,rfl⟩
  ·rintro σ' G' ⟨W',ev,x6,x7,x8,x9,x10,x11,L,ed,rfl⟩
   exact k _
 obtain⟨u5,hu5,c5⟩:=c5;have c3:∃u,PSs (cL (XE P w) P w K mg base nJ "law" (ae de) a.eX cdv A outer s H E) (Z1 3 (au de)) u/\∀pc hd cy G W,LS a cy 8 0 G W->Same H G->(∀p∈own W,H p=none)->G hd=some (.lst [.ref W.ch,.ref W.g,.ref W.j,.ref W.sl])->G pc=some (.lst (cy.map L2.T))->hd∉own W->pc∉own W->W.bs=[]->W.ss=[]->cy.length=3->(∀l∈cy,cur l=true)->u { nx:=fun _ H'=>Q .non H',rt:=Q } [some (.ref sc),some (.ref W.d),some (.ref pc),some (.ref hd),none,none,none,none,none,none,none,none] G:=by
  refine⟨_,(af (aT 4 ND (bU (FA.pa cn)))
   (af (aT 5 ND (bU (FA.pa cn)))
   hu5)),fun pc hd cy G W S s0 fr hh hc nh nc eb es lc ccy=>?_⟩
  walk_at "rd";refine⟨xm _,fun ev he=>⟨xm _,fun ps hp=>?_⟩⟩;have s1:=aj (HO.lst []) he;have s2:=aj (HO.lst []) hp;have n1:=az (o:=HO.lst []) (p:=ev) S.nT rfl;have S1:=S.same s1 n1;have g1:upd G ev (HO.lst []) ev=some (HO.lst []):=ad;have no:∀ {p:Addr} {o:HO},upd G ev (HO.lst []) p=some o->p∉own W->p∉ps::own W:=fun e n q=>by
   rcases z6.mp q with q|q
   ·exact aC e hp q
   ·exact n q
  refine c5 pc hd ev ps cy _ W ⟨S1.same s2 (az n1 rfl),(s0.trans s1).trans s2,fun p q=>?_,s2 _ _ (s1 _ _ hh),s2 _ _ (s1 _ _ hc),by rw[eb];exact s2 _ _ g1,by rw[es];exact ad,no (s1 _ _ hh) nh,no g1 (S.tup (.inl he)),S1.tup (.inl hp),no (s1 _ _ hc) nc⟩ lc ccy;rcases z6.mp q with q|q
  ·rw[q];exact(s0.trans s1).free hp
  ·exact fr p q
 obtain⟨u3,hu3,c3⟩:=c3;refine⟨_,(af (aT 1 ND (aI (lm T) hr aD (fa1 (fv 0))))
  (af (aT 2 ND (aI (fK T) hr aD (fa1 (aI (a6 T) hr aD (fa2 (fv 0) aa)))))
  (af (aT 3 ND (bU (fa4 (aI (oS T) hr aD (fa1 (fv 1))) (qW T.Ck (lG T) (hr.mono (by decide)) rfl T.Er aD) (qW T.uz (je T) (hr.mono (by decide)) rfl T.yB aD) (qW T.zE (kf T) (hr.mono (by decide)) rfl T.C0 aD))))
  hu3))),?_⟩
 walk_at "rd";refine⟨hN,ns,hS,fun d as H1 s1 N1 fd hd1 AC A8 nlA=>⟨ns,hS.same s1,fun _ _=>⟨N1,fun pc H2 cy s2 N2 fpc hpc lc ccy _=>?_⟩⟩⟩;have hd2:=s2 _ _ hd1;have AC2:AcAt H2 d as:=⟨.inl hd2,fun x mx=>s2 _ _ (AC.ls x mx)⟩;refine⟨N2,as,hd2,AC2,A8,fun ch cd cs H3 ca cf fc fch fcd s3 N3 g gx hg hgx ne=>?_⟩;refine⟨gx,ad,?_⟩;have k4:Keep [] H3 (upd (upd (upd H3 gx (HO.own g)) g (HO.ins a.a8 gx [])) g (cZ a.a8 gx V.non)):=fE hg hgx (o:=HO.own g) (o':=HO.ins a.a8 gx []) (Keep.refl.put (.head _));have N4:NoT (upd (upd (upd H3 gx (HO.own g)) g (HO.ins a.a8 gx [])) g (cZ a.a8 gx V.non)):=az (az (az N3 rfl) rfl) rfl;have gg:upd (upd (upd H3 gx (HO.own g)) g (HO.ins a.a8 gx [])) g (cZ a.a8 gx V.non) g=some (cZ a.a8 gx V.non):=ad;generalize upd (upd (upd H3 gx (HO.own g)) g (HO.ins a.a8 gx [])) g _=H4 at k4 N4 gg |-
 intro y dy hy hdy ny;refine⟨az (az N4 rfl) rfl,dy,ad,fun b u H5 fb fu J5 kp5 N5=>?_⟩;have k5:=fE hy hdy kp5;intro sl ds hsl hds nsl;refine⟨az (az N5 rfl) rfl,ds,ad,fun sb H6 fs J6 kp6 N6=>⟨by walk_at "om",fun hd hhd=>?_⟩⟩;have k6:=fE hsl hds kp6;have s34:Same H3 H4:=fun p o e=>k4 _ _ e yj;have s45:Same H4 H5:=fun p o e=>k5 _ _ e yj;have s56:Same H5 H6:=fun p o e=>k6 _ _ e yj;have s36:=s34.trans (s45.trans s56);have fs5:H5 sb=none:=dP fs;have fb3:H3 b=none:=s34.free (dP fb);have fu3:H3 u=none:=s34.free (dP fu);have fs3:H3 sb=none:=(s34.trans s45).free fs5;have fr3:∀ {p:Addr},H3 p=none->H p=none:=fun e=>(s1.trans (s2.trans s3)).free e;have S:LS a cy 8 0 H6 ⟨ch,cd,g,gx,y,b,u,d,sl,sb,as,cs,none,[],[],[],[],[]⟩:=by
  refine⟨ca.same s36,cf,fun c mc=>(fc c mc).2.2,s36 _ _ (s3 _ _ hd2),fun x mx=>s36 _ _ (s3 _ _ (AC2.ls x mx)),A8.I,(s45.trans s56) _ _ gg,(fun z e=>nomatch e),J5.keep (S:=[]) (Keep.same s56) yj yj yj,.nil,⟨xm _,(fun _ q=>nomatch q),fun _ q=>nomatch q⟩,(fun i x e=>by simp at e),xm _,xm _,J6,.nil,(fun _ q=>nomatch q),xm _,N6,fun c mc=>⟨⟨aC (ca.ac c mc).ls fb3,aC (ca.ac c mc).ls fs3⟩,fun x mx=>aU (ca.ac c mc).ls (s3 _ _ (AC2.ls x mx)) (D5 _ _)⟩,fun x mx=>⟨aC (s3 _ _ (AC2.ls x mx)) fb3,aC (s3 _ _ (AC2.ls x mx)) fs3⟩,⟨aC ca.dc fu3,Ne.symm (aC hd2 fcd),aC (s3 _ _ hd2) fu3⟩,Ne.symm (aC J5.ls fs5),nlA.1⟩
 have hc6:=s36 _ _ (s3 _ _ hpc);refine c3 pc hd cy _ _ (S.same (aj _ hhd) (az N6 rfl)) ((s1.trans (s2.trans (s3.trans s36))).trans (aj _ hhd)) (fun p q=>?_) ad ((aj _ hhd) _ _ hc6) (S.tup (.inl hhd)) (fun q=>?_) rfl rfl lc ccy
 ·simp only[own,z6,yI,yb]at q
  rcases q with q|q|q|q|q|q|(⟨c,mc,q⟩|⟨c,mc,q⟩)|⟨c,mc,q⟩
  ·rw[q];exact(s1.trans s2).free fcd
  ·rw[q];exact fd
  ·rw[q];exact fr3 fb3
  ·rw[q];exact fr3 fu3
  ·rw[q];exact fr3 hg
  ·rw[q];exact fr3 fs3
  ·rw[<- q];exact(s1.trans s2).free (fc c mc).2.1
  ·rw[<- q];exact(s1.trans s2).free (fc c mc).1
  ·rw[<- q];exact nlA.2 c mc
 ·have hp3:=s3 _ _ hpc
  simp only[own,z6,yI,yb]at q;rcases q with q|q|q|q|q|q|(⟨c,mc,q⟩|⟨c,mc,q⟩)|⟨c,mc,q⟩
  ·rw[q,fcd]at hpc;cases hpc
  ·rw[q,hd2]at hpc;cases hpc
  ·rw[q,fb3]at hp3;cases hp3
  ·rw[q,fu3]at hp3;cases hp3
  ·rw[q,hg]at hp3;cases hp3
  ·rw[q,fs3]at hp3;cases hp3
  ·rw[<- q,(fc c mc).2.1]at hpc;cases hpc
  ·rw[<- q,(fc c mc).1]at hpc;cases hpc
  ·exact aC (AC.ls c mc) fpc q
theorem law_starts{H:Hp}{p:Addr}{ns:List Int}(hO:xO H)(hS:SqL K H p (ns.map V.int))(hl:ns.length<=63):sp_law K [.ref p] H (fun v _=>v = .bl true) fun _ _ _=>False:=⟨BB hO,ns,hS,hl,fun _=>rfl⟩
end
noncomputable abbrev GF(x q:Str)(s:Stmt)(kV dc pm:Value)(an:Option Addr)(cd ct:Value):FuncData:=Yx x q (aB s) (au s) (ae s) .none kV dc pm an cd ct
section
variable{K:W.Frag}{h:Heap}{mg:Str->Option Value}{x qual:Str}{st:Stmt}{f g C:Addr}{oc:Value}{od an:Option Addr}{osl:Array (Option Value)}{kV doc pm cdv ct:Value}{cl:ClassData}
theorem nf_of(X:K.In h)(G:h.Ns Zb mg)(a:PySem.W.nsIn K Zb x=some (some (.ref f)))(l:K.lookup f=some ⟨oc,od,.func (GF x x st kV doc pm an cdv ct),osl⟩)(c:PySem.W.codeIn K cdv x=true)(k:ZJ K (.ref f)=true):DfN K mg x st:=⟨_,_,PySem.W.mg_of X G a,vi l c k⟩
theorem mf_of(a:vj K (.ref C) x=some (some (.ref f)))(i:PySem.W.isFn K (.ref f)=true)(l:K.lookup f=some ⟨oc,od,.func (GF x qual st kV doc pm an cdv ct),osl⟩)(c:PySem.W.codeIn K cdv qual=true)(k:ZJ K (.ref f)=true):DfM K C x qual st:=⟨_,_,⟨a,i,k⟩,vi l c k⟩
theorem exI_of(a:vj K (.ref C) "__init__" = some (some (.ref g)))(q:jw K C g=true)(f:Addr)(b:vj K (.ref C) "__init__" = some (some (.ref f))):jw K C f=true:=by rw[a]at b;cases b;exact q
theorem exc_of(u:vj K (.ref C) "__getattribute__" = some (some (.builtin "BaseException.__getattribute__")))(w:vj K (.ref C) "__getattr__" = some none)(y:vj K (.ref C) "__class__" = some (some (.builtin "object.__class__")))(o:PySem.W.clsIn K C=some cl)(g:Yo K C (.type "object")=some true)(b:Yo K C (.type "BaseException")=some true):cE K C:=⟨u,w,y,(by rw[o];rfl),g,b⟩
theorem cst_of{its:Array Value}{n:Nat}{vs:List V}{d:Option Addr}{sl:Array (Option Value)}(l:K.lookup f=some ⟨.type "tuple",d,.seq its n,sl⟩)(z:its.size<=sizeLine)(v:Vals vs its.toList):∃(o:Obj) (its:Array Value) (n:Nat),K.lookup f=some o/\o.cls = .type "tuple" /\ o.data = .seq its n/\its.size<=sizeLine/\Vals vs its.toList:=⟨_,_,_,l,rfl,rfl,z,v⟩
theorem fin_of{l:PySem.W.OpenLaw}{w:World}{fa:Addr}{a:Adr}(hfa:mg "law" = some (.ref fa))(T:Txt K mg a)(e:mg "law" = some (.ref a.eX)):∃fd:FuncData,(∀(s:Shared) (v:Value),BindsTo s fd ⟨[v],[]⟩ [("_law_script",v)])/\∀base:Heap,K.In base->base.Ns Zb mg->hV l.prog w K mg base (XE l.prog w) 14 fa fd ["_law_script"] (sp_law K):=by
 cases hfa.symm.trans e;obtain⟨fd,F⟩:=T.GH;refine⟨fd,fun s v=>?_,fun base _ _=>FF T F⟩;obtain⟨oc,od,kV,doc,pm,an,cdv,ct,osl,e,lk,hcd⟩:=F.ex;rw[e];exact .of_eq rfl
end
end K24
open PySem PySem.W PyProof.Rows
theorem PySem.Challenge.cw_evenhall_k24_whole_closed_stays_holds : PySem.Challenge.rw_evenhall_k24_whole_closed_stays.Holds := by
 w_on
 refine PySem.W.holds_law K24.ws fun said=>?_;refine PySem.W.holds_open (q:=K24.vw) (loose:=[]) (Xt:=fun s=>PySem.W.xlAt K24.vw [] s&&PySem.W.recOk (Ys (ZC (Yk Qq))) s) (XP:=PySem.W.XL K24.vw []) (Yf:=PySem.W.Hook.obs (YW K24.frag K24.adrs K24.adrs_eq)) (Ya:=PySem.W.Hook.val (YW K24.frag K24.adrs K24.adrs_eq)) (YP:=PySem.W.Hook.says (YW K24.frag K24.adrs K24.adrs_eq)) (N:=16322) K24.left (PySem.W.Hook.of (YW K24.frag K24.adrs K24.adrs_eq)) (PySem.W.Hook.keeps (YW K24.frag K24.adrs K24.adrs_eq))
  (fun s e=>PySem.W.xl_of s (Bool.and_eq_true_iff.mp e).1) PySem.W.XL.keeps (by rfl) (by rfl) (by rfl) (fun s e=>PySem.W.recFacts_of (Bool.and_eq_true_iff.mp e).2) (by rfl) (by assumption) (by decide +kernel) ⟨rfl,rfl,rfl,rfl,rfl,by decide +kernel⟩ ?hw ?hc
 (case hw=>w_witness2)
 k_fill
 refine L2.z9 (l:=Qq) (n:=63) (k:=14) (x:="_law_script") (sp:=K24.sp_law) rfl (by decide) rfl ⟨rfl,by decide,by decide⟩ (fun w h Y=>PySem.W.kIn_of Y) ?F ?S
 case F=>
  intro w mg fa h KX G hmg;refine' K24.fin_of (a:=⟨1000,31,51,70,89,108,127,146,165,184,203,222,241,260,286,305,324,343,362,585,652,748,816,872,455,621⟩) hmg ?T (PySem.W.mg_of KX G (by k_is))
  case T=>
  constructor
  all_goals try dsimp only
  all_goals first|exact PySem.W.mg_of KX G (by k_is)|exact PySem.W.mg_none_of KX G (by k_is)|exact K24.nf_of KX G (by k_is) (by k_is) (by k_is) (by k_is)|exact K24.mf_of (by k_is) (by k_is) (by k_is) (by k_is) (by k_is)|exact⟨_,L2.vi (by k_is) (by k_is) (by k_is)⟩|exact⟨by k_is,by k_is,by k_is,by k_is⟩|(unfold L2.NoAttr;k_is)|exact⟨by k_is,by k_is⟩|(unfold K24.zzX;k_exc)|exact K24.exc_of (by k_is) (by k_is) (by k_is) (by k_is) (by k_is) (by k_is)|exact L2.yU (by k_is) (by k_is) (by k_is) (by k_is)|exact K24.exI_of (by k_is) (by kernel_rfl)|exact⟨by k_is,by kernel_rfl,by k_is,by k_is⟩|exact K24.cst_of (by k_is) (by show _<=sizeLine;decide) (by repeat first|exact .nil|refine .cons ⟨_,rfl⟩ ?_)
 case S=>exact fun K H a ns hl hO hS=>K24.law_starts hO hS hl
